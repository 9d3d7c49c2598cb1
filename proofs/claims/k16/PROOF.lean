import PyProof.Rows.All
import Wide.All
import OpenK.AllK
import Wide.FinOn
import Lean
import PyProof.EqAt
import PyProof.EqKinds
import PyProof.TupleCall
import PyProof.NeKinds
import PyProof.ListRange
import PyProof.TupleOfGen
import PyProof.DictRoadsH
import PyProof.Rows.FStr
import PyProof.ExcBaseAll.ValueError
import PyProof.ExcClass2
import PyProof.ExcArgsOwn
import PyProof.ExcAttrAll.ValueError
import KE.KIsAll
import PyProof.RulesAs
import PyProof.NsDelKeeps
import PyProof.ConsumeWalk
import PyProof.ZipIter
import PyProof.Rows.ZipGen
import PyProof.Rows.SeqGen
import PyProof.Rows.FactsT2
import PyProof.WalkInts
import PyProof.Rows.MinMaxN
import KE.KSortAsk
import PyProof.Rows.FactsT3
import PyProof.Rows.CallKwBuiltin
import KE.KMinKey
import PyProof.Conv_int_bool
import PySem.Challenge.RW_arrowhall_k16_whole_read_through
set_option Elab.async false
set_option linter.all false
set_option maxRecDepth 100000
set_option maxHeartbeats 4000000
def ϊ:=@List.getD_eq_getElem?_getD
def ϋ:=@List.length_map
def ό:=@List.mem_range
def ύ:=@List.all_eq_true
def ώ:=@List.getElem?_eq_some_iff
def Ϗ:=@List.getElem?_eq_getElem
def ϐ:=@List.mem_append_right
def ϑ:=@List.mem_cons_of_mem
def ϒ:=@PySem.Heap.get?_push_of_some
def ϓ:=@List.mem_singleton
def ϔ:=@PySem.Heap.lt_size
def ϕ:=@Eq.trans
def ϖ:=@List.getElem?_set_ne
def ϗ:=@Nat.le_refl
def Ϙ:=@List.getElem_mem
def ϙ:=@Bool.false_ne_true
def Ϛ:=@Nat.lt_of_lt_of_le
def ϛ:=@List.mem_cons_self
def Ϝ:=@List.length_append
def ϝ:=@Bool.and_eq_true
def Ϟ:=@List.size_toArray
def ϟ:=@List.mem_append_left
def Ϡ:=@List.not_mem_nil
def ϡ:=@List.getElem?_append_left
def Ϣ:=@List.mem_cons
def ϣ:=@Nat.le_trans
def Ϥ:=@Option.some.inj
def ϥ:=@List.getElem?_map
def Ϧ:=@List.map_congr_left
def ϧ:=@PySem.Heap.get?_push_size
def Ϩ:=@List.mem_append
def ϩ:=@List.map_map
def Ϫ:=@List.append_nil
def ϫ:=@List.length_cons
def Ϭ:=@List.map_append
def ϭ:=@Nat.ne_of_lt
def Ϯ:=@List.map_cons
def ϯ:=@PySem.Heap.get?_update_other
def ϰ:=@List.length_set
def ϱ:=@List.mem_map
def ϲ:=@List.mem_iff_getElem
def ϳ:=@Bool.and_eq_true_iff
def ϴ:=@PySem.F.plainAttrs_list
def ϵ:=@List.getElem_map
def Ϸ:=@List.getElem?_append_right
def ϸ:=@List.length_range
def Ϲ:=@List.getElem?_set_self
def Ϻ:=@Nat.lt_irrefl
def ϻ:=@List.length_replicate
def Α:=@Int.toNat_natCast
def Β:=@List.getElem?_cons_succ
def Γ:=@List.lookup_cons
def Δ:=@Int.toNat_of_nonneg
def Ε:=@Option.isSome_iff_exists
def Ζ:=@Bool.false_eq_true
def Η:=@List.mem_of_getElem?
def Θ:=@List.length_take
def Ι:=@List.getElem?_replicate
def Κ:=@PySem.mem_of_lookup
def Λ:=@Nat.zero_add
def Μ:=@Bool.true_and
def Ν:=@Ne.symm
def Ξ:=@List.replicate_succ
def Ο:=@PyProof.Rows.callWith_type1
def Ρ:=@Nat.zero_le
def Τ:=@List.mem_flatMap
def Υ:=@List.mem_filter
def Φ:=@List.take_succ_eq_append_getElem
def Χ:=@List.getElem?_set
def Ψ:=@PySem.F.slot_list_index
def Ω:=@List.length_pos_of_mem
def α:=@List.range_succ
def γ:=@Bool.not_true
def δ:=@List.flatten_cons
def ε:=@PySem.Obj.data_mapFields
def ζ:=@PySem.Obj.isFreed_of_fields
def η:=@Nat.le_add_right
def θ:=@List.prefix_refl
def ι:=@PySem.Heap.get?_update_self
def μ:=@List.drop_eq_getElem_cons
def ν:=@Array.length_toList
def ξ:=@List.nodup_cons
def ο:=@Int.emod_lt_of_pos
def π:=@List.getElem?_cons_zero
def ς:=@Int.ofNat_lt
def τ:=@List.getElem?_eq_none
def υ:=@List.ext_getElem
def χ:=@PySem.Heap.size_push
def ψ:=@List.cons.injEq
def ω:=@Int.emod_nonneg
open PySem.W (instObj Frag InstAt plainGet hasDictIn findIn emptyDict specialIn takesIn mroIn kitOne kia_one keepIn cellsFrom_some fnOf codeIn nsIn callWith_K excIn mg_of mg_none_of)
noncomputable section
namespace L2
open PySem PySem.Spec PyProof.Rows
abbrev Key:=Sum Int Str
def Cd:Key->Value->Bool
 | .inl k,v=>Value.isInt k v
 | .inr x,v=>Value.isStrOf x v
def Ho (w:World):Key->Int
 | .inl k=>hashInt k
 | .inr x=>hashStr w x
theorem bC:∀{k:Key} {v:Value},Cd k v=true->(∃i t,k=Sum.inl i/\v=Value.int i t)\/(∃x t,k=Sum.inr x/\v=Value.str x t)
 | .inl i,v,h=>by
  obtain⟨t,e⟩:=Value.isInt_shape (k:=i) (v:=v) h;exact .inl ⟨i,t,rfl,e⟩
 | .inr x,v,h=>by
  obtain⟨t,e⟩:=Value.isStrOf_shape (x:=x) (v:=v) h;exact .inr ⟨x,t,rfl,e⟩
theorem Ea (a b:Int):decide ((Sum.inl a:Key)=Sum.inl b)=(a==b):=by
 by_cases e:a=b
 ·subst e;simp
 ·have h:¬ (Sum.inl a:Key)=Sum.inl b:=λq=>e (Sum.inl.inj q);rw[decide_eq_false h];exact(beq_eq_false_iff_ne.mpr e).symm
theorem D8 (a b:Str):decide ((Sum.inr a:Key)=Sum.inr b)=decide (a=b):=by
 by_cases e:a=b
 ·subst e;simp
 ·have h:¬ (Sum.inr a:Key)=Sum.inr b:=λq=>e (Sum.inr.inj q);rw[decide_eq_false h,decide_eq_false e]
theorem D_ (a:Int) (b:Str):decide ((Sum.inl a:Key)=Sum.inr b)=false:=decide_eq_false (λq=>nomatch q)
theorem D9 (a:Str) (b:Int):decide ((Sum.inr a:Key)=Sum.inl b)=false:=decide_eq_false (λq=>nomatch q)
def uK (prog:Program) (w:World):PySem.KeyKind prog w Key where
 is:=Cd
 hash:=Ho w
 inj:=λv a b ha hb=>by
  rcases bC ha with⟨i,t,rfl,rfl⟩|⟨x,t,rfl,rfl⟩
  ·rcases bC hb with⟨j,u,rfl,e⟩|⟨y,u,rfl,e⟩
   ·injection e with e1 _;rw[e1]
   ·exact nomatch e
  ·rcases bC hb with⟨j,u,rfl,e⟩|⟨y,u,rfl,e⟩
   ·exact nomatch e
   ·injection e with e1 _;rw[e1]
 byValue:=λk v h=>by
  rcases bC h with⟨i,t,rfl,rfl⟩|⟨x,t,rfl,rfl⟩<;>rfl
 pyHash:=λhv h=>by
  rcases bC hv with⟨i,t,rfl,rfl⟩|⟨x,t,rfl,rfl⟩
  ·exact wpAny_pyHash_int h
  ·exact wpAny_pyHash_str h
 eqBool:=λhu hv h=>by
  rcases bC hu with⟨i,t,rfl,rfl⟩|⟨x,t,rfl,rfl⟩
  ·rcases bC hv with⟨j,u,rfl,rfl⟩|⟨y,u,rfl,rfl⟩
   ·rw[Ea]at h;exact wpAny_eqBool_int h
   ·rw[D_]at h;exact SeqAt.EqAt.int_str i t y u _ _ _ _ h
  ·rcases bC hv with⟨j,u,rfl,rfl⟩|⟨y,u,rfl,rfl⟩
   ·rw[D9]at h;exact SeqAt.EqAt.str_int x t j u _ _ _ _ h
   ·rw[D8]at h;exact wpAny_eqBool_str h
 «strs»:=λk x t v h=>by
  rcases bC h with⟨i,u,rfl,e⟩|⟨y,u,rfl,e⟩
  ·exact nomatch e
  ·injection e with e1 _;subst e1;cases v<;>rfl
end L2
namespace L2
open PySem PySem.Spec PyProof.Rows
inductive V where
 | non|bl (b:Bool)|int (i:Int)|str (x:Str)|byt (b:Array UInt8)|flt (b:UInt64)|ref (a:Addr)|ty (n:String)
 deriving DecidableEq
def RelV:V->Value->Prop
 | .non,u=>u=Value.none
 | .bl b,u=>u=Value.bool b
 | .int i,u=>∃t,u=Value.int i t
 | .str x,u=>∃t,u=Value.str x t
 | .byt b,u=>∃t,u=Value.bytes b t
 | .flt b,u=>∃t,u=Value.float b t
 | .ref a,u=>u=Value.ref a
 | .ty n,u=>u=Value.type n
abbrev Vals:List V->List Value->Prop:=Paired RelV
theorem Vals.length {xs:List V} {us:List Value} (r:Vals xs us):xs.length=us.length:=Paired.length r
theorem Vals.get:∀{xs:List V} {us:List Value} {i:Nat} {x:V},Vals xs us->xs[i]?=some x->∃u,us[i]?=some u/\RelV x u
 | _,_,_,_,.nil,e=>by simp at e
 | _,_,0,_,.cons r _,e=>by simp at e;subst e;exact⟨_,rfl,r⟩
 | _,_,i+1,x,.cons _ t,e=>by
  obtain⟨u,h1,h2⟩:=Vals.get (i:=i) (x:=x) t (by simpa using e);exact⟨u,by simpa using h1,h2⟩
theorem Vals.set {x:V} {u:Value} (r:RelV x u):∀{xs:List V} {us:List Value} (i:Nat),Vals xs us->Vals (xs.set i x) (us.set i u)
 | _,_,_,.nil=>.nil
 | _,_,0,.cons _ t=>.cons r t
 | _,_,i+1,.cons q t=>.cons q (Vals.set r i t)
theorem Vals.append:∀{xs ys:List V} {us ws:List Value},Vals xs us->Vals ys ws->Vals (xs++ys) (us++ws)
 | _,_,_,_,.nil,s=>s
 | _,_,_,_,.cons r t,s=>.cons r (Vals.append t s)
theorem Vals.take:∀{xs:List V} {us:List Value} (n:Nat),Vals xs us->Vals (xs.take n) (us.take n)
 | _,_,0,_=>.nil
 | _,_,_+1,.nil=>.nil
 | _,_,n+1,.cons r t=>.cons r (Vals.take n t)
theorem Vals.drop:∀{xs:List V} {us:List Value} (n:Nat),Vals xs us->Vals (xs.drop n) (us.drop n)
 | _,_,0,r=>r
 | _,_,_+1,.nil=>.nil
 | _,_,n+1,.cons _ t=>Vals.drop n t
def RelO:Option V->Option Value->Prop
 | some v,some u=>RelV v u
 | none,none=>True
 | _,_=>False
def KV {κ:Type}:List (κ×V)->List (κ×Value)->Prop:=Paired λ(p:κ×V) (q:κ×Value)=>p.1=q.1/\RelV p.2 q.2
def kV:Key->V
 | .inl i=>.int i
 | .inr x=>.str x
inductive HO where
  | lst (xs:List V)
  | tup (xs:List V)
  | dK (kvs:List (Key×V))|dT (kvs:List (List Key×V))
  | set (S:Int->Bool) (n:Nat)
  | ins (C dx:Addr) (fs:List (Str×V))
  | own (x:Addr)
  | xd (fs:List (Str×V))
  | met (f x:Addr)
  | rng (lo hi:Int)
  | frz (o:Obj) (u:HO)
  | tbl (ps:Array Value)
  | ext (φ:Heap->Prop)
abbrev Hp:=Addr->Option HO
def upd (H:Hp) (a:Addr) (o:HO):Hp:=λb=>if b=a then some o else H b
variable {H:Hp} {a:Addr}
theorem ax {o:HO}:upd H a o a=some o:=by unfold upd;rw[if_pos rfl]
variable {b:Addr}
theorem am {o:HO} (h:b≠a):upd H a o b=H b:=by unfold upd;rw[if_neg h]
theorem aD {o:HO} (h:H a=some o) (h':H b=none):a≠b:=by
 intro e;subst e;rw[h]at h';cases h'
section
variable (P:Program) (w:World)
def ObjOk (H:Hp) (h:Heap) (a:Addr):HO->Prop
 | .lst xs=>xs.length<=sizeLine/\∃(its:List Value) (n:Nat),Vals xs its/\h.get? a=some { cls:=.type "list",data:=.seq its.toArray n }
 | .tup xs=>xs.length<=sizeLine/\∃its:List Value,Vals xs its/\IsTup h a its.toArray
 | .dK kvs=>kvs.length<=sizeLine/\(a==sysModules)=false/\∃vs,KV kvs vs/\h.DictOf (uK P w) a vs
 | .dT kvs=>kvs.length<=sizeLine/\(a==sysModules)=false/\∃xs:List (List Key×Addr×Value),
   Paired (λ(p:List Key×V) (q:List Key×Addr×Value)=>p.1=q.1/\H q.2.1=some (.tup (p.1.map kV))/\RelV p.2 q.2.2) kvs xs /\
   ∃o es ep,h.get? a=some o/\o.ExactDict/\o.data=.dict es ep/\es.toList=xs.map (entryOfKey (tupleKind (uK P w)))/\(xs.map (·.1)).Nodup
 | .set S n=>h.SetOf (intKind P w) a S n
 | .ins C dx fs=>H dx=some (.own a)/\fs.length<=1000/\dx≠a/\h.get? a=some (instObj C dx) /\
   ∃mA,h.Ns1 dx mA/\(∀f,RelO (fs.lookup f) (mA f))/\PySem.Within mA (fs.map (·.1))
 | .own _=>∃o,h.get? a=some o
 | .xd fs=>∃mA,h.Ns1 a mA/\∀f,RelO (fs.lookup f) (mA f)
 | .rng lo hi=>∃t u v,h.get? a=some { cls:=.type "range",data:=.fields #[.int lo t,.int hi u,.int 1 v] }
 | .frz o u=>h.get? a=some o/\ObjOk H h a u
 | .tbl ps=>h.get? a=some { cls:=.none,data:=.fields ps }
 | .met f x=>h.get? a=some (PySem.W.methodObj (.ref f) (.ref x))
 | .ext φ=>φ h/\(∃o,h.get? a=some o)/\∀h1 h2:Heap,φ h1->(∀o,h1.get? a=some o->h2.get? a=some o)->φ h2
def HOk (H:Hp) (h:Heap):Prop:=∀a o,H a=some o->ObjOk P w H h a o
end
section
variable {P:Program} {w:World} {H H':Hp} {h h':Heap} {a:Addr} {o:HO}
theorem ObjOk.lt (x:ObjOk P w H h a o):a<h.objs.size:=by
 cases o with
 | lst xs=>obtain⟨_,_,_,_,e⟩:=x;exact ϔ e
 | tup xs=>obtain⟨_,_,_,p⟩:=x;exact p.lt
 | dK kvs=>obtain⟨_,_,_,_,o,_,_,e,_⟩:=x;exact ϔ e
 | dT kvs=>obtain⟨_,_,_,_,o,_,_,e,_⟩:=x;exact ϔ e
 | set S n=>obtain⟨o,_,_,_,e,_⟩:=x;exact ϔ e
 | ins C dx fs=>obtain⟨_,_,_,e,_⟩:=x;exact ϔ e
 | own y=>obtain⟨_,e⟩:=x;exact ϔ e
 | xd fs=>obtain⟨_,⟨_,_,_,e,_⟩,_⟩:=x;exact ϔ e
 | rng lo hi=>obtain⟨_,_,_,e⟩:=x;exact ϔ e
 | frz ob u=>obtain⟨e,_⟩:=x;exact ϔ e
 | tbl ps=>exact ϔ (show h.get? a=some _ from x)
 | met f y=>exact ϔ (show h.get? a=some _ from x)
 | ext φ=>obtain⟨_,⟨_,e⟩,_⟩:=x;exact ϔ e
theorem Paired.mapP {Y β:Type} {F G:Y->β->Prop}:∀{l₁:List Y} {l₂:List β},Paired F l₁ l₂->(∀a b,F a b->G a b)->Paired G l₁ l₂
 | _,_,.nil,_=>.nil
 | _,_,.cons r t,f=>.cons (f _ _ r) (Paired.mapP t f)
theorem ObjOk.stay (x:ObjOk P w H h a o) (k:∀b u,(b=a\/H b=some (.own a))->h.get? b=some u->h'.get? b=some u)
  (ho:∀b,H b=some (.own a)->H' b=some (.own a)) (ht:∀b xs,H b=some (.tup xs)->H' b=some (.tup xs)):ObjOk P w H' h' a o:=by
 induction o with
 | lst xs=>obtain⟨z,its,n,r,e⟩:=x;exact⟨z,its,n,r,k _ _ (.inl rfl) e⟩
 | tup xs=>obtain⟨z,its,r,ob,e,c⟩:=x;exact⟨z,its,r,ob,k _ _ (.inl rfl) e,c⟩
 | dK kvs=>obtain⟨z,y,vs,r,ob,es,ep,e,c⟩:=x;exact⟨z,y,vs,r,ob,es,ep,k _ _ (.inl rfl) e,c⟩
 | dT kvs =>
  obtain⟨z,y,xs,r,ob,es,ep,e,c⟩:=x;exact⟨z,y,xs,Paired.mapP r λp q z=>⟨z.1,ht _ _ z.2.1,z.2.2⟩,ob,es,ep,k _ _ (.inl rfl) e,c⟩
 | set S n=>obtain⟨ob,es,ep,t,e,c⟩:=x;exact⟨ob,es,ep,t,k _ _ (.inl rfl) e,c⟩
 | ins C dx fs =>
  obtain⟨d,z,ne,e,mA,⟨od,es,ep,e2,c⟩,r⟩:=x;exact⟨ho _ d,z,ne,k _ _ (.inl rfl) e,mA,⟨od,es,ep,k _ _ (.inr d) e2,c⟩,r⟩
 | own y=>obtain⟨ob,e⟩:=x;exact⟨ob,k _ _ (.inl rfl) e⟩
 | xd fs=>obtain⟨mA,⟨od,es,ep,e,c⟩,r⟩:=x;exact⟨mA,⟨od,es,ep,k _ _ (.inl rfl) e,c⟩,r⟩
 | rng lo hi=>obtain⟨t,u,v,e⟩:=x;exact⟨t,u,v,k _ _ (.inl rfl) e⟩
 | frz ob u ih=>obtain⟨e,q⟩:=x;exact⟨k _ _ (.inl rfl) e,ih q⟩
 | tbl ps =>
  have e:h.get? a=some { cls:=.none,data:=.fields ps }:=x;show h'.get? a=some { cls:=.none,data:=.fields ps };exact k a _ (.inl rfl) e
 | met f y =>
  have e:h.get? a=some (PySem.W.methodObj (.ref f) (.ref y)):=x;show h'.get? a=some (PySem.W.methodObj (.ref f) (.ref y));exact k a _ (.inl rfl) e
 | ext φ=>obtain⟨p,⟨o,e⟩,st⟩:=x;exact⟨st _ _ p λo q=>k _ _ (.inl rfl) q,⟨o,k _ _ (.inl rfl) e⟩,st⟩
theorem HOk.lt (x:HOk P w H h) (e:H a=some o):a<h.objs.size:=(x a o e).lt
theorem HOk.fresh (x:HOk P w H h) (e:h.objs.size<=a):H a=none:=by
 cases q:H a with
 | none=>rfl
 | some u=>exact absurd (Ϛ (x.lt q) e) (Ϻ _)
theorem HOk.kept (x:HOk P w H h) (k:∀b u,h.get? b=some u->h'.get? b=some u):HOk P w H h':=λa o e =>
 (x a o e).stay (λb u _ q=>k b u q) (λ_ q=>q) λ_ _ q=>q
theorem HOk.laid (x:HOk P w H h) (k:∀b u,h.get? b=some u->h'.get? b=some u) (hp:h.objs.size<=a) (new:ObjOk P w (upd H a o) h' a o):HOk P w (upd H a o) h':=λb u e=>by
 have hn:=x.fresh hp;by_cases hb:b=a
 ·subst hb;rw[ax]at e;cases e;exact new
 ·rw[am hb]at e;exact(x b u e).stay (λc v _ q=>k c v q) (λc q=>by rw[am (aD q hn)];exact q) λc xs q=>by rw[am (aD q hn)];exact q
end
def Rd (H:Hp) (a:Addr) (u:HO):Prop:=H a=some u\/∃o,H a=some (.frz o u)
variable {h:Heap}
theorem Rd.ok {P:Program} {w:World} {u:HO} (r:Rd H a u) (x:HOk P w H h):ObjOk P w H h a u:=by
 rcases r with r|⟨o,r⟩
 ·exact x a u r
 ·obtain⟨_,q⟩:=x a _ r;exact q
def Mut:Option HO->Prop
 | some (.lst _)=>True
 | some (.dK _)=>True
 | some (.dT _)=>True
 | some (.set _ _)=>True
 | some (.ins _ _ _)=>True
 | some (.ext _)=>True
 | _=>False
section
variable {P:Program} {w:World} {H:Hp} {h h':Heap} {x e:Addr} {o':HO}
theorem HOk.write (ok:HOk P w H h) (mu:Mut (H x)) (he:e=x\/H e=some (.own x)) (k:∀b u,b≠e->h.get? b=some u->h'.get? b=some u) (heo:∃u,h'.get? e=some u)
  (new:ObjOk P w (upd H x o') h' x o'):HOk P w (upd H x o') h':=λb u q=>by
 have nown:∀c y,H c=some (.own y)->c≠x:=λc y r z=>by subst z;rw[r]at mu;exact mu
 have ntup:∀c xs,H c=some (.tup xs)->c≠x:=λc xs r z=>by subst z;rw[r]at mu;exact mu
 by_cases hb:b=x
 ·subst hb;rw[ax]at q;cases q;exact new
 ·rw[am hb]at q;by_cases hbe:b=e
  ·have q':H b=some (.own x):=by
    rcases he with z|z
    ·exact absurd (hbe.trans z) hb
    ·rw[hbe];exact z
   rw[q]at q';cases q';obtain⟨v,hv⟩:=heo;exact⟨v,by rw[hbe];exact hv⟩
  ·refine(ok b u q).stay (λc v hc r=>k c v ?_ r) (λc r=>by rw[am (nown c b r)];exact r) λc xs r=>by rw[am (ntup c xs r)];exact r
   rcases hc with rfl|hc
   ·exact hbe
   ·rintro rfl;rcases he with z|z
    ·exact nown c b hc z
    ·rw[hc]at z;cases z;exact hb rfl
end
structure Un (fs ex:List Addr) (H H':Hp) (h h':Heap):Prop where
 keep:∀b o,h.get? b=some o->H b=none->b∉fs->b∉ex->h'.get? b=some o
 slot:∀b o,h.get? b=some o->H b=none->b∈fs->b∉ex->∃sl,h'.get? b=some { o with slots:=sl }
 free:∀b o,h.get? b=some o->H b=none->b∉ex->H' b=none
 there:∀b o,h.get? b=some o->b∉ex->∃o',h'.get? b=some o'
 tups:∀b xs,H b=some (.tup xs)->H' b=some (.tup xs)
 frzs:∀b o u,H b=some (.frz o u)->H' b=some (.frz o u)
 tbls:∀b ps,H b=some (.tbl ps)->∃more,H' b=some (.tbl (ps++more))
section
variable {fs fs' ex ex':List Addr} {H H1 H2:Hp} {h h1 h2 h':Heap} {a x e:Addr} {o:HO}
theorem Un.any (u:Un fs ex H H1 h h1) {ob:Obj} (q:h.get? b=some ob) (n:H b=none) (hx:b∉ex):∃sl,h1.get? b=some { ob with slots:=sl }:=by
 by_cases hb:b∈fs
 ·exact u.slot b ob q n hb hx
 ·exact⟨ob.slots,u.keep b ob q n hb hx⟩
theorem Un.kept (k:∀b u,h.get? b=some u->h'.get? b=some u):Un fs ex H H h h' :=
 ⟨λb ob q _ _ _=>k b ob q,λb ob q _ _ _=>⟨ob.slots,k b ob q⟩,λ_ _ _ n _=>n,λb ob q _=>⟨ob,k b ob q⟩,λ_ _ q=>q,λ_ _ _ q=>q,λ_ ps q=>⟨#[],by rw[q];simp⟩⟩
theorem Un.refl:Un fs ex H H h h:=Un.kept λ_ _ q=>q
theorem Un.laid (k:∀b u,h.get? b=some u->h'.get? b=some u) (hp:h.objs.size<=a) (hn:H a=none):Un fs ex H (upd H a o) h h' where
 keep:=λb u q _ _ _=>k b u q
 slot:=λb u q _ _ _=>⟨u.slots,k b u q⟩
 free:=λb u q n _=>by rw[am (ϭ (Ϛ (ϔ q) hp))];exact n
 there:=λb u q _=>⟨u,k b u q⟩
 tups:=λb xs q=>by rw[am (aD q hn)];exact q
 frzs:=λb u xs q=>by rw[am (aD q hn)];exact q
 tbls:=λb ps q=>⟨#[],by rw[am (aD q hn),q];simp⟩
theorem Un.write (mu:Mut (H x)) (he:e=x\/H e=some (.own x)) (k:∀b u,b≠e->h.get? b=some u->h'.get? b=some u) (heo:∃u,h'.get? e=some u):Un fs ex H (upd H x o) h h':=by
 have hx:∀b,H b=none->b≠x:=λb n z=>by subst z;rw[n]at mu;exact mu
 have hb:∀b,H b=none->b≠e:=λb n z=>by
  subst z;rcases he with r|r
  ·exact hx b n r
  ·rw[n]at r;cases r
 have hm:∀b u,H b=some u->¬ Mut (some u)->b≠x:=λb u q nm z=>by subst z;rw[q]at mu;exact nm mu
 refine⟨λb u q n _ _=>k b u (hb b n) q,λb u q n _ _=>⟨u.slots,k b u (hb b n) q⟩,λb u q n _=>by rw[am (hx b n)];exact n,λb u q _=>?_,
  λb xs q=>by rw[am (hm b _ q λz=>z)];exact q,λb u xs q=>by rw[am (hm b _ q λz=>z)];exact q,λb ps q=>⟨#[],by rw[am (hm b _ q λz=>z),q];simp⟩⟩
 by_cases hbe:b=e
 ·subst hbe;exact heo
 ·exact⟨u,k b u hbe q⟩
end
def trk (h:Heap) (H:Hp):List Addr:=(List.range h.objs.size).filter λa=>(H a).isSome
def o5 (h:Heap) (H:Hp):Heap:=PySem.W.hideAll h (trk h H)
theorem vZ (h:Heap) (H:Hp):(o5 h H).objs.size=h.objs.size:=PySem.W.hideAll_size _ _
theorem ym {o:Obj} (e:h.get? b=some o) (n:H b=none):(o5 h H).get? b=some o :=
 PySem.W.hideAll_get _ e λhm=>by
  have q:(H b).isSome=true:=(Υ.mp hm).2;rw[n]at q;simp at q
theorem AG {o:Obj} (e:(o5 h H).get? b=some o):h.get? b=some o/\H b=none:=by
 have e':h.get? b=some o:=PySem.W.of_hideAll (trk h H) e;refine⟨e',?_⟩;cases q:H b with
 | none=>rfl
 | some x =>
  have hm:b∈trk h H:=Υ.mpr ⟨ό.mpr (ϔ e'),by simp[q]⟩;have z:(o5 h H).get? b=none:=PySem.W.hideAll_none (trk h H) hm;rw[z]at e;cases e
end L2
namespace L2
open PySem PySem.Spec PyProof.Rows
structure Mod (K:Frag) (mg:Str->Option Value) (base:Heap):Prop where
 kin:K.In base
 glob:base.Ns mainGlobals mg
 blt:∃mb,base.Ns builtinsNs mb/\∀x:Str,x ≠ "__name__"->mb x=bootBuiltins x
 nolimit:base.NoLimit
structure Cx where
 prog:Program
 w:World
 K:Frag
 mg:Str->Option Value
 base:Heap
 A:Around
 N:List Str
 s₀:Shared
 H₀:Hp
 env:Env
 outer:List Env
 stack:List Env
 ex:List Addr
 fn:Str->Bool
 calm:Bool
 pn:List (Addr×Obj)
 xe:Value->Shared->Prop
def frs (l:List Env):List Addr:=l.filterMap (·.frame)
abbrev Cx.fs (X:Cx):List Addr:=frs X.outer
def Vis (sc:Scope) (x:Str):Prop:=sc.names.lookup x=some .local\/sc.names.lookup x=some .cell\/sc.names.lookup x=some .free
def Loc (sc:Scope) (x:Str):Prop:=sc.names.lookup x=some .local\/sc.names.lookup x=some .cell
def HM (env:Env) (h:Heap) (m:Str->Option Value) (x:Str) (u:Value):Prop :=
 (env.kindOf x=some .local/\m x=some u)\/((env.kindOf x=some .cell\/env.kindOf x=some .free)/\∃c,env.cells.lookup x=some c/\h.IsCell c (some u))
structure Cx.Ok (X:Cx):Prop where
 mod:Mod X.K X.mg X.base
 kind:X.env.scope.kind=.function
 glob:X.env.globals=mainGlobals
 blt:X.env.builtins=builtinsNs
 above:X.s₀.heap.objs.size<=X.env.locals
 inj:∀x y c,X.env.cells.lookup x=some c->X.env.cells.lookup y=some c->x=y
 has:∀x,(X.env.kindOf x=some .cell\/X.env.kindOf x=some .free)->∃c,X.env.cells.lookup x=some c
 cab:∀x c,X.fn x=true->X.env.cells.lookup x=some c->X.s₀.heap.objs.size<=c
 hd:X.calm=true->X.A.handled=none
 frames:X.A.frames=some X.stack
 stk:X.stack=X.outer\/(X.stack=X.env::X.outer/\X.env.frame=some X.env.locals)
 exf:∀b∈X.ex,b≠X.env.locals/\∀x c,X.env.cells.lookup x=some c->c≠b
 bs:∀b o,X.base.get? b=some o->X.s₀.heap.get? b=some o/\X.H₀ b=none
 bsz:X.base.objs.size<=X.s₀.heap.objs.size
 noex:∀b o,X.base.get? b=some o->b∉X.ex
 exfs:∀b∈X.ex,b∉X.fs
 funs:X.s₀.heap.FunFrames X.base X.outer
 frf:∀b∈X.fs,X.H₀ b=none
structure Inv (X:Cx) (pins:List (Addr×Obj)) (O:List (Option V)) (H:Hp) (s:Shared):Prop where
 ok:X.Ok
 os:s.os=X.s₀.os
 bare:AllBare s.gens
 base:Un X.fs X.ex X.H₀ H X.s₀.heap s.heap
 loc:∃m,s.heap.Ns X.env.locals m/\∀(i:Nat) (x:Str) (v:V),X.N[i]?=some x->O[i]?=some (some v)->Vis X.env.scope x->∃u,RelV v u/\HM X.env s.heap m x u
 cell:∀x c,X.env.cells.lookup x=some c->∃v,s.heap.IsCell c v
 free:H X.env.locals=none
 freeC:∀x c,X.env.cells.lookup x=some c->H c=none
 pin:∀p∈X.pn++pins,s.heap.get? p.1=some p.2/\H p.1=none/\p.1≠X.env.locals/\p.1∉X.fs/\∀v,p.2.data ≠ .cell v
 hok:HOk X.prog X.w H s.heap
 len:O.length=X.N.length
variable {t' i:Nat} {ch:List Addr} {x:Str} {M:Model} {A:Around} {E:Value->Shared->Prop}
section
variable {X:Cx} {pins:List (Addr×Obj)} {O:List (Option V)} {H H':Hp} {s:Shared} {h':Heap}
theorem Cx.Ok.nofr (ok:X.Ok) {b:Addr} {o:Obj} (e:X.base.get? b=some o):b∉X.fs:=λhb=>by
 have:=(ok.funs.mem hb).1;rw[e]at this;cases this
theorem Inv.bs (I:Inv X pins O H s):∀b o,X.base.get? b=some o->s.heap.get? b=some o/\H b=none:=λb o e =>
 ⟨I.base.keep b o (I.ok.bs b o e).1 (I.ok.bs b o e).2 (I.ok.nofr e) (I.ok.noex b o e),I.base.free b o (I.ok.bs b o e).1 (I.ok.bs b o e).2 (I.ok.noex b o e)⟩
theorem Inv.bk (I:Inv X pins O H s):∀b o,X.base.get? b=some o->s.heap.get? b=some o:=λb o e=>(I.bs b o e).1
theorem Inv.mod (I:Inv X pins O H s):Mod X.K X.mg X.base:=I.ok.mod
theorem Inv.kIn (I:Inv X pins O H s):X.K.In s.heap:=I.ok.mod.kin.keeps I.bk
theorem Inv.lt (I:Inv X pins O H s):X.env.locals<s.heap.objs.size:=let ⟨_,hn,_⟩:=I.loc;hn.lt
theorem Inv.sz (I:Inv X pins O H s):X.s₀.heap.objs.size<=s.heap.objs.size:=ϣ I.ok.above (Nat.le_of_lt I.lt)
theorem Inv.nofs (I:Inv X pins O H s) {a:Addr} (h:s.heap.objs.size<=a):a∉X.fs:=λhb=>by
 obtain⟨_,o,ho,_⟩:=I.ok.funs.mem hb;exact absurd (Ϛ (ϔ ho) (ϣ I.sz h)) (Ϻ _)
theorem Inv.cne (I:Inv X pins O H s):∀x c,X.env.cells.lookup x=some c->c≠X.env.locals:=λx c e z=>by
 obtain⟨v,o,ho,hd⟩:=I.cell x c e;obtain⟨m,⟨o',es,ep,ho',hd',_⟩,_⟩:=I.loc;rw[z,ho']at ho;cases ho;rw[hd']at hd;cases hd
theorem Inv.funs (I:Inv X pins O H s):s.heap.FunFrames X.base X.outer:=by
 have all:∀(l:List Env),(∀b∈frs l,b∈X.fs)->X.s₀.heap.FunFrames X.base l->s.heap.FunFrames X.base l:=by
  intro l
  induction l with
  | nil=>intro _ _;trivial
  | cons env r ih =>
   intro hs hl;obtain⟨hk,⟨L,o,hf,hn,ho,hd⟩,hr⟩:=hl;have hL:L∈X.fs:=hs L (by unfold frs;rw[List.filterMap_cons,hf];exact ϛ);obtain⟨sl,e⟩:=I.base.slot L o ho (I.ok.frf L hL) hL λz=>I.ok.exfs L z hL;exact⟨hk,⟨L,_,hf,hn,e,hd⟩,ih (λb hb=>hs b (by unfold frs;rw[List.filterMap_cons,hf];exact ϑ _ hb)) hr⟩
 exact all X.outer (λ_ hb=>hb) I.ok.funs
theorem Inv.stack (I:Inv X pins O H s):s.heap.FunFrames X.base X.stack:=by
 rcases I.ok.stk with e|⟨e,hf⟩
 ·rw[e];exact I.funs
 ·rw[e];obtain⟨m,hn,_⟩:=I.loc;refine .cons (by rw[I.ok.kind];decide) hf hn ?_ I.funs;exact Heap.get?_none_of_le (ϣ I.ok.bsz I.ok.above)
theorem Inv.stkSub (I:Inv X pins O H s):∀b∈frs X.stack,b∈X.env.locals::X.fs:=λb hb=>by
 rcases I.ok.stk with e|⟨e,hf⟩
 ·rw[e]at hb;exact ϑ _ hb
 ·rw[e]at hb;unfold frs at hb;rw[List.filterMap_cons,hf]at hb;exact hb
theorem Inv.stkFree (I:Inv X pins O H s):∀b∈frs X.stack,H b=none:=λb hb=>by
 rcases Ϣ.mp (I.stkSub b hb)with e|hb
 ·rw[e];exact I.free
 ·obtain⟨_,o,ho,_⟩:=I.ok.funs.mem hb;exact I.base.free b o ho (I.ok.frf b hb) λz=>I.ok.exfs b z hb
theorem Inv.step {g':Array GenState} {d':Drawn} (I:Inv X pins O H s)
  (hch:∀b∈ch,(b∈X.ex\/X.s₀.heap.objs.size<=b)/\b≠X.env.locals/\(∀x c,X.env.cells.lookup x=some c->c≠b)/\∀p∈X.pn++pins,p.1≠b)
  (keep:∀b o,b≠X.env.locals->b∉X.fs->b∉ch->s.heap.get? b=some o->H b=none->h'.get? b=some o)
  (slot:∀b o,b≠X.env.locals->b∈X.fs->b∉ch->s.heap.get? b=some o->H b=none->∃sl,h'.get? b=some { o with slots:=sl }) (free:∀b o,b∉ch->s.heap.get? b=some o->H b=none->H' b=none)
  (there:∀b o,b∉ch->s.heap.get? b=some o->∃o',h'.get? b=some o')
  (tups:∀b xs,H b=some (.tup xs)->H' b=some (.tup xs)) (frzs:∀b o u,H b=some (.frz o u)->H' b=some (.frz o u)) (tbls:∀b ps,H b=some (.tbl ps)->∃more,H' b=some (.tbl (ps++more)))
  (ns:∀m,s.heap.Ns X.env.locals m->h'.Ns X.env.locals m) (hok:HOk X.prog X.w H' h') (hg:AllBare g') :
  Inv X pins O H' { s with heap:=h',gens:=g',drawn:=d',toks:=t' }:=by
 have neL:∀b o,X.s₀.heap.get? b=some o->b≠X.env.locals:=λb o e=>ϭ (Ϛ (ϔ e) I.ok.above);have neC:∀b o,X.s₀.heap.get? b=some o->b∉X.ex->b∉ch:=λb o e hx hb=>by
  rcases(hch b hb).1 with z|z
  ·exact hx z
  ·exact absurd (Ϛ (ϔ e) z) (Ϻ _)
 have cellK:∀x c,X.env.cells.lookup x=some c->∀v,s.heap.IsCell c v->h'.IsCell c v:=λx c e v ⟨o,ho,hd⟩=>by
  have nch:c∉ch:=λz=>(hch c z).2.2.1 x c e rfl;by_cases hc:c∈X.fs
  ·obtain⟨sl,q⟩:=slot c o (I.cne x c e) hc nch ho (I.freeC x c e);exact⟨_,q,hd⟩
  ·exact⟨o,keep c o (I.cne x c e) hc nch ho (I.freeC x c e),hd⟩
 refine⟨I.ok,I.os,hg,⟨λb o e n hb hx=>?_,λb o e n hb hx=>?_,λb o e n hx=>?_,λb o e hx=>?_,λb xs e=>tups b xs (I.base.tups b xs e),λb o xs e=>frzs b o xs (I.base.frzs b o xs e),λb ps e=>?_⟩,?_,λx c e=>?_,?_,λx c e=>?_,λp hp=>?_,hok,I.len⟩
 ·exact keep b o (neL b o e) hb (neC b o e hx) (I.base.keep b o e n hb hx) (I.base.free b o e n hx)
 ·obtain⟨sl,e1⟩:=I.base.slot b o e n hb hx;obtain⟨sl',e2⟩:=slot b _ (neL b o e) hb (neC b o e hx) e1 (I.base.free b o e n hx);exact⟨sl',e2⟩
 ·obtain⟨o',e1⟩:=I.base.there b o e hx;exact free b o' (neC b o e hx) e1 (I.base.free b o e n hx)
 ·obtain⟨o',e1⟩:=I.base.there b o e hx;exact there b o' (neC b o e hx) e1
 ·obtain⟨m1,e1⟩:=I.base.tbls b ps e;obtain⟨m2,e2⟩:=tbls b _ e1;exact⟨m1++m2,by rw[e2,Array.append_assoc]⟩
 ·obtain⟨m,hn,hl⟩:=I.loc;refine⟨m,ns m hn,λi x v e1 e2 e3=>?_⟩;obtain⟨u,r,l⟩:=hl i x v e1 e2 e3;refine⟨u,r,?_⟩;rcases l with l|⟨k,c,e,z⟩
  ·exact .inl l
  ·exact .inr ⟨k,c,e,cellK x c e _ z⟩
 ·obtain⟨v,z⟩:=I.cell x c e;exact⟨v,cellK x c e v z⟩
 ·obtain⟨m,⟨o,_,_,ho,_⟩,_⟩:=I.loc;exact free _ o (λz=>(hch _ z).2.1 rfl) ho I.free
 ·obtain⟨v,o,ho,hd⟩:=I.cell x c e;exact free c o (λz=>(hch c z).2.2.1 x c e rfl) ho (I.freeC x c e)
 ·obtain⟨e,n,ne,nf,d⟩:=I.pin p hp;have nch:p.1∉ch:=λz=>(hch p.1 z).2.2.2 p hp rfl;exact⟨keep p.1 p.2 ne nf nch e n,free p.1 p.2 nch e n,ne,nf,d⟩
theorem Inv.un (I:Inv X pins O H s) (u:Un X.fs [] H H' s.heap h') (hok:HOk X.prog X.w H' h'):Inv X pins O H' { s with heap:=h',toks:=t' }:=by
 obtain⟨m,⟨o,es,ep,ho,r⟩,_⟩:=id I.loc;obtain⟨sl,hL⟩:=u.any ho I.free (by simp);exact I.step (g':=s.gens) (d':=s.drawn) (ch:=[]) (λ_ z=>nomatch z) (λb o _ hb _ e n=>u.keep b o e n hb (by simp)) (λb o _ hb _ e n=>u.slot b o e n hb (by simp)) (λb o _ e n=>u.free b o e n (by simp)) (λb o _ e=>u.there b o e (by simp)) u.tups u.frzs u.tbls (λm' hm=>by
  obtain⟨o',es',ep',ho',r'⟩:=hm;rw[ho]at ho';cases ho';exact⟨_,es',ep',hL,r'⟩) hok I.bare
theorem Inv.call {g':Array GenState} {d':Drawn} (I:Inv X pins O H s) (u:Un (frs X.stack) ch H H' s.heap h') (hok:HOk X.prog X.w H' h') (hg:AllBare g')
  (hch:∀b∈ch,(b∈X.ex\/X.s₀.heap.objs.size<=b)/\b≠X.env.locals/\(∀x c,X.env.cells.lookup x=some c->c≠b)/\∀p∈X.pn++pins,p.1≠b) :
  Inv X pins O H' { s with heap:=h',gens:=g',drawn:=d',toks:=t' }:=by
 obtain⟨m,⟨o,es,ep,ho,r⟩,_⟩:=id I.loc;obtain⟨sl,hL⟩:=u.any ho I.free λz=>(hch _ z).2.1 rfl;exact I.step (ch:=ch) hch (λb o hL hb hc e n=>u.keep b o e n (λz=>(Ϣ.mp (I.stkSub b z)).elim hL hb) hc) (λb o _ _ hc e n=>u.any e n hc) (λb o hc e n=>u.free b o e n hc) (λb o hc e=>u.there b o e hc) u.tups u.frzs u.tbls (λm' hm=>by
  obtain⟨o',es',ep',ho',r'⟩:=hm;rw[ho]at ho';cases ho';exact⟨_,es',ep',hL,r'⟩) hok hg
theorem Inv.turned {it:Addr} (I:Inv X pins O H s) (k:∀b o,b≠it->s.heap.get? b=some o->h'.get? b=some o) (hn:H it=none) (hL:it≠X.env.locals)
  (h1:it∈X.ex\/X.s₀.heap.objs.size<=it) (h2:∀x c,X.env.cells.lookup x=some c->c≠it) (h3:∀p∈X.pn++pins,p.1≠it):Inv X pins O H { s with heap:=h',toks:=t' }:=by
 have nit:∀b u,H b=some u->b≠it:=λb u e z=>by rw[z,hn]at e;cases e
 refine I.step (g':=s.gens) (d':=s.drawn) (ch:=[it]) (λb hb=>?_) (λb o _ _ hc e _=>k b o (λz=>hc (by simp[z])) e) (λb o _ _ hc e _=>⟨o.slots,k b o (λz=>hc (by simp[z])) e⟩) (λ_ _ _ _ n=>n)
  (λb o hc e=>⟨o,k b o (λz=>hc (by simp[z])) e⟩) (λ_ _ e=>e) (λ_ _ _ e=>e) (λb ps e=>⟨#[],by rw[e];simp⟩) (λm hm=>?_) (λb u e=>?_) I.bare
 ·have e:b=it:=by simpa using hb
  subst e;exact⟨h1,hL,h2,h3⟩
 ·obtain⟨o,es,ep,ho,r⟩:=hm;exact⟨o,es,ep,k _ o (Ν hL) ho,r⟩
 ·refine(I.hok b u e).stay (λc v hc q=>k c v ?_ q) (λ_ q=>q) λ_ _ q=>q;rcases hc with z|z
  ·rw[z];exact nit b u e
  ·exact nit c _ z
theorem Inv.tok (I:Inv X pins O H s) (t:Nat):Inv X pins O H { s with toks:=t }:=I.un (h':=s.heap) (t':=t) Un.refl I.hok
theorem Inv.kept (I:Inv X pins O H s) (k:∀b u,s.heap.get? b=some u->h'.get? b=some u):Inv X pins O H { s with heap:=h',toks:=t' }:=I.un (Un.kept k) (I.hok.kept k)
theorem Inv.laid {a:Addr} {o:HO} (I:Inv X pins O H s) (k:∀b u,s.heap.get? b=some u->h'.get? b=some u) (hp:s.heap.objs.size<=a) (new:ObjOk X.prog X.w (upd H a o) h' a o) :
  Inv X pins O (upd H a o) { s with heap:=h',toks:=t' }:=I.un (Un.laid k hp (I.hok.fresh hp)) (I.hok.laid k hp new)
theorem Inv.write {x e:Addr} {o:HO} (I:Inv X pins O H s) (mu:Mut (H x)) (he:e=x\/H e=some (.own x)) (k:∀b u,b≠e->s.heap.get? b=some u->h'.get? b=some u) (heo:∃u,h'.get? e=some u)
  (new:ObjOk X.prog X.w (upd H x o) h' x o):Inv X pins O (upd H x o) { s with heap:=h',toks:=t' }:=I.un (Un.write mu he k heo) (I.hok.write mu he k heo new)
theorem Inv.pins_of {pins':List (Addr×Obj)} (I:Inv X pins O H s) (h:∀p∈pins',s.heap.get? p.1=some p.2/\H p.1=none/\p.1≠X.env.locals/\p.1∉X.fs/\∀v,p.2.data ≠ .cell v):Inv X pins' O H s :=
 ⟨I.ok,I.os,I.bare,I.base,I.loc,I.cell,I.free,I.freeC,λp hp=>(Ϩ.mp hp).elim (λz=>I.pin p (ϟ _ z)) (h p),I.hok,I.len⟩
theorem lF {N:List Str} (hN:N.Nodup) {j:Nat} (a:N[i]?=some x) (b:N[j]?=some x):i=j:=by
 obtain⟨h1,e1⟩:=ώ.mp a;obtain⟨h2,e2⟩:=ώ.mp b;exact(List.getElem_inj hN).mp (e1.trans e2.symm)
theorem vF {v:V} {u:Value} {Q:Unit->Shared->Prop} (I:Inv X pins O H s) (hN:X.N.Nodup) (hi:X.N[i]?=some x) (hx:Loc X.env.scope x) (r:RelV v u)
  (h:∀s',Inv X pins (O.set i (some v)) H s'->(∃a,Heap.SameBut a s.heap s'.heap/\(a=X.env.locals\/X.env.cells.lookup x=some a))->Q () s') (hf:X.fn x=true\/X.env.scope.names.lookup x=some .local:=by first|exact .inl rfl|exact .inr rfl|assumption):wpAny M A (storeName X.env x u) Q E s:=by
 obtain⟨m,hn,hl⟩:=id I.loc;have hcls:(X.env.scope.kind == .class||(X.env.scope.kind == .module&&X.env.locals != X.env.globals))=false:=by rw[I.ok.kind];rfl
 have hiO:i<O.length:=by rw[I.len];exact(ώ.mp hi).1
 have cne:=I.cne;have tracked:∀{a:Addr} {h':Heap},(∃o,s.heap.get? a=some o/\H a=none)->Heap.SameBut a s.heap h'->HOk X.prog X.w H h':=λ{a h'} ha hs b ob e=>by
  obtain⟨_,_,hfree⟩:=ha;refine(I.hok b ob e).stay (λc w' hc q=>(hs.2 c ?_).trans q) (λ_ q=>q) λ_ _ q=>q;rintro rfl;rcases hc with rfl|hc
  ·rw[hfree]at e;cases e
  ·rw[hfree]at hc;cases hc
 rcases hx with hk|hk
 ·refine wpAny_storeName_local hk hn (λh' hn' hs=>?_) hcls;obtain⟨oL,_,_,hoL,_⟩:=id hn;refine h _ ⟨I.ok,I.os,I.bare,⟨λb o e n hb hx=>?_,λb o e n hb hx=>?_,I.base.free,λb o e hx=>?_,I.base.tups,I.base.frzs,I.base.tbls⟩,⟨_,hn',λj y v' e1 e2 e3=>?_⟩,λy c e=>?_,I.free,I.freeC,λp hp=>?_,tracked ⟨oL,hoL,I.free⟩ hs,by simpa using I.len⟩ ⟨_,hs,.inl rfl⟩
  ·exact(hs.2 b (ϭ (Ϛ (ϔ e) I.ok.above))).trans (I.base.keep b o e n hb hx)
  ·obtain⟨sl,e1⟩:=I.base.slot b o e n hb hx;exact⟨sl,(hs.2 b (ϭ (Ϛ (ϔ e) I.ok.above))).trans e1⟩
  ·obtain⟨o',e1⟩:=I.base.there b o e hx;exact⟨o',(hs.2 b (ϭ (Ϛ (ϔ e) I.ok.above))).trans e1⟩
  ·by_cases hj:j=i
   ·subst hj;rw[hi]at e1;cases e1;rw[Ϲ hiO]at e2;cases e2;exact⟨u,r,.inl ⟨hk,by simp⟩⟩
   ·rw[ϖ (Ν hj)]at e2;obtain⟨u',r',q⟩:=hl j y v' e1 e2 e3;refine⟨u',r',?_⟩;rcases q with⟨k,e⟩|⟨k,c,e,z⟩
    ·refine .inl ⟨k,?_⟩;have:y≠x:=λe=>hj (lF hN e1 (e▸hi));simp[this,e]
    ·exact .inr ⟨k,c,e,z.sameBut hs (cne y c e)⟩
  ·obtain⟨w',z⟩:=I.cell y c e;exact⟨w',z.sameBut hs (cne y c e)⟩
  ·obtain⟨e,n,ne,nf,d⟩:=I.pin p hp;exact⟨(hs.2 p.1 ne).trans e,n,ne,nf,d⟩
 ·have hfn:X.fn x=true:=by
   rcases hf with z|z
   ·exact z
   ·rw[z]at hk;cases hk
  obtain⟨c,hc⟩:=I.ok.has x (.inl hk);obtain⟨w',z⟩:=I.cell x c hc;refine wpAny_storeName_cell I.ok.kind hk hc z (λh' hc' hs=>?_);obtain⟨oc,hoc,hocd⟩:=id z;refine h { s with heap:=h' } ⟨I.ok,I.os,I.bare,⟨λb o e n hb hx=>?_,λb o e n hb hx=>?_,I.base.free,λb o e hx=>?_,I.base.tups,I.base.frzs,I.base.tbls⟩,⟨m,hn.sameBut hs (Ν (cne x c hc)),λj y v' e1 e2 e3=>?_⟩,λy c' e=>?_,I.free,I.freeC,λp hp=>?_,tracked ⟨oc,hoc,I.freeC x c hc⟩ hs,by simpa using I.len⟩ ⟨c,hs,.inr hc⟩
  ·exact(hs.2 b (ϭ (Ϛ (ϔ e) (I.ok.cab x c hfn hc)))).trans (I.base.keep b o e n hb hx)
  ·obtain⟨sl,e1⟩:=I.base.slot b o e n hb hx;exact⟨sl,(hs.2 b (ϭ (Ϛ (ϔ e) (I.ok.cab x c hfn hc)))).trans e1⟩
  ·obtain⟨o',e1⟩:=I.base.there b o e hx;exact⟨o',(hs.2 b (ϭ (Ϛ (ϔ e) (I.ok.cab x c hfn hc)))).trans e1⟩
  ·by_cases hj:j=i
   ·subst hj;rw[hi]at e1;cases e1;rw[Ϲ hiO]at e2;cases e2;exact⟨u,r,.inr ⟨.inl hk,c,hc,hc'⟩⟩
   ·rw[ϖ (Ν hj)]at e2;obtain⟨u',r',q⟩:=hl j y v' e1 e2 e3;refine⟨u',r',?_⟩;rcases q with q|⟨k,c',e,z'⟩
    ·exact .inl q
    ·refine .inr ⟨k,c',e,z'.sameBut hs ?_⟩;rintro rfl;exact hj (lF hN e1 (I.ok.inj _ _ _ e hc▸hi))
  ·by_cases hcc:c'=c
   ·subst hcc;exact⟨_,hc'⟩
   ·obtain⟨w2,z2⟩:=I.cell y c' e;exact⟨w2,z2.sameBut hs hcc⟩
  ·obtain⟨e,n,ne,nf,d⟩:=I.pin p hp;refine⟨(hs.2 p.1 ?_).trans e,n,ne,nf,d⟩;intro q;rw[q,hoc]at e;have q':oc=p.2:=Ϥ e;exact d w' (by rw[<- q'];exact hocd)
theorem gw {v:V} {u:Value} {Q:Unit->Shared->Prop} (I:Inv X pins O H s) (hN:X.N.Nodup) (hi:X.N[i]?=some x) (hx:Loc X.env.scope x) (r:RelV v u)
  (h:∀s',Inv X pins (O.set i (some v)) H s'->Q () s') (hf:X.fn x=true\/X.env.scope.names.lookup x=some .local:=by first|exact .inl rfl|exact .inr rfl|assumption):wpAny M A (storeName X.env x u) Q E s :=
 vF I hN hi hx r (λs' I' _=>h s' I') hf
theorem Inv.call' {s':Shared} (I:Inv X pins O H s) (ho:s'.os=s.os) (u:Un (frs X.stack) ch H H' s.heap s'.heap) (hok:HOk X.prog X.w H' s'.heap) (hg:AllBare s'.gens)
  (hch:∀b∈ch,(b∈X.ex\/X.s₀.heap.objs.size<=b)/\b≠X.env.locals/\(∀x c,X.env.cells.lookup x=some c->c≠b)/\∀p∈X.pn++pins,p.1≠b):Inv X pins O H' s':=by
 obtain⟨h',g',d',t',o'⟩:=s';have e:o'=s.os:=ho;subst e;exact I.call (g':=g') (t':=t') (d':=d') u hok hg hch
end
abbrev XK:=Value->Option Addr->Hp->Prop
abbrev St:=List (Option V)
abbrev VK:=V->Hp->Prop
abbrev TE:=St->Hp->VK->Prop
abbrev TT:=St->Hp->(Bool->Hp->Prop)->Prop
abbrev TA:=St->Hp->(List V->Hp->Prop)->Prop
structure gt where
 nx:St->Hp->Prop
 rt:VK
 bk:St->Hp->Prop:=λ_ _=>False
 ct:St->Hp->Prop:=λ_ _=>False
abbrev TS:=gt->St->Hp->Prop
def EP (X:Cx) (pins:List (Addr×Obj)) (O:St) (Q:VK) (u:Value) (s':Shared):Prop:=∃v H',Inv X pins O H' s'/\RelV v u/\Q v H'
def TP (X:Cx) (pins:List (Addr×Obj)) (O:St) (Q:Bool->Hp->Prop) (b:Bool) (s':Shared):Prop:=∃H',Inv X pins O H' s'/\Q b H'
def AP (X:Cx) (pins:List (Addr×Obj)) (O:St) (Q:List V->Hp->Prop) (us:List Value) (s':Shared):Prop:=∃vs H',Inv X pins O H' s'/\Vals vs us/\Q vs H'
def SP (X:Cx) (pins:List (Addr×Obj)) (D:gt) (f:Flow) (s':Shared):Prop :=
 match f with
 | .next=>∃σ' H',Inv X pins σ' H' s'/\D.nx σ' H'
 | .brk=>∃σ' H',Inv X pins σ' H' s'/\D.bk σ' H'
 | .cont=>∃σ' H',Inv X pins σ' H' s'/\D.ct σ' H'
 | .ret u=>∃v σ' H',Inv X pins σ' H' s'/\RelV v u/\D.rt v H'
def PE (X:Cx) (e:Expr) (t:TE):Prop :=
 ∀(pins:List (Addr×Obj)) (s:Shared) (O:St) (H:Hp) (Q:VK),Inv X pins O H s->t O H Q->wpAny (model X.prog X.w) X.A (eval e X.env) (EP X pins O Q) X.xe s
def PT (X:Cx) (e:Expr) (t:TT):Prop :=
 ∀(pins:List (Addr×Obj)) (s:Shared) (O:St) (H:Hp) (Q:Bool->Hp->Prop),Inv X pins O H s->t O H Q->wpAny (model X.prog X.w) X.A (isTrue e X.env (eval e X.env)) (TP X pins O Q) X.xe s
def PW (X:Cx) (e:Expr) (t:TT):Prop :=
 ∀(whole:Sem Value) (pins:List (Addr×Obj)) (s:Shared) (O:St) (H:Hp) (Q:Bool->Hp->Prop),Inv X pins O H s->t O H Q->wpAny (model X.prog X.w) X.A (isTrue e X.env whole) (TP X pins O Q) X.xe s
theorem PW.pt {X:Cx} {e:Expr} {t:TT} (h:PW X e t):PT X e t:=h _
def PA (X:Cx) (es:List Expr) (t:TA):Prop :=
 ∀(pos:Pos) (pins:List (Addr×Obj)) (s:Shared) (O:St) (H:Hp) (Q:List V->Hp->Prop),Inv X pins O H s->t O H Q->wpAny (model X.prog X.w) X.A (spliced (backTo pos (starEach es X.env))) (AP X pins O Q) X.xe s
def PS (X:Cx) (st:Stmt) (t:TS):Prop :=
 ∀(pins:List (Addr×Obj)) (s:Shared) (O:St) (H:Hp) (D:gt),Inv X pins O H s->t D O H->wpAny (model X.prog X.w) X.A (exec st X.env) (SP X pins D) X.xe s
def PSs (X:Cx) (st:List Stmt) (t:TS):Prop :=
 ∀(pins:List (Addr×Obj)) (s:Shared) (O:St) (H:Hp) (D:gt),Inv X pins O H s->t D O H->wpAny (model X.prog X.w) X.A (execs st X.env) (SP X pins D) X.xe s
theorem thn {Y:Type} {t:Sem Y} {Q Q':Y->Shared->Prop} {s:Shared} (h:wpAny M A t Q E s) (hQ:∀a s,Q a s->Q' a s):wpAny M A t Q' E s:=wpAny_mono h hQ λ_ _ x=>x
end L2
namespace L2
open PySem PySem.Spec PyProof.Rows
variable {x:Str} {pos:Pos} {u:Value}
section
variable {X:Cx}
def c8 (i:Nat):TE:=λO H Q=>∃v,O[i]?=some (some v)/\Q v H
def tC (v:V):TE:=λ_ H Q=>Q v H
theorem DC {i:Nat} (hN:X.N[i]?=some x) (hv:Vis X.env.scope x) (hd:(x==("__debug__":Str))=false:=by decide) (hcd:(x==("__classdict__":Str))=false:=by decide):PE X (.Name x pos) (c8 i):=by
 intro pins s O H Q I h;obtain⟨v,e,h⟩:=h;obtain⟨m,hn,hl⟩:=I.loc;obtain⟨u,r,l⟩:=hl i x v hN e hv;have fin:EP X pins O Q u s:=⟨v,H,I,r,h⟩;rcases l with⟨hk,hm⟩|⟨hk,c,hc,hcell⟩
 ·exact wpAny_Name (wpAny_loadName_local I.ok.kind hk hn hm fin) hd
 ·rcases hk with hk|hk
  ·exact wpAny_Name (wpAny_loadName_cell I.ok.kind hk hc hcell fin) hd
  ·exact wpAny_Name (wpAny_loadName_free I.ok.kind hk hc hcell fin hcd) hd
theorem DG {i j pos}:PE X (.Constant (.int i) j pos) (tC (.int i)):=λ_ _ _ H _ I h=>wpAny_Constant_int ⟨.int i,H,I.tok _,⟨_,rfl⟩,h⟩
theorem uG {b j pos}:PE X (.Constant (.bool b) j pos) (tC (.bl b)):=λ_ _ _ H _ I h=>Constant_bool ⟨.bl b,H,I,rfl,h⟩
theorem DF {j pos}:PE X (.Constant .none j pos) (tC .non):=λ_ _ _ H _ I h=>Constant_none ⟨.non,H,I,rfl,h⟩
theorem DD {x j pos}:PE X (.Constant (.str x) j pos) (tC (.str x)):=λ_ _ _ H _ I h=>Calls.Constant_str ⟨.str x,H,I.tok _,⟨_,rfl⟩,h⟩
def Gl (X:Cx) (x:Str):Prop:=X.env.kindOf x=some .globalImplicit
theorem cP {E:Value->Shared->Prop} {pins:List (Addr×Obj)} {s:Shared} {O:St} {H:Hp} {Q:Value->Shared->Prop} (I:Inv X pins O H s) (hg:Gl X x) (hm:X.mg x=some u) (h:Q u s)
  (hd:(x==("__debug__":Str))=false:=by decide):wpAny (model X.prog X.w) X.A (eval (.Name x pos) X.env) Q E s :=
 Calls.Name_function_global I.ok.kind hg (Calls.loadGlobal_global (by rw[I.ok.glob];exact I.mod.glob.keeps I.bk) hm h) hd
theorem gF {E:Value->Shared->Prop} {pins:List (Addr×Obj)} {s:Shared} {O:St} {H:Hp} {Q:Value->Shared->Prop} (I:Inv X pins O H s) (hg:Gl X x) (hm:X.mg x=none) (hv:bootBuiltins x=some u) (h:Q u s)
  (hn:x ≠ "__name__":=by decide) (hd:(x==("__debug__":Str))=false:=by decide):wpAny (model X.prog X.w) X.A (eval (.Name x pos) X.env) Q E s:=by
 obtain⟨mb,h1,h2⟩:=I.mod.blt;exact Calls.Name_function_global I.ok.kind hg (Calls.loadGlobal_builtin (by rw[I.ok.glob];exact I.mod.glob.keeps I.bk) hm (by rw[I.ok.blt];exact h1.keeps I.bk) ((h2 x hn).trans hv) h) hd
theorem uF {v:V} (hg:Gl X x) (hm:X.mg x=some u) (r:RelV v u) (hd:(x==("__debug__":Str))=false:=by decide):PE X (.Name x pos) (tC v) :=
 λ_ _ _ H _ I h=>cP I hg hm ⟨v,H,I,r,h⟩ hd
variable {a b:Expr} {ta tb:TE} {pos:Pos}
def PC (X:Cx) (op:CmpOp) (a b:Expr) (t:TE):Prop :=
 ∀(pins:List (Addr×Obj)) (s:Shared) (O:St) (H:Hp) (Q:VK),Inv X pins O H s->t O H Q ->
  wpAny (model X.prog X.w) X.A (eval a X.env) (λv s₁=>wpAny (model X.prog X.w) X.A (eval b X.env) (λu s₂=>wpAny (model X.prog X.w) X.A (compareOp op v u) (EP X pins O Q) X.xe s₂) X.xe s₁) X.xe s
theorem xY (b:Expr) {op:CmpOp} (h:op ≠ .In) (h2:op ≠ .NotIn):behindInMarks op b=false:=by
 have e1:(op==CmpOp.In)=false:=by cases op<;>first|rfl|exact absurd rfl h
 have e2:(op==CmpOp.NotIn)=false:=by cases op<;>first|rfl|exact absurd rfl h2
 cases b<;>simp[behindInMarks,e1,e2]
def G_ (ta:TE):TE:=λO H Q=>ta O H λx H1=>Q (.bl (decide (x=.non))) H1
def Fz (ta:TE):TE:=λO H Q=>ta O H λx H1=>Q (.bl (!decide (x=.non))) H1
theorem RelV.none_iff {x:V} {v:Value} (r:RelV x v):(v==Value.none)=decide (x=.non):=by
 cases x with
 | non=>cases r;rfl
 | bl _=>cases r;rfl
 | int _=>obtain⟨t,rfl⟩:=r;rfl
 | str _=>obtain⟨t,rfl⟩:=r;rfl
 | byt _=>obtain⟨t,rfl⟩:=r;rfl
 | flt _=>obtain⟨t,rfl⟩:=r;rfl
 | ref _=>cases r;rfl
 | ty _=>cases r;rfl
theorem DJ {j pos'} (ha:PE X a ta):PC X .Is a (.Constant .none j pos') (G_ ta):=by
 intro pins s O H Q I h;refine thn (ha pins s O H _ I h) λv s1 ⟨x,H1,I1,r1,q1⟩=>?_;exact Constant_none (is_none_gen ⟨.bl _,H1,I1,by rw[r1.none_iff];rfl,q1⟩)
theorem Ap {j pos'} (ha:PE X a ta):PC X .IsNot a (.Constant .none j pos') (Fz ta):=by
 intro pins s O H Q I h;refine thn (ha pins s O H _ I h) λv s1 ⟨x,H1,I1,r1,q1⟩=>?_;exact Constant_none (isnot_none_gen ⟨.bl _,H1,I1,by rw[r1.none_iff];rfl,q1⟩)
def tB (t:TE):TT:=λO H Q=>t O H λx H1=>∃c,x=.bl c/\Q c H1
theorem xu {op:CmpOp} {t:TE} (h:PC X op a b t) (h1:behindInMarks op b=false:=by first|exact xY _ (by decide) (by decide)|rfl):PT X (.Compare a [op] [b] pos) (tB t):=by
 intro pins s O H Q I hw;refine wpAny_isTrue_Compare1 (thn (h pins s O H _ I hw) λv s1 h1=>thn h1 λu s2 h2=>thn h2 λc s3 ⟨x,H1,I1,r1,q1⟩=>?_) h1;obtain⟨d,rfl,q⟩:=q1;cases r1;exact wpAny_truthy_bool ⟨H1,I1,q⟩
theorem xq {e:Expr} {t:TE} (h:PE X e t) (he:∀whole,isTrue e X.env whole=(do let v <- whole;standAt e.pos;holding [v] (truthy v)):=by intro _;rfl):PT X e (tB t):=by
 intro pins s O H Q I hw;refine isTrue_plain (thn (h pins s O H _ I hw) λv s1 ⟨x,H1,I1,r1,q1⟩=>?_) (he _);obtain⟨d,rfl,q⟩:=q1;cases r1;exact wpAny_truthy_bool ⟨H1,I1,q⟩
variable {tA tB':TT} {rest:List Expr}
def Hf (t u:TT):TT:=λO H Q=>t O H λc H1=>if c=true then u O H1 Q else Q false H1
def tOr (t u:TT):TT:=λO H Q=>t O H λc H1=>if c=true then Q true H1 else u O H1 Q
def G7 (t:TT):TT:=λO H Q=>t O H λc H1=>Q (!c) H1
theorem uw (ha:PT X a tA):PW X (.BoolOp .And [a] pos) tA:=by
 intro wh pins s O H Q I h;refine isTrue_and (thn (ha pins s O H Q I h) λc s1 e=>?_);cases c with
 | true=>exact isTrue_and_nil e
 | false=>exact e
theorem Dm (ha:PT X a tA):PW X (.BoolOp .Or [a] pos) tA:=by
 intro wh pins s O H Q I h;refine isTrue_or (thn (ha pins s O H Q I h) λc s1 e=>?_);cases c with
 | false=>exact isTrue_or_nil e
 | true=>exact e
theorem xn (ha:PT X a tA) (hb:PW X (.BoolOp .And (b::rest) pos) tB'):PW X (.BoolOp .And (a::b::rest) pos) (Hf tA tB'):=by
 intro wh pins s O H Q I h;refine isTrue_and (thn (ha pins s O H _ I h) λc s1 ⟨H1,I1,q1⟩=>?_);cases c with
 | true=>exact hb wh pins s1 O H1 Q I1 q1
 | false=>exact⟨H1,I1,q1⟩
theorem F3 (ha:PT X a tA) (hb:PW X (.BoolOp .Or (b::rest) pos) tB'):PW X (.BoolOp .Or (a::b::rest) pos) (tOr tA tB'):=by
 intro wh pins s O H Q I h;refine isTrue_or (thn (ha pins s O H _ I h) λc s1 ⟨H1,I1,q1⟩=>?_);cases c with
 | true=>exact⟨H1,I1,q1⟩
 | false=>exact hb wh pins s1 O H1 Q I1 q1
theorem xt (ha:PT X a tA):PT X (.UnaryOp .Not a pos) (G7 tA):=by
 intro pins s O H Q I h;exact isTrue_not (ha pins s O H (λc H1=>Q (!c) H1) I h)
def FF (ta tb:TE):TE:=λO H Q=>ta O H λx H1=>∃c,x=.bl c/\if c=true then tb O H1 Q else Q (.bl false) H1
def G6 (ta tb:TE):TE:=λO H Q=>ta O H λx H1=>∃c,x=.bl c/\if c=true then Q (.bl true) H1 else tb O H1 Q
theorem DE {op} {t:TE} (h:PE X a t):PE X (.BoolOp op [a] pos) t:=λpins s O H Q I hw=>BoolOp_one (h pins s O H Q I hw)
theorem DI (ha:PE X a ta) (hb:PE X (.BoolOp .And (b::rest) pos) tb):PE X (.BoolOp .And (a::b::rest) pos) (FF ta tb):=by
 intro pins s O H Q I h;refine BoolOp_and (thn (ha pins s O H _ I h) λv s1 ⟨x,H1,I1,r1,q1⟩=>?_);obtain⟨c,rfl,q1⟩:=q1;cases r1;refine wpAny_truthy_bool ?_;cases c with
 | true=>exact hb pins s1 O H1 Q I1 q1
 | false=>exact⟨.bl false,H1,I1,rfl,q1⟩
theorem Gb (ha:PE X a ta) (hb:PE X (.BoolOp .Or (b::rest) pos) tb):PE X (.BoolOp .Or (a::b::rest) pos) (G6 ta tb):=by
 intro pins s O H Q I h;refine BoolOp_or (thn (ha pins s O H _ I h) λv s1 ⟨x,H1,I1,r1,q1⟩=>?_);obtain⟨c,rfl,q1⟩:=q1;cases r1;refine wpAny_truthy_bool ?_;cases c with
 | false=>exact hb pins s1 O H1 Q I1 q1
 | true=>exact⟨.bl true,H1,I1,rfl,q1⟩
end
end L2
namespace L2
open PySem PySem.Spec PyProof.Rows
def SqL (K:Frag) (H:Hp) (a:Addr) (xs:List V):Prop :=
 Rd H a (.lst xs) \/
  ∃(o:Obj) (its:Array Value) (n:Nat),K.lookup a=some o/\o.cls=.type "list"/\o.dict=none/\o.data=.seq its n/\its.size<=sizeLine/\Vals xs its.toList
def SqT (K:Frag) (H:Hp) (a:Addr) (xs:List V):Prop :=
 Rd H a (.tup xs) \/
  ∃(o:Obj) (its:Array Value) (n:Nat),K.lookup a=some o/\o.cls=.type "tuple"/\o.data=.seq its n/\its.size<=sizeLine/\Vals xs its.toList
def HL:Value->Option V
 | .none=>some .non
 | .bool b=>some (.bl b)
 | .int i _=>some (.int i)
 | .str x _=>some (.str x)
 | .bytes b _=>some (.byt b)
 | .float b _=>some (.flt b)
 | .ref a=>some (.ref a)
 | .type n=>some (.ty n)
 | _=>none
variable {u:Value}
theorem RelV.abs {x:V} (r:RelV x u):HL u=some x:=by
 cases x with
 | non=>cases r;rfl
 | bl _=>cases r;rfl
 | int _=>obtain⟨t,rfl⟩:=r;rfl
 | str _=>obtain⟨t,rfl⟩:=r;rfl
 | byt _=>obtain⟨t,rfl⟩:=r;rfl
 | flt _=>obtain⟨t,rfl⟩:=r;rfl
 | ref _=>cases r;rfl
 | ty _=>cases r;rfl
theorem RelV.inj {x y:V} (r:RelV x u) (q:RelV y u):x=y:=Ϥ (r.abs.symm.trans q.abs)
theorem Vals.inj:∀{xs ys:List V} {us:List Value},Vals xs us->Vals ys us->xs=ys
 | _,_,_,.nil,.nil=>rfl
 | _,_,_,.cons r t,.cons r' t'=>by rw[r.inj r',Vals.inj t t']
variable {K:Frag}
section
variable {X:Cx} {pins:List (Addr×Obj)} {O:St} {H:Hp} {s:Shared} {a:Addr} {xs ys:List V}
theorem SqL.of (h:H a=some (.lst xs)):SqL K H a xs:=.inl (.inl h)
theorem SqT.of (h:H a=some (.tup xs)):SqT K H a xs:=.inl (.inl h)
theorem Inv.list (I:Inv X pins O H s) (h:SqL X.K H a xs):∃its:List Value,Vals xs its/\PlainL s.heap a its.toArray/\xs.length<=sizeLine:=by
 rcases h with h|⟨o,its,n,hk,hc,hd,hs,hz,r⟩
 ·obtain⟨z,its,n,r,e⟩:=h.ok I.hok;exact⟨its,r,⟨_,n,e,rfl,rfl,rfl⟩,z⟩
 ·refine⟨its.toList,r,⟨o,n,I.kIn a o hk,hc,hd,by simpa using hs⟩,?_⟩;have e:=r.length;simp only[ν]at e;omega
theorem Inv.tuple (I:Inv X pins O H s) (h:SqT X.K H a xs):∃its:List Value,Vals xs its/\IsTup s.heap a its.toArray/\xs.length<=sizeLine:=by
 rcases h with h|⟨o,its,n,hk,hc,hs,hz,r⟩
 ·obtain⟨z,its,r,p⟩:=h.ok I.hok;exact⟨its,r,p,z⟩
 ·refine⟨its.toList,r,⟨o,I.kIn a o hk,hc,n,by simpa using hs⟩,?_⟩;have e:=r.length;simp only[ν]at e;omega
theorem Inv.list_inj (I:Inv X pins O H s) (h:SqL X.K H a xs) (h':SqL X.K H a ys):xs=ys:=by
 obtain⟨its,r,⟨o,n,e,_,_,d⟩,_⟩:=I.list h;obtain⟨its',r',⟨o',n',e',_,_,d'⟩,_⟩:=I.list h';rw[e]at e';cases e';rw[d]at d';injection d' with d1 _;have:its=its':=by simpa using congrArg Array.toList d1
 subst this;exact r.inj r'
theorem Inv.tuple_inj (I:Inv X pins O H s) (h:SqT X.K H a xs) (h':SqT X.K H a ys):xs=ys:=by
 obtain⟨its,r,⟨o,e,_,n,d⟩,_⟩:=I.tuple h;obtain⟨its',r',⟨o',e',_,n',d'⟩,_⟩:=I.tuple h';rw[e]at e';cases e';rw[d]at d';injection d' with d1 _;have:its=its':=by simpa using congrArg Array.toList d1
 subst this;exact r.inj r'
end
abbrev Cx.wish (X:Cx) (E:Value->Shared->Prop):Cx:={ X with xe:=E }
abbrev Cx.nox (X:Cx):Cx:=X.wish λ_ _=>False
theorem Cx.Ok.wish {X:Cx} (ok:X.Ok) (E:Value->Shared->Prop):(X.wish E).Ok :=
 ⟨ok.mod,ok.kind,ok.glob,ok.blt,ok.above,ok.inj,ok.has,ok.cab,ok.hd,ok.frames,ok.stk,ok.exf,ok.bs,ok.bsz,ok.noex,ok.exfs,ok.funs,ok.frf⟩
theorem Cx.Ok.unwish {X:Cx} {E:Value->Shared->Prop} (ok:(X.wish E).Ok):X.Ok :=
 ⟨ok.mod,ok.kind,ok.glob,ok.blt,ok.above,ok.inj,ok.has,ok.cab,ok.hd,ok.frames,ok.stk,ok.exf,ok.bs,ok.bsz,ok.noex,ok.exfs,ok.funs,ok.frf⟩
section
variable {X:Cx} {pins:List (Addr×Obj)} {O:St} {H:Hp} {s:Shared} {E:Value->Shared->Prop}
theorem Inv.wish (I:Inv X pins O H s) (E:Value->Shared->Prop):Inv (X.wish E) pins O H s:=⟨I.ok.wish E,I.os,I.bare,I.base,I.loc,I.cell,I.free,I.freeC,I.pin,I.hok,I.len⟩
theorem Inv.unwish (I:Inv (X.wish E) pins O H s):Inv X pins O H s:=⟨I.ok.unwish,I.os,I.bare,I.base,I.loc,I.cell,I.free,I.freeC,I.pin,I.hok,I.len⟩
theorem SP.unwish {D:gt} {f:Flow} {s':Shared} (h:SP (X.wish E) pins D f s'):SP X pins D f s':=by
 cases f with
 | next=>obtain⟨σ',H',I,q⟩:=h;exact⟨σ',H',I.unwish,q⟩
 | brk=>obtain⟨σ',H',I,q⟩:=h;exact⟨σ',H',I.unwish,q⟩
 | cont=>obtain⟨σ',H',I,q⟩:=h;exact⟨σ',H',I.unwish,q⟩
 | ret u=>obtain⟨v,σ',H',I,r,q⟩:=h;exact⟨v,σ',H',I.unwish,r,q⟩
theorem PSs.nox {st:List Stmt} {t:TS} (h:PSs X.nox st t):PSs X st t:=λpins s O H D I hw =>
 wpAny_mono (h pins s O H D (I.wish _) hw) (λ_ _ q=>q.unwish) λ_ _ z=>False.elim z
end
variable {s:Shared}
section
variable {X:Cx} {st:Stmt} {rest:List Stmt} {t u:TS} {e:Expr} {te:TE} {pos:Pos}
def FA:TS:=λD O H=>D.nx O H
def zI (t u:TS):TS:=λD O H=>t { D with nx:=u D } O H
theorem uz:PSs X [] FA:=λ_ _ O H _ I h=>wpAny_execs_nil ⟨O,H,I,h⟩
theorem fk (h1:PS X st t) (h2:PSs X rest u):PSs X (st::rest) (zI t u):=by
 intro pins s O H D I h;refine wpAny_execs_cons (thn (h1 pins s O H { D with nx:=u D } I h) λf s1 q=>?_);cases f with
 | next =>
  obtain⟨σ',H',I',q⟩:=q;exact h2 pins s1 σ' H' D I' q
 | ret v=>exact q
 | brk=>exact q
 | cont=>exact q
theorem eI (h1:PS X st t):PSs X [st] t:=by
 intro pins s O H D I h;refine wpAny_execs_cons (thn (h1 pins s O H D I h) λf s1 q=>?_);cases f with
 | next=>exact wpAny_execs_nil q
 | ret v=>exact q
 | brk=>exact q
 | cont=>exact q
theorem Inv.quiet {pins:List (Addr×Obj)} {O:St} {H:Hp} (I:Inv X pins O H s):interactive X.env=false:=by simp[interactive,I.ok.kind]
def j4 (te:TE):TS:=λD O H=>te O H λ_ H1=>D.nx O H1
theorem fR (he:PE X e te) (hs:swapsWith e none pos.line X.env=pure false:=by rfl):PS X (.Expr e pos) (j4 te):=by
 intro pins s O H D I h;exact wpAny_Expr_any (thn (he pins s O H _ I h) λv s1 ⟨x,H1,I1,r1,q1⟩=>⟨O,H1,I1,q1⟩) I.quiet hs
def G5 (te:TE):TS:=λD O H=>te O H D.rt
theorem oG (he:PE X e te):PS X (.Return (some e) pos) (G5 te):=by
 intro pins s O H D I h;exact wpAny_Return_some (thn (he pins s O H _ I h) λv s1 ⟨x,H1,I1,r1,q1⟩=>⟨x,O,H1,I1,r1,q1⟩)
def Hd (c:TT) (t u:TS):TS:=λD O H=>c O H λb H1=>if b=true then t D O H1 else u D O H1
theorem xz {c:Expr} {a b:List Stmt} {tc:TT} (hc:PT X c tc) (ha:PSs X a t) (hb:PSs X b u):PS X (.If c a b pos) (Hd tc t u):=by
 intro pins s O H D I h;refine wpAny_If (thn (hc pins s O H _ I h) λd s1 ⟨H1,I1,q1⟩=>?_);cases d with
 | true=>exact ha pins s1 O H1 D I1 q1
 | false=>exact hb pins s1 O H1 D I1 q1
def wM:TS:=λ_ _ _=>False
theorem xy:PS X st wM:=λ_ _ _ _ _ _ h=>h.elim
theorem vN {sts:List Stmt}:PSs X sts wM:=λ_ _ _ _ _ _ h=>h.elim
end
abbrev TG:=V->St->Hp->(St->Hp->Prop)->Prop
abbrev TGs:=List V->St->Hp->(St->Hp->Prop)->Prop
def PG (X:Cx) (target:Expr) (t:TG):Prop :=
 ∀(pins:List (Addr×Obj)) (s:Shared) (O:St) (H:Hp) (v:V) (u:Value) (Q:St->Hp->Prop),Inv X pins O H s->RelV v u->t v O H Q ->
  wpAny (model X.prog X.w) X.A (assign target X.env u) (λ_ s'=>∃σ' H',Inv X pins σ' H' s'/\Q σ' H') X.xe s
def PGs (X:Cx) (ts:List Expr) (t:TGs):Prop :=
 ∀(pins:List (Addr×Obj)) (s:Shared) (O:St) (H:Hp) (vs:List V) (us:List Value) (Q:St->Hp->Prop),Inv X pins O H s->Vals vs us->t vs O H Q ->
  wpAny (model X.prog X.w) X.A (assignInOrder ((assignEach ts X.env).map (·.2)) us) (λ_ s'=>∃σ' H',Inv X pins σ' H' s'/\Q σ' H') X.xe s
abbrev BZ:=V->V->V->Hp->(Hp->Prop)->Prop
def Ff (X:Cx) (t:BZ):Prop :=
 ∀(pins:List (Addr×Obj)) (s:Shared) (O:St) (H:Hp) (o i v:V) (ov iv u:Value) (Q:Hp->Prop),Inv X pins O H s->RelV o ov->RelV i iv->RelV v u->t o i v H Q ->
  wpAny (model X.prog X.w) X.A (setItem ov iv u) (λ_ s'=>∃H',Inv X pins O H' s'/\Q H') X.xe s
variable {x:Str} {i:Nat} {tg:Expr}
section
variable {X:Cx} {pos:Pos}
def cR (i:Nat):TG:=λv O H Q=>Q (O.set i (some v)) H
theorem kT (hN:X.N.Nodup) (hi:X.N[i]?=some x) (hx:Loc X.env.scope x) (hf:X.fn x=true\/X.env.scope.names.lookup x=some .local:=by first|exact .inl rfl|exact .inr rfl|assumption):PG X (.Name x pos) (cR i):=by
 intro pins s O H v u Q I r h;exact wpAny_assign_Name (gw I hN hi hx r (λs' I'=>⟨_,H,I',h⟩) hf)
def Hv:TGs:=λvs O H Q=>vs=[]/\Q O H
def Gz (t:TG) (u:TGs):TGs:=λvs O H Q=>∃v r,vs=v::r/\t v O H λσ' H'=>u r σ' H' Q
theorem uD:PGs X [] Hv:=by
 intro pins s O H vs us Q I r h;obtain⟨e,h⟩:=h;subst e;cases r;exact assignInOrder_nil ⟨O,H,I,h⟩
theorem gz {e:Expr} {es:List Expr} {t:TG} {u:TGs} (h1:PG X e t) (h2:PGs X es u)
  (hs:(assignEach (e::es) X.env).map (·.2)=assign e X.env::(assignEach es X.env).map (·.2):=by rfl):PGs X (e::es) (Gz t u):=by
 intro pins s O H vs us Q I r h;obtain⟨v,vr,e1,h⟩:=h;subst e1;cases r with
 | cons r rr =>
  rw[hs];refine assignInOrder_cons (thn (h1 pins s O H _ _ _ I r h) λ_ s1 ⟨O1,H1,I1,q1⟩=>?_);exact h2 pins s1 O1 H1 _ _ Q I1 rr q1
def Ht (K:Frag) (n:Nat) (t:TGs):TG:=λv O H Q=>∃a xs,v=.ref a/\SqT K H a xs/\xs.length=n/\t xs O H Q
theorem xG {es:List Expr} {k:Nat} {t:TGs} {n:Nat} (hc:X.calm=true) (h:PGs X es t)
  (hn:(assignEach es X.env).length=n:=by rfl) (hst:(assignEach es X.env).findIdx? (·.1)=none:=by rfl):PG X (.Tuple es k pos) (Ht X.K n t):=by
 intro pins s O H v u Q I r hw;obtain⟨a,xs,e1,hq,hl,hw⟩:=hw;subst e1;cases r;obtain⟨its,rv,ht,hz⟩:=I.tuple hq;refine assign_Tuple_tuple (I.ok.hd hc) ht (by simp[hn,<- hl,rv.length]) hst λh' hx=>?_;have I1:Inv X pins O H { s with heap:=h' }:=I.kept (t':=s.toks) λb o e=>hx b o (ϭ (ϔ e)) e;exact h pins _ O H xs _ Q I1 (by simpa using rv) hw
def Hu (to ti:TE) (t:BZ):TG:=λv O H Q=>to O H λo H1=>ti O H1 λi H2=>t o i v H2 λH3=>Q O H3
theorem sC {o i:Expr} {to ti:TE} {t:BZ} (ho:PE X o to) (hi:PE X i ti) (hs:Ff X t)
  (ha:∀v,assign (.Subscript o i pos) X.env v=(do
   let ov <- holding [v] (eval o X.env)
   let iv <- holding [v,ov] (eval i X.env)
   standAt pos
   holding [v,ov,iv] (setItem ov iv v)
   release [v,ov,iv] []):=by intro _;rfl):PG X (.Subscript o i pos) (Hu to ti t):=by
 intro pins s O H v u Q I r h;rw[ha];refine wpAny_bind (wpAny_holding (thn (ho pins s O H _ I h) λov s1 ⟨x,H1,I1,r1,q1⟩=>?_));refine wpAny_bind (wpAny_holding (thn (hi pins s1 O H1 _ I1 q1) λiv s2 ⟨y,H2,I2,r2,q2⟩=>?_));refine wpAny_bind (wpAny_standAt (wpAny_bind (wpAny_holding (thn (hs pins s2 O H2 x y v ov iv u _ I2 r1 r2 r q2) λ_ s3 ⟨H3,I3,q3⟩=>?_))));exact wpAny_release ⟨O,H3,I3,q3⟩
def on (te:TE) (g:TG):TS:=λD O H=>te O H λx H1=>g x O H1 D.nx
theorem oH {e:Expr} {te:TE} {g:TG} (he:PE X e te) (hg:PG X tg g) (hs:swapsWithSole [tg] e pos.line X.env=pure false:=by rfl) (hw:swappedStores [tg] e X.env=pure none:=by rfl)
  (h1:(assignEach [tg] X.env).map (·.2)=[assign tg X.env]:=by rfl):PS X (.Assign [tg] e pos) (on te g):=by
 intro pins s O H D I h;refine wpAny_Assign_stores (thn (he pins s O H _ I h) λv s1 ⟨x,H1,I1,r1,q1⟩=>?_) hs hw;rw[h1];exact thn (hg pins s1 O H1 x v _ I1 r1 q1) λ_ s2 q=>q
theorem lz {e:Expr} {te:TE} {pos':Pos} (hN:X.N.Nodup) (hi:X.N[i]?=some x) (hx:Loc X.env.scope x) (he:PE X e te) (hs:swapsWith e (some (.Name x pos')) pos.line X.env=pure false:=by rfl) (hf:X.fn x=true\/X.env.scope.names.lookup x=some .local:=by first|exact .inl rfl|exact .inr rfl|assumption) :
  PS X (.Assign [.Name x pos'] e pos) (on te (cR i)):=by
 intro pins s O H D I h;refine wpAny_Assign_Name (thn (he pins s O H _ I h) λv s1 ⟨y,H1,I1,r1,q1⟩=>?_) hs;exact gw I1 hN hi hx r1 (λs2 I2=>⟨_,H1,I2,q1⟩) hf
def zJ (i j:Nat) (ta:TA):TS:=λD O H=>ta O H λvs H1=>∃v w,vs=[v,w]/\D.nx ((O.set i (some v)).set j (some w)) H1
theorem xx {j:Nat} {y:Str} {a b:Expr} {ta:TA} {px py pt:Pos} {kt k2 pt2} (hc:X.calm=true) (hN:X.N.Nodup) (hi:X.N[i]?=some x) (hj:X.N[j]?=some y) (hij:i≠j)
  (hx:X.env.scope.names.lookup x=some .local) (hy:X.env.scope.names.lookup y=some .local) (ha:PA X [a,b] ta)
  (hw:swappedStores [.Tuple [.Name x px,.Name y py] kt pt] (.Tuple [a,b] k2 pt2) X.env=pure (some [x,y]))
  (hs:swapsWithSole [.Tuple [.Name x px,.Name y py] kt pt] (.Tuple [a,b] k2 pt2) pos.line X.env=pure false:=by rfl) :
  PS X (.Assign [.Tuple [.Name x px,.Name y py] kt pt] (.Tuple [a,b] k2 pt2) pos) (zJ i j ta):=by
 intro pins s O H D I h;rw[exec_Assign_arm];refine wpAny_bind (wpAny_standAt ?_);rw[hs];refine wpAny_bind (wpAny_pure ?_);rw[if_neg (by decide)];refine wpAny_bind (Tuple_ (thn (ha _ pins s O H _ I h) λus s1 ⟨vs,H1,I1,r1,q1⟩=>?_));obtain⟨v,w,e1,q1⟩:=q1;subst e1;obtain⟨u1,u2,rfl,rv,rw'⟩:∃u1 u2,us=[u1,u2]/\RelV v u1/\RelV w u2:=by
  cases r1 with
  | cons p q =>
   cases q with
   | cons p' q' =>
    cases q';exact⟨_,_,rfl,p,p'⟩
 refine wpAny_newObj_type ?_ (by show 2<=sizeLine;decide);have I2:Inv X pins O H1 { s1 with heap:=s1.heap.push { cls:=.type "tuple",data:=.seq [u1,u2].toArray } }:=I1.kept (t':=s1.toks) λb o e=>ϒ _ e;rw[hw];refine wpAny_bind (wpAny_pure ?_);show wpAny (model X.prog X.w) X.A (do rule "assign.swapped-stores";let items <- unpackItems (.ref s1.heap.objs.size) 2 none;assignInOrder [λv=>bindName X.env y v,λv=>bindName X.env x v] items.reverse;pure Flow.next) _ _ _;refine wpAny_bind (wpAny_rule (wpAny_bind (unpackItems_tuple (items:=#[u1,u2]) (I.ok.hd hc) (IsTup.new s1.heap _) λh' hx'=>?_)));have I3:=I2.kept (h':=h') (t':=s1.toks) λb o e=>hx' b o (ϭ (ϔ e)) e;show wpAny _ _ (assignInOrder [λv=>bindName X.env y v,λv=>bindName X.env x v] [u2,u1] >>= λ_=>pure Flow.next) _ _ _;refine wpAny_bind (assignInOrder_cons (wpAny_bindName (gw I3 hN hj (.inl hy) rw' (λs2 I4=>?_) (.inr hy))));refine assignInOrder_cons (wpAny_bindName (gw I4 hN hi (.inl hx) rv (λs3 I5=>assignInOrder_nil (wpAny_pure ?_)) (.inr hx)));rw[List.set_comm _ _ (Ν hij)]at I5;exact⟨_,H1,I5,q1⟩
end
section
variable {X:Cx} {pos:Pos}
def CL (c:TT) (tb:TS):TS:=λD O H=>∃W:Nat->St->Hp->Prop,(∃m,W m O H)/\∀m O H,W m O H ->
 c O H λb H1=>if b=true then ∃N:St->Hp->Prop,(∀σ' H',N σ' H'->∃m',m'<m/\W m' σ' H')/\tb { D with nx:=N,ct:=N,bk:=D.nx } O H1 else D.nx O H1
theorem xw {c:Expr} {body:List Stmt} {tc:TT} {tb:TS} (hp:PassesOwn (model X.prog X.w) X.A X.env X.xe) (hc:PT X c tc) (hb:PSs X body tb):PS X (.While c body [] pos) (CL tc tb):=by
 intro pins s O H D I h;obtain⟨W,⟨m0,w0⟩,jE⟩:=h;refine wpAny_While (codeAny_whileLoop (λn s'=>∃σ' H',Inv X pins σ' H' s'/\W n σ' H') ?_ m0 ⟨O,H,I,w0⟩);rintro n s1 ⟨O1,H1,I1,w1⟩;refine wpAny_passesOwn hp (thn (hc pins s1 O1 H1 _ I1 (jE n O1 H1 w1)) λb s2 ⟨H2,I2,q2⟩=>?_);cases b with
 | true =>
  obtain⟨N,hN,q2⟩:=q2;rw[if_pos rfl];refine wpAny_passesOwn hp (thn (hb pins s2 O1 H2 _ I2 q2) λf s3 q3=>?_);cases f with
  | next =>
   obtain⟨O3,H3,I3,n3⟩:=q3;obtain⟨m',hm,w3⟩:=hN O3 H3 n3;exact⟨m',hm,O3,H3,I3,w3⟩
  | cont =>
   obtain⟨O3,H3,I3,n3⟩:=q3;obtain⟨m',hm,w3⟩:=hN O3 H3 n3;exact⟨m',hm,O3,H3,I3,w3⟩
  | brk=>exact q3
  | ret v=>exact q3
 | false =>
  rw[if_neg ϙ];exact wpAny_execs_nil ⟨O1,H2,I2,q2⟩
end
structure It where
 go:Nat->Hp->Prop
 yld:Nat->Hp->V->Hp->Prop
 stop:Nat->Hp->Prop
def nh (X:Cx) (pins:List (Addr×Obj)) (H:Hp) (b:Addr):Prop :=
 H b=none/\b≠X.env.locals/\b∉X.fs/\(b∈X.ex\/X.s₀.heap.objs.size<=b)/\(∀x c,X.env.cells.lookup x=some c->c≠b)/\∀p∈X.pn++pins,p.1≠b
theorem Inv.fpOk {X:Cx} {pins:List (Addr×Obj)} {O:St} {H H':Hp} {b:Addr} (I:Inv X pins O H s) (hb:s.heap.objs.size<=b) (hn:H' b=none):nh X pins H' b:=by
 refine⟨hn,Nat.ne_of_gt (Ϛ I.lt hb),I.nofs hb,.inr (ϣ I.sz hb),λx c e z=>?_,λp hp z=>?_⟩
 ·obtain⟨v,q⟩:=I.cell x c e;exact absurd (Ϛ q.lt (by rw[z];exact hb)) (Ϻ _)
 ·exact absurd (Ϛ (ϔ (I.pin p hp).1) (by rw[z];exact hb)) (Ϻ _)
structure tP (P:Program) (w:World) (K:Frag) (tg:Expr) (J:It) (fp:List Addr) (it:Addr) (tn:Nat->Heap->Prop):Prop where
 mem:it∈fp
 obj:∀i h,tn i h->∀b∈fp,∃o,h.get? b=some o/\∀v,o.data ≠ .cell v
 keep:∀i h h',tn i h->(∀b∈fp,∀o,h.get? b=some o->h'.get? b=some o)->tn i h'
 item:∀(X:Cx),X.prog=P->X.w=w->X.K=K->X.calm=true->∀(i:Nat) (pins:List (Addr×Obj)) (s:Shared) (O:St) (H:Hp) (E:Value->Shared->Prop),Inv X pins O H s->(∀b∈fp,nh X pins H b)->tn i s.heap->J.go i H ->
  wpAny (model P w) X.A (pyNext (.ref it)) (λr s1=>∃u,r=some u /\
   wpAny (model P w) X.A (letOwnedTupleGo tg (.ref it) u) (λ_ s2=>∃x H',Inv X pins O H' s2/\RelV x u/\J.yld i H x H'/\tn (i+1) s2.heap/\∀b∈fp,H' b=none) E s1) E s
 done:∀(X:Cx),X.prog=P->X.w=w->X.K=K->X.calm=true->∀(i:Nat) (pins:List (Addr×Obj)) (s:Shared) (O:St) (H:Hp) (E:Value->Shared->Prop),Inv X pins O H s->(∀b∈fp,nh X pins H b)->tn i s.heap->J.stop i H ->
  wpAny (model P w) X.A (pyNext (.ref it)) (λr s1=>r=none/\Inv X pins O H s1) E s
 self:∀(A:Around) (i:Nat) (s:Shared) (Q:Value->Shared->Prop) (E:Value->Shared->Prop),tn i s.heap->Q (.ref it) s->wpAny (model P w) A (pyIter (.ref it)) Q E s
abbrev TI:=St->Hp->(It->Hp->Prop)->Prop
def PIE (X:Cx) (pins:List (Addr×Obj)) (O:St) (tg:Expr) (R:It->Hp->Prop) (itv:Value) (s2:Shared):Prop :=
 ∃(it:Addr) (fp:List Addr) (tn:Nat->Heap->Prop) (J:It) (H':Hp),itv=.ref it/\Inv X pins O H' s2/\tP X.prog X.w X.K tg J fp it tn/\tn 0 s2.heap/\(∀b∈fp,nh X pins H' b)/\R J H'
def PI (X:Cx) (tg iter:Expr) (wi:TI):Prop :=
 ∀(pins:List (Addr×Obj)) (s:Shared) (O:St) (H:Hp) (R:It->Hp->Prop),Inv X pins O H s->wi O H R ->
  wpAny (model X.prog X.w) X.A (eval iter X.env) (λv s1=>wpAny (model X.prog X.w) X.A (pyIter v) (PIE X pins O tg R) X.xe s1) X.xe s
theorem yn {M:Model} {A:Around} {E:Value->Shared->Prop} {it:Addr} {o:Obj} {n:String} {vs:Array Value} {Q:Unit->Shared->Prop} (ho:s.heap.get? it=some o) (hc:o.cls=.type n) (hd:o.data=.fields vs)
    (hn:["enumerate","zip","dict_itemiterator","dict_reverseitemiterator","odict_iterator","itertools.zip_longest","itertools.pairwise"].contains n=false) (hQ:Q () s):wpAny M A (letOwnedTupleGo tg (.ref it) u) Q E s:=by
  unfold letOwnedTupleGo;cases tg<;>first
    | exact wpAny_pure hQ
    | (cases u<;>first
        | exact wpAny_pure hQ
        | (refine wpAny_bind (wpAny_load ho ?_)
           rw[hc,hd];show wpAny M A (if(["enumerate","zip","dict_itemiterator","dict_reverseitemiterator","odict_iterator","itertools.zip_longest","itertools.pairwise"].contains n&&vs[0]?==some (rawInt _))=true then _ else _) Q E s;rw[if_neg (by intro h;rw[hn,Bool.false_and]at h;cases h)];exact wpAny_pure hQ))
def Itl (K:Frag) (a:Addr):It :=
 ⟨λi H=>∃xs x,SqL K H a xs/\xs[i]?=some x,λi H x H'=>H'=H/\∀xs,SqL K H a xs->xs[i]?=some x,λi H=>∃xs,SqL K H a xs/\xs.length<=i⟩
def Itt (K:Frag) (a:Addr):It :=
 ⟨λi H=>∃xs x,SqT K H a xs/\xs[i]?=some x,λi H x H'=>H'=H/\∀xs,SqT K H a xs->xs[i]?=some x,λi H=>∃xs,SqT K H a xs/\xs.length<=i⟩
def Itr (lo:Int) (n:Nat):It:=⟨λi _=>i<n,λi H x H'=>H'=H/\x=.int (lo+i),λi _=>n<=i⟩
variable {P:Program} {w:World}
theorem nj (a it:Addr):tP P w K tg (Itl K a) [it] it (λi h=>h.IsListIter it a i) where
 mem:=by simp
 obj:=λi h st b hb=>by
  have e:b=it:=by simpa using hb
  subst e;obtain⟨o,e,c,d⟩:=st;exact⟨o,e,λv z=>by rw[d]at z;cases z⟩
 keep:=λi h h' st k=>st.at λo e=>k it (by simp) o e
 item:=by
  intro X hP hw hK hc i pins s O H E I hf st hg;subst hP hw hK;obtain⟨xs,x,hq,hx⟩:=hg;obtain⟨its,rv,p,hz⟩:=I.list hq;obtain⟨u,hu,ru⟩:=rv.get hx;obtain⟨f0,f1,f2,f3,f4,f5⟩:=hf it (by simp);refine wpAny_pyNext_list_item st p.isList (x:=u) (by simpa using hu) λh' st' sb=>?_;have I1:Inv X pins O H { s with heap:=h' }:=I.turned (t':=s.toks) (λb o hb e=>(sb.2 b hb).trans e) f0 f1 f3 f4 f5;obtain⟨o,e,c,d⟩:=id st';exact⟨u,rfl,yn (s:={ s with heap:=h' }) e c d (by decide) ⟨x,H,I1,ru,⟨rfl,λys hy=>by rw[I.list_inj hy hq];exact hx⟩,st',λb hb=>(hf b hb).1⟩⟩
 done:=by
  intro X hP hw hK hc i pins s O H E I hf st hg;subst hP hw hK;obtain⟨xs,hq,hx⟩:=hg;obtain⟨its,rv,p,hz⟩:=I.list hq;obtain⟨f0,f1,f2,f3,f4,f5⟩:=hf it (by simp);have hl:=rv.length;exact wpAny_pyNext_list_end (I.ok.hd hc) st p.isList (by simp;omega) λh' eb=>⟨rfl,I.turned (t':=s.toks) (λb o hb e=>eb b o hb e) f0 f1 f3 f4 f5⟩
 self:=λ_ _ _ _ _ st h=>wpAny_pyIter_listiter st h
theorem rW (a it:Addr):tP P w K tg (Itt K a) [it] it (λi h=>h.IsTupleIter it a i) where
 mem:=by simp
 obj:=λi h st b hb=>by
  have e:b=it:=by simpa using hb
  subst e;obtain⟨o,e,c,d⟩:=st;exact⟨o,e,λv z=>by rw[d]at z;cases z⟩
 keep:=λi h h' st k=>st.at λo e=>k it (by simp) o e
 item:=by
  intro X hP hw hK hc i pins s O H E I hf st hg;subst hP hw hK;obtain⟨xs,x,hq,hx⟩:=hg;obtain⟨its,rv,p,hz⟩:=I.tuple hq;obtain⟨u,hu,ru⟩:=rv.get hx;obtain⟨f0,f1,f2,f3,f4,f5⟩:=hf it (by simp);refine wpAny_pyNext_tuple_item st (show s.heap.IsTuple a its.toArray from p) (x:=u) (by simpa using hu) λh' st' sb=>?_;have I1:Inv X pins O H { s with heap:=h' }:=I.turned (t':=s.toks) (λb o hb e=>(sb.2 b hb).trans e) f0 f1 f3 f4 f5;obtain⟨o,e,c,d⟩:=id st';exact⟨u,rfl,yn (s:={ s with heap:=h' }) e c d (by decide) ⟨x,H,I1,ru,⟨rfl,λys hy=>by rw[I.tuple_inj hy hq];exact hx⟩,st',λb hb=>(hf b hb).1⟩⟩
 done:=by
  intro X hP hw hK hc i pins s O H E I hf st hg;subst hP hw hK;obtain⟨xs,hq,hx⟩:=hg;obtain⟨its,rv,p,hz⟩:=I.tuple hq;obtain⟨f0,f1,f2,f3,f4,f5⟩:=hf it (by simp);have hl:=rv.length;exact wpAny_pyNext_tuple_end (I.ok.hd hc) st (show s.heap.IsTuple a its.toArray from p) (by simp;omega) λh' eb=>⟨rfl,I.turned (t':=s.toks) (λb o hb e=>eb b o hb e) f0 f1 f3 f4 f5⟩
 self:=λ_ _ _ _ _ st h=>wpAny_pyIter_tupleiter st h
theorem rX (it:Addr) (lo:Int) (n:Nat):tP P w K tg (Itr lo n) [it] it (λi h=>IsRangeIter h it (lo+(i:Nat)*1) ((n:Int)-(i:Nat)) 1) where
 mem:=by simp
 obj:=λi h st b hb=>by
  have e:b=it:=by simpa using hb
  subst e;exact⟨_,st,λv z=>by
   have z':Data.fields _=Data.cell v:=z;cases z'⟩
 keep:=λi h h' st k=>k it (by simp) _ st
 item:=by
  intro X hP hw hK hc i pins s O H E I hf st hg;subst hP hw hK;obtain⟨f0,f1,f2,f3,f4,f5⟩:=hf it (by simp);have W:=Walks.range (prog:=X.prog) (w:=X.w) (I.ok.hd hc) it lo 1 n;refine W.item i s _ _ hg st λv h' tk hv st' kk=>?_;obtain⟨t,rfl⟩:=hv;have I1:Inv X pins O H { s with heap:=h',toks:=tk }:=I.turned (λb o hb e=>kk b o (by simpa using hb) e) f0 f1 f3 f4 f5;refine⟨_,rfl,yn (s:={ s with heap:=h',toks:=tk }) (n:="range_iterator") st' rfl rfl (by decide) ⟨.int (lo+i),H,I1,⟨t,?_⟩,⟨rfl,rfl⟩,st',λb hb=>(hf b hb).1⟩⟩;rw[Int.mul_one]
 done:=by
  intro X hP hw hK hc i pins s O H E I hf st hg;subst hP hw hK;obtain⟨f0,f1,f2,f3,f4,f5⟩:=hf it (by simp);exact wpAny_pyNext_range_end (I.ok.hd hc) st (by have:n<=i:=hg;omega) λh' eb=>⟨rfl,I.turned (t':=s.toks) (λb o hb e=>eb b o hb e) f0 f1 f3 f4 f5⟩
 self:=λ_ _ _ _ _ st h=>wpAny_pyIter_rangeiter st h
end L2
namespace L2
open PySem PySem.Spec PyProof.Rows
variable {pins:List (Addr×Obj)} {O:St} {H:Hp} {s:Shared} {fp:List Addr}
section
variable {X:Cx} {tg:Expr}
def Gy (K:Frag) (tl:TE):TI:=λO H R=>tl O H λx H1=>∃a,x=.ref a/\(∃xs,SqL K H1 a xs)/\R (Itl K a) H1
theorem Aj {l:Expr} {tl:TE} (hl:PE X l tl):PI X tg l (Gy X.K tl):=by
 intro pins s O H R I h;refine thn (hl pins s O H _ I h) λv s1 ⟨x,H1,I1,r1,q1⟩=>?_;obtain⟨a,e,⟨xs,hq⟩,q⟩:=q1;subst e;cases r1;obtain⟨its,rv,p,hz⟩:=I1.list hq;refine wpAny_pyIter_list p.isList ?_;refine⟨s1.heap.objs.size,[s1.heap.objs.size],_,_,H1,rfl,I1.kept (t':=s1.toks) λb o e=>ϒ _ e,nj a _,⟨_,ϧ _ rfl,rfl,rfl⟩,λb hb=>?_,q⟩;have e:b=s1.heap.objs.size:=by simpa using hb
 subst e;exact I1.fpOk (ϗ _) (I1.hok.fresh (ϗ _))
theorem xk {R:It->Hp->Prop} {E:Value->Shared->Prop} {lo hi:Int} {t u v:Tok} {tk:Nat} (I:Inv X pins O H s) (h1:-(2 ^ 62)<=lo) (h2:lo<2 ^ 62) (h3:-(2 ^ 62)<=hi) (h4:hi<2 ^ 62)
  (q:R (Itr lo (hi-lo).toNat) H):wpAny (model X.prog X.w) X.A (pyIter (.ref s.heap.objs.size)) (PIE X pins O tg R) E { s with heap:=s.heap.push { cls:=.type "range",data:=.fields #[.int lo t,.int hi u,.int 1 v] },toks:=tk }:=by
 refine wpAny_pyIter_range (IsRange.new ..) (small_one h1 h2 h3 h4) ?_;have I1:Inv X pins O H { s with heap:=s.heap.push { cls:=.type "range",data:=.fields #[.int lo t,.int hi u,.int 1 v] },toks:=tk }:=I.kept λb o e=>ϒ _ e;refine⟨(s.heap.push { cls:=.type "range",data:=.fields #[.int lo t,.int hi u,.int 1 v] }).objs.size,[(s.heap.push { cls:=.type "range",data:=.fields #[.int lo t,.int hi u,.int 1 v] }).objs.size],_,_,H,rfl,
  I1.kept (t':=tk) λb o e=>ϒ _ e,rX _ lo (hi-lo).toNat,?_,λb hb=>?_,q⟩
 ·have e1:lo+((0:Nat):Int)*1=lo:=by simp
  have e2:(((hi-lo).toNat:Nat):Int)-((0:Nat):Int)=Builtin.Range.rangeSize lo hi 1:=by rw[rangeSize_one];split<;>omega
  show IsRangeIter _ _ (lo+((0:Nat):Int)*1) ((((hi-lo).toNat:Nat):Int)-((0:Nat):Int)) 1;rw[e1,e2];exact ϧ _ rfl
 ·have e:b=(s.heap.push { cls:=.type "range",data:=.fields #[.int lo t,.int hi u,.int 1 v] }).objs.size:=by simpa using hb
  subst e;exact I1.fpOk (ϗ _) (I1.hok.fresh (ϗ _))
def Gx (ta:TA):TI:=λO H R=>ta O H λvs H1=>∃j:Int,vs=[.int j]/\-(2 ^ 62)<=j/\j<2 ^ 62/\R (Itr 0 j.toNat) H1
theorem vP {a:Expr} {ta:TA} {p pos:Pos} (hg:Gl X "range") (hm:X.mg "range"=none) (ha:PA X [a] ta) (hs:starEach [a] X.env=[(false,eval a X.env)]:=by rfl):PI X tg (.Call (.Name "range" p) [a] [] pos) (Gx ta):=by
 intro pins s O H R I h;refine Call_ (gF I hg hm boot_range (Ο (thn (ha pos pins s O H _ I h) λus s1 ⟨vs,H1,I1,r1,q1⟩=>?_) hs rfl));obtain⟨j,e,q1,q2,q⟩:=q1;subst e;cases r1 with
 | cons r rr =>
  cases rr;obtain⟨t,rfl⟩:=r;exact call_range_1 (xk I1 (by omega) (by omega) q1 q2 (by simpa using q))
def FB (wi:TI) (g:TG) (tb:TS):TS:=λD O H=>wi O H λJ H1=>∃W:Nat->Nat->St->Hp->Prop,(∃m,W 0 m O H1)/\∀i m O H,W i m O H ->
 (J.stop i H/\D.nx O H)\/(J.go i H/\∃N:St->Hp->Prop,(∀σ' H',N σ' H'->∃m',m'<m/\W (i+1) m' σ' H')/\∀x H',J.yld i H x H'->g x O H' λO2 H2=>tb { D with nx:=N,ct:=N,bk:=D.nx } O2 H2)
def bY (fp:List Addr) (h:Heap):List (Addr×Obj):=fp.filterMap λb=>(h.get? b).map λo=>(b,o)
theorem dY {h:Heap} {b:Addr} {o:Obj} (hb:b∈fp) (e:h.get? b=some o):(b,o)∈bY fp h:=List.mem_filterMap.mpr ⟨b,hb,by rw[e];rfl⟩
theorem h_ {h:Heap} {p:Addr×Obj} (hp:p∈bY fp h):p.1∈fp/\h.get? p.1=some p.2:=by
 obtain⟨b,hb,e⟩:=List.mem_filterMap.mp hp;cases q:h.get? b with
 | none=>rw[q]at e;cases e
 | some o =>
  rw[q]at e;have e':(b,o)=p:=Ϥ e;subst e';exact⟨hb,q⟩
theorem Inv.pinned (I:Inv X pins O H s) (hf:∀b∈fp,nh X pins H b) (ho:∀b∈fp,∃o,s.heap.get? b=some o/\∀v,o.data ≠ .cell v):Inv X (pins++bY fp s.heap) O H s :=
 I.pins_of λp hp=>(Ϩ.mp hp).elim (λz=>I.pin p (ϐ _ z)) λz=>by
  obtain⟨hb,e⟩:=h_ z;obtain⟨f0,f1,f2,_⟩:=hf p.1 hb;obtain⟨o,e',d⟩:=ho p.1 hb;rw[e]at e';cases e';exact⟨e,f0,f1,f2,d⟩
theorem Inv.unpinned {pl:List (Addr×Obj)} (I:Inv X (pins++pl) O H s):Inv X pins O H s:=I.pins_of λp hp=>I.pin p (ϐ _ (ϟ _ hp))
theorem xA {iter:Expr} {body:List Stmt} {wi:TI} {g:TG} {tb:TS} {pos:Pos} (hp:PassesOwn (model X.prog X.w) X.A X.env X.xe) (hc:X.calm=true) (hi:PI X tg iter wi) (hg:PG X tg g) (hb:PSs X body tb)
  (hs:∀x,foldedSetIterable iter X.env x=pure x:=by intro _;rfl):PS X (.For tg iter body [] pos) (FB wi g tb):=by
 intro pins s O H D I h;refine wpAny_For (thn (hi pins s O H _ I h) λv s1 h1=>thn h1 λitv s2 h2=>?_) hs;obtain⟨it,fp,tn,J,H2,e,I2,T,st2,f2,W,⟨m0,w0⟩,jE⟩:=h2;subst e;have stat:∀{H':Hp},(∀b∈fp,H' b=none)->∀b∈fp,nh X pins H' b:=λhn b hb=>⟨hn b hb,(f2 b hb).2⟩;refine codeAny_forLoop_any (λn s'=>∃i σ' H',Inv X pins σ' H' s'/\tn i s'.heap/\(∀b∈fp,H' b=none)/\W i n σ' H') ?_ m0 ⟨0,O,H2,I2,st2,λb hb=>(f2 b hb).1,w0⟩;rintro n s3 ⟨i,O3,H3,I3,st3,fr3,w3⟩;rcases jE i n O3 H3 w3 with⟨stop,qn⟩|⟨go,N,hN,step⟩
 ·refine wpAny_passesOwn hp (thn (T.done X rfl rfl rfl hc i pins s3 O3 H3 X.xe I3 (stat fr3) st3 stop) λr s4 ⟨hr,I4⟩=>?_);subst hr;exact wpAny_execs_nil ⟨O3,H3,I4,qn⟩
 ·refine wpAny_passesOwn hp (thn (T.item X rfl rfl rfl hc i pins s3 O3 H3 X.xe I3 (stat fr3) st3 go) λr s4 ⟨u,hr,h4⟩=>?_);subst hr;refine wpAny_passesOwn hp (thn h4 λ_ s5 ⟨x,H5,I5,r5,y5,st5,fr5⟩=>?_);have I5':=I5.pinned (stat fr5) (T.obj _ _ st5);refine wpAny_passesOwn hp (thn (hg _ s5 O3 H5 x u _ I5' r5 (step x H5 y5)) λ_ s6 ⟨O6,H6,I6,q6⟩=>?_);refine wpAny_passesOwn hp (thn (hb _ s6 O6 H6 _ I6 q6) λf s7 q7=>?_);have again:∀{O7:St} {H7:Hp},Inv X (pins++bY fp s5.heap) O7 H7 s7->N O7 H7->∃m,m<n/\∃i σ' H',Inv X pins σ' H' s7/\tn i s7.heap/\(∀b∈fp,H' b=none)/\W i m σ' H':=λ{O7 H7} I7 n7=>by
   obtain⟨m',hm,w7⟩:=hN O7 H7 n7;refine⟨m',hm,i+1,O7,H7,I7.unpinned,T.keep _ _ _ st5 λb hb o e=>(I7.pin (b,o) (ϐ _ (ϐ _ (dY hb e)))).1,λb hb=>?_,w7⟩;obtain⟨o,e,d⟩:=T.obj _ _ st5 b hb;exact(I7.pin (b,o) (ϐ _ (ϐ _ (dY hb e)))).2.1
  cases f with
  | next=>obtain⟨O7,H7,I7,n7⟩:=q7;exact again I7 n7
  | cont=>obtain⟨O7,H7,I7,n7⟩:=q7;exact again I7 n7
  | brk=>obtain⟨O7,H7,I7,q7⟩:=q7;exact⟨O7,H7,I7.unpinned,q7⟩
  | ret v=>obtain⟨x7,O7,H7,I7,r7,q7⟩:=q7;exact⟨x7,O7,H7,I7.unpinned,r7,q7⟩
end
theorem yu {K:Frag} {a:Addr} {xs:List V} {g:TG} {tb:TS} {D:gt} (Pv:Nat->St->Hp->Prop) (h0:Pv 0 O H) (hl:∀i O H,i<=xs.length->Pv i O H->SqL K H a xs)
  (hs:∀i x O H,xs[i]?=some x->Pv i O H->g x O H λO2 H2=>tb { D with nx:=Pv (i+1),ct:=Pv (i+1),bk:=D.nx } O2 H2) (hd:∀O H,Pv xs.length O H->D.nx O H) :
  ∃W:Nat->Nat->St->Hp->Prop,(∃m,W 0 m O H)/\∀i m O H,W i m O H ->
   ((Itl K a).stop i H/\D.nx O H)\/((Itl K a).go i H/\∃N:St->Hp->Prop,(∀σ' H',N σ' H'->∃m',m'<m/\W (i+1) m' σ' H')/\∀x H',(Itl K a).yld i H x H'->g x O H' λO2 H2=>tb { D with nx:=N,ct:=N,bk:=D.nx } O2 H2):=by
 refine⟨λi m O H=>m=xs.length-i/\i<=xs.length/\Pv i O H,⟨xs.length,by simp,Ρ _,h0⟩,?_⟩;rintro i m O H ⟨rfl,hi,p⟩;have q:=hl i O H hi p;by_cases hlt:i<xs.length
 ·refine .inr ⟨⟨xs,xs[i],q,by simp[hlt]⟩,Pv (i+1),λσ' H' p'=>⟨xs.length-(i+1),by omega,rfl,hlt,p'⟩,λx H' y=>?_⟩;obtain⟨e,y⟩:=y;subst e;exact hs i x O _ (y xs q) p
 ·have e:i=xs.length:=by omega
  subst e;exact .inl ⟨⟨xs,q,ϗ _⟩,hd O H p⟩
end L2
namespace L2
open PySem PySem.Spec PyProof.Rows
abbrev R2:=V->V->Hp->VK->Prop
def OpR (X:Cx) (f:Value->Value->Sem Value) (r:R2):Prop :=
 ∀(pins:List (Addr×Obj)) (s:Shared) (O:St) (H:Hp) (x y:V) (v u:Value) (Q:VK),Inv X pins O H s->RelV x v->RelV y u->r x y H Q ->
  wpAny (model X.prog X.w) X.A (f v u) (EP X pins O Q) X.xe s
def UnR (X:Cx) (f:Value->Sem Value) (r:V->Hp->VK->Prop):Prop :=
 ∀(pins:List (Addr×Obj)) (s:Shared) (O:St) (H:Hp) (x:V) (v:Value) (Q:VK),Inv X pins O H s->RelV x v->r x H Q ->
  wpAny (model X.prog X.w) X.A (f v) (EP X pins O Q) X.xe s
def hV (X:Cx) (f:Value) (r:List V->Hp->VK->Prop):Prop :=
 ∀(pins:List (Addr×Obj)) (s:Shared) (O:St) (H:Hp) (xs:List V) (us:List Value) (Q:VK),Inv X pins O H s->Vals xs us->r xs H Q ->
  wpAny (model X.prog X.w) X.A (call f us) (EP X pins O Q) X.xe s
def tOp (r:R2) (ta tb:TE):TE:=λO H Q=>ta O H λx H1=>tb O H1 λy H2=>r x y H2 Q
def tUn (r:V->Hp->VK->Prop) (ta:TE):TE:=λO H Q=>ta O H λx H1=>r x H1 Q
def rI (C:Int->Int->Prop) (g:Int->Int->V):R2:=λx y H Q=>∃i j,x=.int i/\y=.int j/\C i j/\Q (g i j) H
def rI0 (g:Int->Int->V):R2:=λx y H Q=>∃i j,x=.int i/\y=.int j/\Q (g i j) H
def rU (g:Int->V):V->Hp->VK->Prop:=λx H Q=>∃i,x=.int i/\Q (g i) H
variable {f:Value->Value->Sem Value} {r:R2}
section
variable {X:Cx} {a b c:Expr} {ta tb tc:TE} {pos:Pos}
theorem E7 (ha:PE X a ta) (hb:PE X b tb) {pins:List (Addr×Obj)} {s:Shared} {O:St} {H:Hp} {R:V->V->Hp->Prop} (I:Inv X pins O H s)
  (h:ta O H λx H1=>tb O H1 λy H2=>R x y H2) {Q:Value->Shared->Prop}
  (hf:∀v u s2 x y H2,Inv X pins O H2 s2->RelV x v->RelV y u->R x y H2->wpAny (model X.prog X.w) X.A (f v u) Q X.xe s2) :
  wpAny (model X.prog X.w) X.A (eval a X.env) (λv s₁=>wpAny (model X.prog X.w) X.A (eval b X.env) (λu s₂=>wpAny (model X.prog X.w) X.A (f v u) Q X.xe s₂) X.xe s₁) X.xe s:=by
 refine thn (ha pins s O H _ I h) λv s1 ⟨x,H1,I1,r1,q1⟩=>?_;refine thn (hb pins s1 O H1 _ I1 q1) λu s2 ⟨y,H2,I2,r2,q2⟩=>?_;exact hf v u s2 x y H2 I2 r1 r2 q2
theorem Gc {op:Operator} (ho:OpR X (binaryOp op) r) (ha:PE X a ta) (hb:PE X b tb):PE X (.BinOp a op b pos) (tOp r ta tb):=by
 intro pins s O H Q I h;exact wpAny_BinOp (E7 ha hb I h λv u s2 x y H2 I2 rx ry q=>ho pins s2 O H2 x y v u Q I2 rx ry q)
theorem Ga {op:UnaryOp} {r:V->Hp->VK->Prop} (ho:UnR X (unaryOp op) r) (ha:PE X a ta):PE X (.UnaryOp op a pos) (tUn r ta):=by
 intro pins s O H Q I h;exact UnaryOp_ (thn (ha pins s O H _ I h) λv s1 ⟨x,H1,I1,r1,q1⟩=>ho pins s1 O H1 x v Q I1 r1 q1)
theorem opI {C:Int->Int->Prop} {g:Int->Int->Int}
  (rule:∀(i j:Int) (t u:Tok) (s:Shared) (Q:Value->Shared->Prop) (E:Value->Shared->Prop),C i j->Q (.int (g i j) s.toks) { s with toks:=s.toks+1 }->wpAny (model X.prog X.w) X.A (f (.int i t) (.int j u)) Q E s) :
  OpR X f (rI C λi j=>.int (g i j)):=by
 intro pins s O H x y v u Q I rx ry h;obtain⟨i,j,rfl,rfl,hc,q⟩:=h;obtain⟨t,rfl⟩:=rx;obtain⟨t',rfl⟩:=ry;exact rule i j t t' s _ _ hc ⟨.int (g i j),H,I.tok _,⟨_,rfl⟩,q⟩
theorem Ge {g:Int->Int->Int}
  (rule:∀(i j:Int) (t u:Tok) (s:Shared) (Q:Value->Shared->Prop) (E:Value->Shared->Prop),Q (.int (g i j) s.toks) { s with toks:=s.toks+1 }->wpAny (model X.prog X.w) X.A (f (.int i t) (.int j u)) Q E s) :
  OpR X f (rI0 λi j=>.int (g i j)):=by
 intro pins s O H x y v u Q I rx ry h;obtain⟨i,j,rfl,rfl,q⟩:=h;obtain⟨t,rfl⟩:=rx;obtain⟨t',rfl⟩:=ry;exact rule i j t t' s _ _ ⟨.int (g i j),H,I.tok _,⟨_,rfl⟩,q⟩
theorem AC {g:Int->Int->Bool}
  (rule:∀(i j:Int) (t u:Tok) (s:Shared) (Q:Value->Shared->Prop) (E:Value->Shared->Prop),Q (.bool (g i j)) s->wpAny (model X.prog X.w) X.A (f (.int i t) (.int j u)) Q E s) :
  OpR X f (rI0 λi j=>.bl (g i j)):=by
 intro pins s O H x y v u Q I rx ry h;obtain⟨i,j,rfl,rfl,q⟩:=h;obtain⟨t,rfl⟩:=rx;obtain⟨t',rfl⟩:=ry;exact rule i j t t' s _ _ ⟨.bl (g i j),H,I,rfl,q⟩
def GU (i j:Int):Prop:=0<j/\j<1073741824
def CMul (i j:Int):Prop:=(-(2 ^ 64)<i/\i<2 ^ 64)\/(-(2 ^ 64)<j/\j<2 ^ 64)
theorem CMul.ok {i j:Int} (h:CMul i j):IntMulOk i j:=by
 rcases h with⟨h1,h2⟩|⟨h1,h2⟩
 ·exact .of_left (intBits_le_64 h1 h2)
 ·exact .of_right (intBits_le_64 h1 h2)
theorem op_add:OpR X (binaryOp .Add) (rI0 λi j=>.int (i+j)):=Ge λ_ _ _ _ _ _ _ q=>add_int q
theorem DP:OpR X (binaryOp .Sub) (rI0 λi j=>.int (i-j)):=Ge λ_ _ _ _ _ _ _ q=>sub_int q
theorem DS:OpR X (binaryOp .Mult) (rI CMul λi j=>.int (i*j)):=opI λ_ _ _ _ _ _ _ hc q=>mul_int q hc.ok
theorem AB:OpR X (binaryOp .FloorDiv) (rI GU λi j=>.int (i/j)):=opI λi j _ _ _ _ _ hc q=>by
 have h1:(0:Int)<j:=hc.1;have h2:j<1073741824:=hc.2;exact floordiv_int (by omega) (by rw[Int.fdiv_eq_ediv_of_nonneg i (by omega)];exact q) (.inl (PyProof.noPylong_small (by omega)))
theorem DT:OpR X (binaryOp .Mod) (rI (λ_ j=>0<j) λi j=>.int (i%j)):=opI λi j _ _ _ _ _ hc q=>by
 have h1:(0:Int)<j:=hc;exact mod_int' (by omega) (by rw[Int.fmod_eq_emod_of_nonneg i (by omega)];exact q)
theorem unI {f:Value->Sem Value} {g:Int->Int}
  (rule:∀(i:Int) (t:Tok) (s:Shared) (Q:Value->Shared->Prop) (E:Value->Shared->Prop),Q (.int (g i) s.toks) { s with toks:=s.toks+1 }->wpAny (model X.prog X.w) X.A (f (.int i t)) Q E s) :
  UnR X f (rU λi=>.int (g i)):=by
 intro pins s O H x v Q I rx h;obtain⟨i,rfl,q⟩:=h;obtain⟨t,rfl⟩:=rx;exact rule i t s _ _ ⟨.int (g i),H,I.tok _,⟨_,rfl⟩,q⟩
theorem Cs:UnR X (unaryOp .USub) (rU λi=>.int (-i)):=unI λ_ _ _ _ _ q=>neg_int q
end
variable {op:CmpOp} {r':R2}
section
variable {X:Cx} {a b c:Expr} {ta tb tc:TE} {pos:Pos}
theorem xU:OpR X (compareOp .Lt) (rI0 λi j=>.bl (decide (i<j))):=AC λ_ _ _ _ _ _ _ q=>lt_int q
theorem uI:OpR X (compareOp .LtE) (rI0 λi j=>.bl (decide (i<=j))):=AC λ_ _ _ _ _ _ _ q=>le_int q
theorem Ca:OpR X (compareOp .Gt) (rI0 λi j=>.bl (decide (j<i))):=AC λ_ _ _ _ _ _ _ q=>gt_int q
theorem Gd:OpR X (compareOp .GtE) (rI0 λi j=>.bl (decide (j<=i))):=AC λ_ _ _ _ _ _ _ q=>ge_int q
theorem OpR.or (h:OpR X f r) (h':OpR X f r'):OpR X f (λx y H Q=>r x y H Q\/r' x y H Q):=by
 intro pins s O H x y v u Q I rx ry q;rcases q with q|q
 ·exact h pins s O H x y v u Q I rx ry q
 ·exact h' pins s O H x y v u Q I rx ry q
theorem iM (b:Expr) (h:op ≠ .In:=by decide) (h2:op ≠ .NotIn:=by decide):behindInMarks op b=false:=by
 have e1:(op==CmpOp.In)=false:=by cases op<;>first|rfl|exact absurd rfl h
 have e2:(op==CmpOp.NotIn)=false:=by cases op<;>first|rfl|exact absurd rfl h2
 cases b<;>simp[behindInMarks,e1,e2]
theorem Am (ho:OpR X (compareOp op) r) (ha:PE X a ta) (hb:PE X b tb) (hm:behindInMarks op b=false):PE X (.Compare a [op] [b] pos) (tOp r ta tb):=by
 intro pins s O H Q I h;exact wpAny_Compare1 (E7 ha hb I h λv u s2 x y H2 I2 rx ry q=>ho pins s2 O H2 x y v u Q I2 rx ry q) hm
def B5 (t:TE):TT:=λO H Q=>t O H λx H'=>∃k,x=.bl k/\Q k H'
theorem ux (ho:OpR X (compareOp op) r) (ha:PE X a ta) (hb:PE X b tb) (hm:behindInMarks op b=false):PT X (.Compare a [op] [b] pos) (B5 (tOp r ta tb)):=by
 intro pins s O H Q I h;refine wpAny_isTrue_Compare1 (thn (ha pins s O H _ I h) λv s1 ⟨x,H1,I1,r1,q1⟩=>thn (hb pins s1 O H1 _ I1 q1) λu s2 ⟨y,H2,I2,r2,q2⟩ =>
  thn (ho pins s2 O H2 x y v u _ I2 r1 r2 q2) λc s3 ⟨z,H3,I3,r3,k,e,q3⟩=>?_) hm
 subst e;cases r3;exact wpAny_truthy_bool ⟨H3,I3,q3⟩
def sg (r r':R2) (ta tb tc:TE):TE:=λO H Q=>ta O H λx H1=>tb O H1 λy H2=>r x y H2 λz H3=>∃k,z=.bl k /\
 (if k=true then tc O H3 λw' H4=>r' y w' H4 Q else Q (.bl false) H3)
theorem xN {op':CmpOp} (ho:OpR X (compareOp op) r) (ho':OpR X (compareOp op') r') (ha:PE X a ta) (hb:PE X b tb) (hc:PE X c tc)
  (hm:lastMarks [op,op'] [b,c]=false:=by with_unfolding_all rfl):PE X (.Compare a [op,op'] [b,c] pos) (sg r r' ta tb tc):=by
 intro pins s O H Q I h;refine Compare_chain (thn (ha pins s O H _ I h) λv s1 ⟨x,H1,I1,r1,q1⟩=>chain_link (thn (hb pins s1 O H1 _ I1 q1) λu s2 ⟨y,H2,I2,r2,q2⟩ =>
  thn (ho pins s2 O H2 x y v u _ I2 r1 r2 q2) λd s3 ⟨z,H3,I3,r3,k,e,q3⟩=>?_)) hm
 subst e;cases r3;refine wpAny_truthy_bool ?_;cases k with
 | false=>exact ite_ff ⟨.bl false,H3,I3,rfl,q3⟩
 | true=>exact ite_tt (chain_last (thn (hc pins s3 O H3 _ I3 q3) λw' s4 ⟨z',H4,I4,r4,q4⟩=>ho' pins s4 O H4 y z' u w' Q I4 r2 r4 q4))
theorem xv {op':CmpOp} (ho:OpR X (compareOp op) r) (ho':OpR X (compareOp op') r') (ha:PE X a ta) (hb:PE X b tb) (hc:PE X c tc)
  (hm:lastMarks [op,op'] [b,c]=false:=by with_unfolding_all rfl):PT X (.Compare a [op,op'] [b,c] pos) (B5 (sg r r' ta tb tc)):=by
 intro pins s O H Q I h;refine isTrue_chain (thn (ha pins s O H _ I h) λv s1 ⟨x,H1,I1,r1,q1⟩=>test_link (thn (hb pins s1 O H1 _ I1 q1) λu s2 ⟨y,H2,I2,r2,q2⟩ =>
  thn (ho pins s2 O H2 x y v u _ I2 r1 r2 q2) λd s3 ⟨z,H3,I3,r3,k,e,q3⟩=>?_)) hm
 subst e;cases r3;refine wpAny_truthy_bool ?_;cases k with
 | false =>
  obtain⟨k',e',q'⟩:=q3;cases e';exact ite_ff ⟨H3,I3,q'⟩
 | true =>
  refine ite_tt (test_last (thn (hc pins s3 O H3 _ I3 q3) λw' s4 ⟨z',H4,I4,r4,q4⟩=>thn (ho' pins s4 O H4 y z' u w' _ I4 r2 r4 q4) λd' s5 ⟨z2,H5,I5,r5,k2,e2,q5⟩=>?_));subst e2;cases r5;exact wpAny_truthy_bool ⟨H5,I5,q5⟩
theorem lP:(sizeLine:Nat)<2 ^ 63:=by rw[sizeLine_eq];decide
theorem lj {x:V} {us:List Value} (r:Vals [x] us):∃u,us=[u]/\RelV x u:=by
 cases r with
 | cons r1 r2=>cases r2;exact⟨_,rfl,r1⟩
theorem Fm {x y:V} {us:List Value} (r:Vals [x,y] us):∃u w',us=[u,w']/\RelV x u/\RelV y w':=by
 cases r with
 | cons r1 r2 =>
  cases r2 with
  | cons r3 r4=>cases r4;exact⟨_,_,rfl,r1,r3⟩
theorem nU (hc:X.calm=true):hV X (.builtin "max") (λxs H Q=>∃i j,xs=[.int i,.int j]/\Q (.int (if j>i then j else i)) H):=by
 intro pins s O H xs us Q I r h;obtain⟨i,j,rfl,q⟩:=h;obtain⟨u,w',rfl,⟨t,rfl⟩,⟨t',rfl⟩⟩:=Fm r;refine max_two_ints (I.ok.hd hc) λh' tk k=>⟨_,H,I.kept k,?_,q⟩;by_cases hj:j>i
 ·rw[if_pos hj,if_pos hj];exact⟨_,rfl⟩
 ·rw[if_neg hj,if_neg hj];exact⟨_,rfl⟩
end
end L2
namespace L2
open PySem PySem.Spec PyProof.Rows
structure ObjM (h:Heap) (x dx C:Addr) (mA:Str->Option Value):Prop where
 obj:h.get? x=some (instObj C dx)
 ns:h.Ns1 dx mA
 ne:dx≠x
theorem vW {h:Heap} {dx:Addr} {mA:Str->Option Value} (n:h.Ns1 dx mA):∃od,h.get? dx=some od/\∀name,PySem.W.lookIn name od=some (mA name):=by
 obtain⟨o,es,ep,ho,hd,hk,_,hm⟩:=n;refine⟨o,ho,λname=>?_⟩;have e:=hm name;unfold nsFind findBy at e;rw[<- Array.find?_toList]at e;unfold PySem.W.lookIn;rw[hd];dsimp only;split
 ·rename_i y q;rw[q]at e;exact congrArg some e
 ·rename_i q;rw[q]at e;have a:es.toList.any (·.refKey)=false:=by
   rw[List.any_eq_false];intro y hy;obtain⟨z,t,hkey⟩:=hk y (Array.mem_toList_iff.mp hy);simp[DictEntry.refKey,hkey]
  have a':¬ es.toList.any (·.refKey)=true:=by rw[a];exact ϙ
  rw[if_neg a'];exact congrArg some e
variable {C:Addr}
theorem ObjM.look {h:Heap} {x dx:Addr} {mA:Str->Option Value} (I:ObjM h x dx C mA):∃od,InstAt h x (instObj C dx) C (some od)/\∀name,PySem.W.lookIn name od=some (mA name) :=
 let ⟨od,ho,hl⟩:=vW I.ns
 ⟨od,⟨I.obj,rfl,rfl,ho⟩,hl⟩
variable {Q:Value->Shared->Prop}
section
variable {prog:Program} {w:World} {A:Around} {E:Value->Shared->Prop} {s:Shared} {K:Frag} {x dx C f:Addr} {mA:Str->Option Value} {name:Str} {v:Value}
theorem A7 {expr:Bool} (X:K.In s.heap) (I:ObjM s.heap x dx C mA) (hg:plainGet K C name=true) (hh:hasDictIn K C=true)
  (ha:findIn K (.ref C) name=some none) (hv:mA name=some v) (hv':PySem.W.handedIn v=true) (h:Q v { s with toks:=s.toks+1 }) :
  wpAny (model prog w) A (getAttr (.ref x) name expr) Q E s:=by
 obtain⟨od,J,hl⟩:=I.look;exact PySem.W.get_value X J (PySem.W.plainGet_of hg).1 (PySem.W.findObj_own hh ha rfl (by rw[hl,hv])) hv' h
theorem zQ {ns:List Str} {Q:Unit->Shared->Prop} (X:K.In s.heap) (I:ObjM s.heap x dx C mA)
  (hs:findIn K (.ref C) "__setattr__"=some (some (.builtin "object.__setattr__"))) (hp:PySem.W.plainOver K C=true) (ht:PySem.W.takerIn K C name=some none) (hh:hasDictIn K C=true)
  (hw:PySem.Within mA ns) (hsz:ns.length<=sizeLine)
  (h:∀h',ObjM h' x dx C (λy=>if y=name then some v else mA y)->Heap.SameBut dx s.heap h'->Q () { s with heap:=h',toks:=s.toks+2 }) :
  wpAny (model prog w) A (setAttr (.ref x) name v) Q E s:=by
 obtain⟨od,J,hl⟩:=I.look;refine PySem.W.set_plain X J hs (PySem.W.osa_open (s:={ s with toks:=s.toks+1 }) (r:=none) X J hp ht λb=>?_);obtain⟨cd,hc,hd'⟩:=PySem.W.any_some hh;have hx:s.heap.get? x=some ⟨.ref C,some dx,.plain,#[]⟩:=I.obj;refine wpAny_bind (wpAny_pure (wpAny_bind (wpAny_bind (wpAny_loadPart hx (wpAny_bind (PySem.W.Looks.here (s:={ s with toks:=s.toks+1 }) (PySem.W.looks_clsIn X hc) ?_))))));rw[hd'];refine wpAny_pure (a:=some dx) (wpAny_bind (wpAny_pure (wpAny_bind ?_)));refine wpAny_nsSet1 (s:={ s with toks:=s.toks+1 }) I.ns λh' hn2 hs2=>?_;obtain⟨oD,esD,epD,hoD,hdD,hcD⟩:=hn2.count (PySem.Within.cons name v hw);refine wpAny_bind (wpAny_lookBehind hoD (by rw[hdD];exact pastItsLine_dict (ϣ hcD (by rw[ϫ];omega))) ?_);exact wpAny_pure (h _ ⟨(hs2.2 _ (Ν I.ne)).trans I.obj,hn2,I.ne⟩ hs2)
theorem yc {R:Result->Shared->Prop} {vs:List Value} {kw:List (Str×Value)} (X:K.In s.heap) (hm:PySem.W.makesIn K C=true)
  (hi:findIn K (.ref C) "__init__"=some (some (.ref f))) (hf:PySem.W.typeIn K (.ref f)=some (.type "function"))
  (h:codeAny (model prog w) (A.under (.builtin "type.__call__" ⟨.ref C::vs,kw⟩)) (.call (.ref f) ⟨.ref (s.heap.objs.size+1)::vs,kw⟩) (PySem.W.InitBack (s.heap.objs.size+1) R)
   {s with heap:=(s.heap.push emptyDict).push (instObj C s.heap.objs.size) }) :
  codeAny (model prog w) A (.call (.ref C) ⟨vs,kw⟩) R s:=by
 obtain⟨hh,g,d,t,os⟩:=s;exact PySem.W.make_core (PySem.W.makes_of X hm) (PySem.W.looks_findIn X hi) (λself=>PySem.W.bind_fn X self hf) (.inl rfl) h
end
def fP (f:Str) (v:V):List (Str×V)->List (Str×V)
 | []=>[(f,v)]
 | (g,x)::r=>if g=f then(g,v)::r else(g,x)::fP f v r
theorem j_ (f g:Str) (v:V):∀fs:List (Str×V),(fP f v fs).lookup g=if g=f then some v else fs.lookup g
 | []=>by
  show List.lookup g [(f,v)]=_;by_cases h:g=f
  ·have hb:(g==f)=true:=beq_iff_eq.mpr h;simp only[List.lookup,hb,if_pos h]
  ·have hb:(g==f)=false:=beq_eq_false_iff_ne.mpr h;simp only[List.lookup,hb,if_neg h]
 | (k,x)::r=>by
  have ih:=j_ f g v r;rw[show fP f v ((k,x)::r)=(if k=f then(k,v)::r else(k,x)::fP f v r)from rfl];by_cases hk:k=f
  ·rw[if_pos hk];by_cases h:g=k
   ·have hb:(g==k)=true:=beq_iff_eq.mpr h;simp only[List.lookup,hb,if_pos (h.trans hk)]
   ·have hb:(g==k)=false:=beq_eq_false_iff_ne.mpr h;simp only[List.lookup,hb,if_neg (λe:g=f=>h (e.trans hk.symm))]
  ·rw[if_neg hk];by_cases h:g=k
   ·have hb:(g==k)=true:=beq_iff_eq.mpr h;simp only[List.lookup,hb,if_neg (λe:g=f=>hk (h.symm.trans e))]
   ·have hb:(g==k)=false:=beq_eq_false_iff_ne.mpr h;simp only[List.lookup,hb];exact ih
theorem jL (f:Str) (v:V):∀fs:List (Str×V),f∈(fP f v fs).map (·.1)/\∀g,g∈fs.map (·.1)->g∈(fP f v fs).map (·.1)
 | []=>⟨by simp[fP],λg h=>by simp at h⟩
 | (k,x)::r=>by
  obtain⟨i1,i2⟩:=jL f v r;rw[show fP f v ((k,x)::r)=(if k=f then(k,v)::r else(k,x)::fP f v r)from rfl];by_cases hk:k=f
  ·rw[if_pos hk];subst hk;exact⟨by simp,λg h=>by simpa using h⟩
  ·rw[if_neg hk];refine⟨?_,λg h=>?_⟩
   ·rw[Ϯ];exact ϑ _ i1
   ·rw[Ϯ]at h ⊢;rcases Ϣ.mp h with e|e
    ·exact Ϣ.mpr (.inl e)
    ·exact ϑ _ (i2 g e)
theorem ke (f:Str) (v:V):∀fs:List (Str×V),(fP f v fs).length<=fs.length+1
 | []=>by simp[fP]
 | (k,x)::r=>by
  have ih:=ke f v r;rw[show fP f v ((k,x)::r)=(if k=f then(k,v)::r else(k,x)::fP f v r)from rfl];by_cases hk:k=f
  ·rw[if_pos hk,ϫ,ϫ];omega
  ·rw[if_neg hk,ϫ,ϫ];omega
theorem RelO.some_of {v:V} {o:Option Value} (r:RelO (some v) o):∃u,o=some u/\RelV v u:=by
 cases o with
 | none=>exact(show False from r).elim
 | some u=>exact⟨u,rfl,r⟩
variable {u:Value}
theorem v7 {v:V} (r:RelV v u):PySem.W.handedIn u=true:=by
 cases v with
 | non=>cases(show u=Value.none from r);rfl
 | bl b=>cases(show u=Value.bool b from r);rfl
 | int i=>obtain⟨t,e⟩:=(show ∃t,u=Value.int i t from r);cases e;rfl
 | str x=>obtain⟨t,e⟩:=(show ∃t,u=Value.str x t from r);cases e;rfl
 | byt b=>obtain⟨t,e⟩:=(show ∃t,u=Value.bytes b t from r);cases e;rfl
 | flt b=>obtain⟨t,e⟩:=(show ∃t,u=Value.float b t from r);cases e;rfl
 | ref a=>cases(show u=Value.ref a from r);rfl
 | ty n=>cases(show u=Value.type n from r);rfl
section
variable {P:Program} {w:World} {H H':Hp} {h h':Heap} {a C dx:Addr} {fs fs':List (Str×V)}
theorem o4 (hok:HOk P w H h) (e:H a=some (.ins C dx fs)):∃mA,ObjM h a dx C mA/\(∀f,RelO (fs.lookup f) (mA f))/\PySem.Within mA (fs.map (·.1))/\fs.length<=1000/\H dx=some (.own a):=by
 obtain⟨d,z,ne,ob,mA,n,r,q⟩:=(show ObjOk P w H h a (.ins C dx fs)from hok a _ e);exact⟨mA,⟨ob,n,ne⟩,r,q,z,d⟩
end
structure Cls (K:Frag) (C:Addr):Prop where
 pg:plainGet K C Str.empty=true
 hd:hasDictIn K C=true
 po:PySem.W.plainOver K C=true
 sa:findIn K (.ref C) "__setattr__"=some (some (.builtin "object.__setattr__"))
theorem Cls.get {K:Frag} (c:Cls K C) (f:Str):plainGet K C f=true:=c.pg
def NoAttr (K:Frag) (C:Addr) (f:Str):Prop:=findIn K (.ref C) f=some none
theorem NoAttr.taker {K:Frag} {f:Str} (n:NoAttr K C f):PySem.W.takerIn K C f=some none:=by
 unfold PySem.W.takerIn;rw[show findIn K (.ref C) f=some none from n];rfl
section
variable {X:Cx} {pins:List (Addr×Obj)} {O:St} {H:Hp} {s:Shared} {a C dx:Addr} {fs:List (Str×V)} {f:Str} {v:V} {A:Around} {E:Value->Shared->Prop}
theorem sY {b:Bool} (I:Inv X pins O H s) (e:H a=some (.ins C dx fs)) (c:Cls X.K C) (n:NoAttr X.K C f) (l:fs.lookup f=some v)
  (h:∀u s',Inv X pins O H s'->RelV v u->Q u s'):wpAny (model X.prog X.w) A (getAttr (.ref a) f b) Q E s:=by
 obtain⟨mA,HY,r,_,_,_⟩:=o4 I.hok e;obtain⟨u,hu,ru⟩:=RelO.some_of (v:=v) (o:=mA f) (by rw[<- l];exact r f);exact A7 I.kIn HY (c.get f) c.hd n hu (v7 ru) (h u _ (I.tok _) ru)
theorem sk {y:V} {Q:Unit->Shared->Prop} (I:Inv X pins O H s) (e:H a=some (.ins C dx fs)) (c:Cls X.K C) (n:NoAttr X.K C f) (hl:fs.length<1000) (ry:RelV y u)
  (h:∀s',Inv X pins O (upd H a (.ins C dx (fP f y fs))) s'->Q () s'):wpAny (model X.prog X.w) A (setAttr (.ref a) f u) Q E s:=by
 obtain⟨mA,HY,r,wi,_,ho⟩:=o4 I.hok e;have hz:(fs.map (·.1)).length<=sizeLine:=by rw[ϋ,sizeLine_eq];omega
 refine zQ I.kIn HY c.sa c.po n.taker c.hd wi hz λh' O' sb=>h _ ?_;have hd:∃o,h'.get? dx=some o:=let ⟨o,_,_,e',_⟩:=O'.ns;⟨o,e'⟩;refine I.write (x:=a) (e:=dx) (by rw[e];exact True.intro) (.inr ho) (λb q hb z=>(sb.2 b hb).trans z) hd ?_;refine⟨by rw[am HY.ne];exact ho,?_,HY.ne,O'.obj,_,O'.ns,λg=>?_,λg hg=>?_⟩
 ·have:=ke f y fs;omega
 ·show RelO ((fP f y fs).lookup g) (if g=f then some u else mA g);rw[j_];by_cases q:g=f
  ·rw[if_pos q,if_pos q];exact ry
  ·rw[if_neg q,if_neg q];exact r g
 ·by_cases q:g=f
  ·rw[q];exact(jL f y fs).1
  ·refine(jL f y fs).2 g (wi g λz=>hg ?_);show(if g=f then some u else mA g)=none;rw[if_neg q];exact z
theorem Inv.made (I:Inv X pins O H s):Inv X pins O (upd (upd H s.heap.objs.size (.own (s.heap.objs.size+1))) (s.heap.objs.size+1) (.ins C s.heap.objs.size []))
  {s with heap:=(s.heap.push emptyDict).push (instObj C s.heap.objs.size) }:=by
 have e1:(s.heap.push emptyDict).get? s.heap.objs.size=some emptyDict:=ϧ s.heap rfl;have e2:((s.heap.push emptyDict).push (instObj C s.heap.objs.size)).get? (s.heap.objs.size+1)=some (instObj C s.heap.objs.size):=by
  have:=ϧ (s.heap.push emptyDict) (o:=instObj C s.heap.objs.size) rfl;rwa[χ]at this
 have e3:(s.heap.push emptyDict).Ns s.heap.objs.size (λ_=>none):=⟨emptyDict,#[],_,e1,rfl,(λe he=>absurd he (by simp)),λ_=>rfl⟩;have I1:=I.laid (a:=s.heap.objs.size) (o:=.own (s.heap.objs.size+1)) (h':=s.heap.push emptyDict) (t':=s.toks) (λb u q=>ϒ _ q) (ϗ _) ⟨_,e1⟩;refine I1.laid (a:=s.heap.objs.size+1) (o:=.ins C s.heap.objs.size []) (t':=s.toks) (λb u q=>ϒ _ q) (Nat.le_of_eq (χ _ _)) ?_;have ne:s.heap.objs.size≠s.heap.objs.size+1:=ϭ (Nat.lt_succ_self _);refine⟨by rw[am ne,ax],Ρ _,ne,e2,λ_=>none,(Heap.Ns1.of_empty e3).at λo q=>ϒ _ q,λ_=>True.intro,λy hy=>absurd rfl hy⟩
theorem BQ {prog:Program} {w:World} {env:Env} {e:Expr} {f:Str} {pos:Pos} {s:Shared} (hb:attributeBase e f env (eval e env)=eval e env)
  (h:wpAny (model prog w) A (eval e env) (λo s₁=>wpAny (model prog w) A (getAttr o f true) Q E s₁) E s):wpAny (model prog w) A (eval (.Attribute e f pos) env) Q E s :=
 Attribute_any_ h (by rw[arm_eval_Attribute,hb])
end
def He (K:Frag) (ta:TE) (f:Str):TE:=λO H Q=>ta O H λx H1=>∃a C dx fs v,x=.ref a/\H1 a=some (.ins C dx fs)/\Cls K C/\NoAttr K C f/\fs.lookup f=some v/\Q v H1
def oz (K:Frag) (ta tv:TE) (f:Str):TS:=λD O H=>tv O H λy H1=>ta O H1 λx H2=>∃a C dx fs,x=.ref a/\H2 a=some (.ins C dx fs)/\Cls K C/\NoAttr K C f/\fs.length<1000 /\
 D.nx O (upd H2 a (.ins C dx (fP f y fs)))
section
variable {X:Cx} {o e value:Expr} {f:Str} {pos pos' tpos:Pos} {ta tv:TE}
theorem DH (he:PE X e ta) (hb:attributeBase e f X.env (eval e X.env)=eval e X.env):PE X (.Attribute e f pos) (He X.K ta f):=by
 intro pins s O H Q I h;refine BQ hb (thn (he pins s O H _ I h) λu s1 ⟨x,H1,I1,rx,a,C,dx,fs,v,ex,ea,c,n,l,q⟩=>?_);subst ex;obtain rfl:u=Value.ref a:=rx;exact sY I1 ea c n l λu' s2 I2 ru=>⟨v,H1,I2,ru,q⟩
theorem Dx (ha:PE X o ta) (hv:PE X value tv) (hs:swapsWith value (some (.Attribute o f pos')) pos.line X.env=pure false):PS X (.Assign [.Attribute o f pos'] value pos) (oz X.K ta tv f):=by
 intro pins s O H D I h;refine plainObj_wpAny_Assign_Attribute (thn (hv pins s O H _ I h) λu s1 ⟨y,H1,I1,ry,q⟩=>thn (ha pins s1 O H1 _ I1 q) λov s2 ⟨x,H2,I2,rx,a,C,dx,fs,ex,ea,c,n,l,q2⟩=>?_) hs;subst ex;obtain rfl:ov=Value.ref a:=rx;exact sk I2 ea c n l ry λs3 I3=>⟨O,_,I3,q2⟩
end
section
variable {X:Cx} {pins:List (Addr×Obj)} {O:St} {H:Hp} {s:Shared} {A:Around} {E:Value->Shared->Prop} {Q:Value->Shared->Prop} {c:Value} {b:Bool}
inductive jY (K:Frag) (H:Hp):V->Value->Prop where
 | non:jY K H .non (.type "NoneType")
 | bl (x:Bool):jY K H (.bl x) (.type "bool")
 | int (i:Int):jY K H (.int i) (.type "int")
 | str (x:Str):jY K H (.str x) (.type "str")
 | flt (x:UInt64):jY K H (.flt x) (.type "float")
 | lst {a:Addr} {xs:List V} (e:H a=some (.lst xs)):jY K H (.ref a) (.type "list")
 | frz {a:Addr} {o:Obj} {xs:List V} (e:H a=some (.frz o (.lst xs))):jY K H (.ref a) (.type "list")
 | tup {a:Addr} {xs:List V} (e:H a=some (.tup xs)):jY K H (.ref a) (.type "tuple")
 | dK {a:Addr} {kvs:List (Key×V)} (e:H a=some (.dK kvs)):jY K H (.ref a) (.type "dict")
 | dT {a:Addr} {kvs:List (List Key×V)} (e:H a=some (.dT kvs)):jY K H (.ref a) (.type "dict")
 | ins {a C dx:Addr} {fs:List (Str×V)} (e:H a=some (.ins C dx fs)) (cl:Cls K C) (ha:findIn K (.ref C) "__class__"=some (some (.builtin "object.__class__")))
   (hn:specialIn K (.builtin "object.__class__") "__get__"=some (some (.builtin "getset_descriptor.__get__"))) (htk:takesIn K (.builtin "object.__class__")=some true)
   (hm:mroIn K C (.type "object")=some true):jY K H (.ref a) (.ref C)
theorem vX {x:V} {t:Value} (I:Inv X pins O H s) (rx:RelV x u) (ty:jY X.K H x t) (e:kitOne X.K t c=some b) (h:∀tk,Q (.bool b) { s with toks:=tk }) :
  wpAny (model X.prog X.w) A (call (.builtin "isinstance") [u,c]) Q E s:=by
 cases ty with
 | non=>cases(show u=Value.none from rx);exact kia_one PySem.W.kitx_none I.kIn True.intro e (λz=>nomatch z) h
 | bl y=>cases(show u=Value.bool y from rx);exact kia_one PySem.W.kitx_bool I.kIn True.intro e (λz=>nomatch z) h
 | int i=>obtain⟨t,q⟩:=(show ∃t,u=Value.int i t from rx);cases q;exact kia_one PySem.W.kitx_int I.kIn True.intro e (λz=>nomatch z) h
 | str y=>obtain⟨t,q⟩:=(show ∃t,u=Value.str y t from rx);cases q;exact kia_one PySem.W.kitx_str I.kIn True.intro e (λz=>nomatch z) h
 | flt y=>obtain⟨t,q⟩:=(show ∃t,u=Value.float y t from rx);cases q;exact kia_one PySem.W.kitx_float I.kIn True.intro e (λz=>nomatch z) h
 | @lst a xs ea =>
  cases(show u=Value.ref a from rx);obtain⟨_,_,n,_,h1⟩:=(show ObjOk X.prog X.w H s.heap a (.lst xs)from I.hok a _ ea);exact kia_one PySem.W.kitx_list I.kIn ⟨_,h1,rfl⟩ e (λz=>nomatch z) h
 | @frz a ob xs ea =>
  cases(show u=Value.ref a from rx);obtain⟨_,_,_,n,_,h1⟩:=(show ObjOk X.prog X.w H s.heap a (.frz ob (.lst xs))from I.hok a _ ea);exact kia_one PySem.W.kitx_list I.kIn ⟨_,h1,rfl⟩ e (λz=>nomatch z) h
 | @tup a xs ea =>
  cases(show u=Value.ref a from rx);obtain⟨_,_,_,p⟩:=(show ObjOk X.prog X.w H s.heap a (.tup xs)from I.hok a _ ea);obtain⟨o,h1,h2,_⟩:=p;exact kia_one PySem.W.kitx_tuple I.kIn ⟨o,h1,h2⟩ e (λz=>nomatch z) h
 | @dK a kvs ea =>
  cases(show u=Value.ref a from rx);obtain⟨_,_,vs,_,p⟩:=(show ObjOk X.prog X.w H s.heap a (.dK kvs)from I.hok a _ ea);obtain⟨o,es,ep,h1,h2,_⟩:=p;exact kia_one PySem.W.kitx_dict I.kIn ⟨o,h1,h2.1⟩ e (λz=>nomatch z) h
 | @dT a kvs ea =>
  cases(show u=Value.ref a from rx);obtain⟨_,_,xs,_,o,es,ep,h1,h2,_⟩:=(show ObjOk X.prog X.w H s.heap a (.dT kvs)from I.hok a _ ea);exact kia_one PySem.W.kitx_dict I.kIn ⟨o,h1,h2.1⟩ e (λz=>nomatch z) h
 | @ins a C dx fs ea cl ha hn htk hm =>
  cases(show u=Value.ref a from rx);obtain⟨mA,HY,_⟩:=o4 I.hok ea;obtain⟨od,J,_⟩:=HY.look;exact kia_one (PySem.W.kitx_own (cl.get _) cl.hd ha hn htk hm) I.kIn J e (λz=>nomatch z) h
end
end L2
namespace L2
open PySem PySem.Spec PyProof.Rows
structure Room (k:Nat) (A:Around):Prop where
 hd:A.handled=none
 dp:A.depth+3*k+5<recursionLimit
 un:A.units+16*k+200<cLine
variable {k:Nat} {A:Around}
theorem Room.mono {j:Nat} (r:Room k A) (h:j<=k):Room j A:=⟨r.hd,by have:=r.dp;omega,by have:=r.un;omega⟩
theorem Room.deeper (r:Room (k+1) A) (env:Env):Room k (A.deeper env) :=
 ⟨r.hd,by have:=r.dp;show A.depth+1+3*k+5<_;omega,by have:=r.un;show A.units+3+16*k+200<_;omega⟩
variable {us:List Value}
theorem sP {C:Addr} {kw:List (Str×Value)}:(A.under (.builtin "type.__call__" ⟨.ref C::us,kw⟩)).depth=A.depth+1:=by
 first|rfl|simp[Around.under,Code.weight,Code.isCreation,Code.isGuard,Code.isCaller,Code.frames,Code.isFrame,guardIds]
theorem sO {C:Addr} {kw:List (Str×Value)}:(A.under (.builtin "type.__call__" ⟨.ref C::us,kw⟩)).units=A.units+1:=by
 first|rfl|simp[Around.under,Code.cUnits,Code.frames,Code.isFrame]
theorem Room.make (r:Room (k+1) A) (C:Addr) (us:List Value) (kw:List (Str×Value)):Room k (A.under (.builtin "type.__call__" ⟨.ref C::us,kw⟩)) :=
 ⟨r.hd,by have:=r.dp;rw[sP];omega,by have:=r.un;rw[sO];omega⟩
theorem Room.depth (r:Room k A):A.depth<recursionLimit:=by have:=r.dp;omega
def G8:TA:=λ_ H Q=>Q [] H
def FC (ta:TE) (tr:TA):TA:=λO H Q=>ta O H λx H1=>tr O H1 λxs H2=>Q (x::xs) H2
section
variable {X:Cx} {e:Expr} {es:List Expr} {te:TE} {t:TA} {pos:Pos}
theorem bH:PA X [] G8:=λ_ _ _ _ H Q I h=>Calls.spliced_nil ⟨[],H,I,.nil,h⟩
theorem aQ (ha:PE X e te) (hr:PA X es t) (hs:starEach (e::es) X.env=(false,eval e X.env)::starEach es X.env:=by rfl):PA X (e::es) (FC te t):=by
 intro pos pins s O H Q I h;rw[hs];show wpAny _ _ (spliced ((false,eval e X.env)::backTo pos (starEach es X.env))) _ _ s;refine Calls.spliced_cons (thn (ha pins s O H _ I h) λu s1 ⟨x,H1,I1,r1,q1⟩=>?_);exact thn (hr pos pins s1 O H1 _ I1 q1) λus s2 ⟨xs,H2,I2,r2,q2⟩=>⟨x::xs,H2,I2,.cons r1 r2,q2⟩
def G3 (t:TA):TE:=λO H Q=>t O H λxs H1=>xs.length<=sizeLine/\∀p,H1 p=none->Q (.ref p) (upd H1 p (.tup xs))
def G9 (t:TA):TE:=λO H Q=>t O H λxs H1=>xs.length<=sizeLine/\∀p,H1 p=none->Q (.ref p) (upd H1 p (.lst xs))
theorem xI {x1} (h:PA X es t):PE X (.Tuple es x1 pos) (G3 t):=by
 intro pins s O H Q I hq;refine wpAny_Tuple_spliced (thn (h pos pins s O H _ I hq) λus s1 ⟨xs,H1,I1,r,z,q⟩=>⟨by rw[<- r.length];exact z,?_⟩);have hf:H1 s1.heap.objs.size=none:=I1.hok.fresh (ϗ _);refine⟨.ref s1.heap.objs.size,upd H1 s1.heap.objs.size (.tup xs),I1.laid (t':=s1.toks) (λb u e=>ϒ _ e) (ϗ _) ?_,rfl,q _ hf⟩;exact⟨z,us,r,⟨_,ϧ _ rfl,rfl,_,rfl⟩⟩
theorem xK (h:PA X es t):PE X (.List es pos) (G9 t):=by
 intro pins s O H Q I hq;refine wpAny_List_spliced (thn (h pos pins s O H _ I hq) λus s1 ⟨xs,H1,I1,r,z,q⟩=>⟨by rw[<- r.length];exact z,?_⟩);have hf:H1 s1.heap.objs.size=none:=I1.hok.fresh (ϗ _);refine⟨.ref s1.heap.objs.size,upd H1 s1.heap.objs.size (.lst xs),I1.laid (t':=s1.toks) (λb u e=>ϒ _ e) (ϗ _) ?_,rfl,q _ hf⟩;exact⟨z,us,0,r,ϧ _ rfl⟩
end
abbrev Sp:=List V->Hp->VK->XK->Prop
abbrev CXT:=List Env->Hp->Shared->XK->Value->Shared->Prop
structure Env0 (P:Program) (w:World) (K:Frag) (mg:Str->Option Value) (base:Heap) (A:Around) (outer:List Env) (s:Shared) (H:Hp):Prop where
 frames:A.frames=some outer
 mod:Mod K mg base
 bs:∀b o,base.get? b=some o->s.heap.get? b=some o/\H b=none
 bsz:base.objs.size<=s.heap.objs.size
 funs:s.heap.FunFrames base outer
 frf:∀b∈frs outer,H b=none
 hok:HOk P w H s.heap
 bare:AllBare s.gens
def CE (outer:List Env) (P:Program) (w:World) (H:Hp) (s:Shared) (Q:VK) (u:Value) (s':Shared):Prop :=
 ∃v H',s'.os=s.os/\AllBare s'.gens/\Un (frs outer) [] H H' s.heap s'.heap/\HOk P w H' s'.heap/\RelV v u/\Q v H'
def CR (CX:CXT) (outer:List Env) (P:Program) (w:World) (H:Hp) (s:Shared) (Q:VK) (E:XK) (r:Result) (s':Shared):Prop :=
 match r with
 | .ok (.ret u)=>CE outer P w H s Q u s'
 | .ok _=>False
 | .error e=>CX outer H s E e s'
structure FnOk (P:Program) (w:World) (K:Frag) (mg:Str->Option Value) (base:Heap) (CX:CXT) (k:Nat) (f:Addr) (fd:FuncData) (ps:List Str) (sp:Sp):Prop where
 len:∀vs H Q E,sp vs H Q E->vs.length=ps.length
 run:∀(A:Around) (outer:List Env) (s:Shared) (H:Hp) (args:Args) (us:List Value) (vs:List V) (Q:VK) (E:XK),Room k A->Env0 P w K mg base A outer s H->BindsTo s fd args (ps.zip us)->Vals vs us->sp vs H Q E ->
  codeAny (model P w) A (.call (.ref f) args) (CR CX outer P w H s Q E) s
variable {P:Program} {w:World} {K:Frag} {mg:Str->Option Value} {CX:CXT} {f:Addr} {ps:List Str}
theorem FnOk.imp {base:Heap} {fd:FuncData} {sp sp':Sp} (F:FnOk P w K mg base CX k f fd ps sp)
  (h:∀vs H Q E,sp' vs H Q E->sp vs H Q E):FnOk P w K mg base CX k f fd ps sp' :=
 ⟨λvs H Q E q=>F.len vs H Q E (h _ _ _ _ q),λA outer s H args us vs Q E hr he hb hv hs=>F.run A outer s H args us vs Q E hr he hb hv (h _ _ _ _ hs)⟩
variable {s:Shared} {H:Hp}
theorem Env0.make {base:Heap} {outer:List Env} (e:Env0 P w K mg base A outer s H) (C:Addr) (us:List Value) (kw:List (Str×Value)) :
  Env0 P w K mg base (A.under (.builtin "type.__call__" ⟨.ref C::us,kw⟩)) outer s H:=⟨by first|exact e.frames|(simpa[Around.under,Code.envs,Code.isFrame,pushEnvs]using e.frames),e.mod,e.bs,e.bsz,e.funs,e.frf,e.hok,e.bare⟩
section
variable {X:Cx} {pins:List (Addr×Obj)} {O:St} {H:Hp} {s s':Shared}
theorem Inv.env0 (I:Inv X pins O H s):Env0 X.prog X.w X.K X.mg X.base X.A X.stack s H :=
 ⟨I.ok.frames,I.ok.mod,I.bs,ϣ I.ok.bsz I.sz,I.stack,I.stkFree,I.hok,I.bare⟩
theorem Inv.after {Q:VK} {u:Value} (I:Inv X pins O H s) (h:CE X.stack X.prog X.w H s Q u s'):EP X pins O Q u s':=by
 obtain⟨v,H',os,bare,un,hok,r,q⟩:=h;obtain⟨hh,g,d,t,os'⟩:=s';obtain rfl:os'=s.os:=os;exact⟨v,H',I.call (h':=hh) (g':=g) (d':=d) (t':=t) (ch:=[]) un hok bare (λb z=>absurd z (by simp)),r,q⟩
end
def Binds (K:Frag) (fd:FuncData) (ps:List Str) (ds:List Value):Prop :=
 ∀(s:Shared) (us:List Value),K.In s.heap->(us++ds).length=ps.length->BindsTo s fd ⟨us,[]⟩ (ps.zip (us++ds))
theorem Binds.all {fd:FuncData} (h:∀us:List Value,us.length=ps.length->bindArgs fd ⟨us,[]⟩=pure (ps.zip us)):Binds K fd ps []:=λs us _ hl=>by
 rw[Ϫ]at hl ⊢;exact .of_eq (h us hl)
def pX (CX:CXT) (X:Cx) (E:XK):Prop:=∀(pins:List (Addr×Obj)) (O:St) (H:Hp) (s:Shared) (e:Value) (s':Shared),Inv X pins O H s->CX X.stack H s E e s'->X.xe e s'
variable {vs:List V}
section
variable {X:Cx} {CX:CXT} {k:Nat} {f C:Addr} {fd:FuncData} {ps:List Str} {sp:Sp} {dvs:List V} {ds:List Value} {E:XK} {x m:Str} {p pos apos:Pos} {e o:Expr} {es:List Expr} {ta:TE} {t:TA}
theorem lx {pins:List (Addr×Obj)} {O:St} {Q:VK} (F:FnOk X.prog X.w X.K X.mg X.base CX k f fd ps sp) (hr:Room k X.A) (hb:Binds X.K fd ps ds) (hd:Vals dvs ds) (hx:pX CX X E)
  (I:Inv X pins O H s) (r:Vals vs us) (h:sp (vs++dvs) H Q E):wpAny (model X.prog X.w) X.A (call (.ref f) us) (EP X pins O Q) X.xe s:=by
 have r2:Vals (vs++dvs) (us++ds):=r.append hd;have hl:(us++ds).length=ps.length:=by rw[<- r2.length];exact F.len _ _ _ _ h
 refine wpAny_call (codeAny_mono (F.run X.A X.stack s H ⟨us,[]⟩ (us++ds) (vs++dvs) Q E hr I.env0 (hb s us I.kIn hl) r2 h) λr s' hq=>?_);cases r with
 | error e=>exact hx pins O H s e s' I hq
 | ok fl =>
  cases fl with
  | ret u=>exact I.after hq
  | next=>exact False.elim hq
  | brk=>exact False.elim hq
  | cont=>exact False.elim hq
structure Mk (K:Frag) (C f:Addr):Prop where
 makes:PySem.W.makesIn K C=true
 init:findIn K (.ref C) "__init__"=some (some (.ref f))
 fn:PySem.W.isFn K (.ref f)=true
 kp:keepIn K (.ref C)=true
theorem w_ {pins:List (Addr×Obj)} {O:St} {Q:VK} (M:Mk X.K C f) (F:FnOk X.prog X.w X.K X.mg X.base CX k f fd ps sp) (hr:Room (k+1) X.A) (hb:Binds X.K fd ps ds) (hd:Vals dvs ds)
  (hx:pX CX X E) (I:Inv X pins O H s) (r:Vals vs us)
  (h:∀x dx,H x=none->H dx=none->dx≠x->sp (.ref x::(vs++dvs)) (upd (upd H dx (.own x)) x (.ins C dx [])) (λv H2=>v=.non/\Q (.ref x) H2) E) :
  wpAny (model X.prog X.w) X.A (call (.ref C) us) (EP X pins O Q) X.xe s:=by
 have hq:=h (s.heap.objs.size+1) s.heap.objs.size (I.hok.fresh (Nat.le_succ _)) (I.hok.fresh (ϗ _)) (ϭ (Nat.lt_succ_self _));have I2:=Inv.made (C:=C) I;have r2:Vals (V.ref (s.heap.objs.size+1)::(vs++dvs)) (Value.ref (s.heap.objs.size+1)::(us++ds)):=.cons rfl (r.append hd);have hl:(Value.ref (s.heap.objs.size+1)::us++ds).length=ps.length:=by
  have e:=r2.length;rw[F.len _ _ _ _ hq]at e;exact e.symm
 refine wpAny_call (yc (f:=f) I.kIn M.makes M.init (beq_iff_eq.mp M.fn) (codeAny_mono (F.run _ X.stack _ _ ⟨Value.ref (s.heap.objs.size+1)::us,[]⟩ (Value.ref (s.heap.objs.size+1)::(us++ds)) _ _ E (hr.make C us [])
  (I2.env0.make C us []) (hb _ (Value.ref (s.heap.objs.size+1)::us) I2.kIn hl) r2 hq) λr s' hq'=>?_))
 cases r with
 | error e=>exact hx pins O _ _ e s' I2 hq'
 | ok fl =>
  cases fl with
  | ret u =>
   obtain⟨v,H',I3,rv,ev,q3⟩:=I2.after hq';subst ev;exact⟨rv,⟨V.ref (s.heap.objs.size+1),H',I3,rfl,q3⟩⟩
  | next=>exact False.elim hq'
  | brk=>exact False.elim hq'
  | cont=>exact False.elim hq'
end
section
variable {X:Cx} {CX:CXT} {k:Nat} {f C:Addr} {fd:FuncData} {ps ks:List Str} {sp:Sp} {E:XK} {x m:Str} {p pos apos kpos:Pos} {e o:Expr} {es:List Expr} {kws:List Keyword} {te ta:TE} {t tk:TA} {nm:Option Str}
variable {g:List Value->List Value->List Value} {gV:List V->List V->List V}
end
structure cA (N P:List Str) (sc:Scope):Prop where
 kind:sc.kind=.function
 co:sc.isCoroutine=false
 gen:sc.isGenerator=false
 nd:N.Nodup
 pre:N.take P.length=P
 par:∀x∈P,sc.names.lookup x=some .local\/sc.names.lookup x=some .cell
 nofree:∀y∈sc.names,y.2 ≠ .free
theorem nW {kindOf:Str->Option NameKind} {x:Str}:∀{binds:List (Str×Value)} {m:Str->Option Value},(∀v,(x,v)∉binds)->bindL kindOf binds m x=m x
 | [],_,_=>rfl
 | (n,v)::r,m,h=>by
  unfold bindL;rw[nW λw hw=>h w (ϑ _ hw)];split
  ·have:x≠n:=by rintro rfl;exact h v ϛ
   simp[this]
  ·rfl
theorem nY {kindOf:Str->Option NameKind} {x:Str}:∀{binds:List (Str×Value)} {m:Str->Option Value},(∀v,(x,v)∉binds)->bindC kindOf binds m x=m x
 | [],_,_=>rfl
 | (n,v)::r,m,h=>by
  unfold bindC;rw[nY λw hw=>h w (ϑ _ hw)];split
  ·rfl
  ·have:x≠n:=by rintro rfl;exact h v ϛ
   simp[this]
theorem nX {kindOf:Str->Option NameKind} {x:Str} {v:Value}:∀{P:List Str} {vs:List Value} {i:Nat} {m:Str->Option Value},P.Nodup->P[i]?=some x->vs[i]?=some v->kindOf x=some .local ->
  bindL kindOf (P.zip vs) m x=some v
 | [],_,_,_,_,h,_,_=>by simp at h
 | _::_,[],_,_,_,_,h,_=>by simp at h
 | p::P,w::vs,0,m,nd,h1,h2,hk=>by
  simp at h1 h2;subst h1;subst h2;show bindL kindOf ((p,w)::P.zip vs) m p=_;unfold bindL;rw[nW λv hv=>(ξ.mp nd).1 (List.of_mem_zip hv).1,if_pos hk];simp
 | p::P,w::vs,i+1,m,nd,h1,h2,hk=>by
  show bindL kindOf ((p,w)::P.zip vs) m x=_;unfold bindL;exact nX (i:=i) (ξ.mp nd).2 (by simpa using h1) (by simpa using h2) hk
theorem nZ {kindOf:Str->Option NameKind} {x:Str} {v:Value}:∀{P:List Str} {vs:List Value} {i:Nat} {m:Str->Option Value},P.Nodup->P[i]?=some x->vs[i]?=some v->kindOf x≠some .local ->
  bindC kindOf (P.zip vs) m x=some v
 | [],_,_,_,_,h,_,_=>by simp at h
 | _::_,[],_,_,_,_,h,_=>by simp at h
 | p::P,w::vs,0,m,nd,h1,h2,hk=>by
  simp at h1 h2;subst h1;subst h2;show bindC kindOf ((p,w)::P.zip vs) m p=_;unfold bindC;rw[nY λv hv=>(ξ.mp nd).1 (List.of_mem_zip hv).1,if_neg hk];simp
 | p::P,w::vs,i+1,m,nd,h1,h2,hk=>by
  show bindC kindOf ((p,w)::P.zip vs) m x=_;unfold bindC;exact nZ (i:=i) (ξ.mp nd).2 (by simpa using h1) (by simpa using h2) hk
def start (N:List Str) (vs:List V):St:=vs.map some++List.replicate (N.length-vs.length) none
def fh (CX:CXT) (P:Program) (w:World) (K:Frag) (mg:Str->Option Value) (base:Heap) (N:List Str) (qual:Str) (scope:Scope) (f:Addr) (cd:Value) (A:Around) (outer:List Env) (s:Shared) (H:Hp) (E:XK):Cx where
 prog:=P
 w:=w
 K:=K
 mg:=mg
 base:=base
 A:=A.deeper (envOfC qual scope s.heap.objs.size f cd)
 N:=N
 s₀:=s
 H₀:=H
 env:=envOfC qual scope s.heap.objs.size f cd
 outer:=outer
 stack:=envOfC qual scope s.heap.objs.size f cd::outer
 ex:=[]
 calm:=true
 fn:=λ_=>true
 pn:=[]
 xe:=λe s'=>wpAny (model P w) (A.deeper (envOfC qual scope s.heap.objs.size f cd)) (leaving (envOfC qual scope s.heap.objs.size f cd) e) (λ_ s''=>CX outer H s E e s'') (λe' s''=>CX outer H s E e' s'') s'
theorem rq {sc:Scope} {n:Nat} {x:Str} (h:sc.names.lookup x=some .cell):∃c,(cellsFrom n sc.names []).lookup x=some c:=by
 have q:=cellsFrom_some sc.names n [] (.inl h);exact Ε.mp q
theorem nG {base:Heap} {N:List Str} {qual:Str} {scope:Scope} {cd:Value} {outer:List Env} {s1:Shared} {E:XK}
  (S:cA N ps scope) (hd:A.handled=none) (e0:Env0 P w K mg base A outer s H) (hl:vs.length=ps.length) (r:Vals vs us)
  (x:InCallC s s.heap.objs.size (bindL (envOfC qual scope s.heap.objs.size f cd).kindOf (ps.zip us) λ_=>none) (cellsFrom (s.heap.objs.size+1) scope.names []) (bindC (envOfC qual scope s.heap.objs.size f cd).kindOf (ps.zip us) λ_=>none) s1) :
  Inv (fh CX P w K mg base N qual scope f cd A outer s H E) [] (start N vs) H s1:=by
 have hpl:ps.length<=N.length:=by have:=congrArg List.length S.pre;rw[Θ]at this;omega
 obtain⟨h1,tk,rfl,hk⟩:=x.done;have noA:∀b:Addr,b∉(fh CX P w K mg base N qual scope f cd A outer s H E).ex:=λb z=>absurd (show b∈([]:List Addr)from z) (by simp);refine⟨⟨e0.mod,S.kind,rfl,rfl,ϗ _,λy z c h1 h2=>?_,λy hy=>?_,λy c _ h=>?_,λ_=>hd,Around.frames_deeper e0.frames,.inr ⟨rfl,rfl⟩,λb z=>absurd z (noA b),e0.bs,e0.bsz,λb _ _=>noA b,λb z=>absurd z (noA b),e0.funs,e0.frf⟩,
  rfl,e0.bare,Un.kept hk,⟨_,x.toInCall.ns,λi y v h1 h2 h3=>?_⟩,λy c h=>⟨_,x.cell y c h⟩,e0.hok.fresh (ϗ _),λy c h=>?_,λp hp=>absurd (show p∈([]:List (Addr×Obj))from hp) (by simp),e0.hok.kept hk,?_⟩
 ·exact name_of_addr x.apart (Κ h1) (Κ h2)
 ·have hy:scope.names.lookup y=some .cell\/scope.names.lookup y=some .free:=hy;rcases hy with hy|hy
  ·exact rq hy
  ·exact absurd rfl (S.nofree _ (Κ hy))
 ·exact Nat.le_of_lt (x.above y c (Κ h))
 ·have hi:i<vs.length:=by
   unfold start at h2;by_cases hi:i<vs.length
   ·exact hi
   ·rw[Ϸ (by simpa using hi)]at h2;rw[Ι]at h2;split at h2<;>cases h2
  have ha:vs[i]?=some v:=by
   unfold start at h2;rw[ϡ (by simpa using hi),ϥ]at h2;cases e:vs[i]? with
   | none=>rw[e]at h2;cases h2
   | some a=>rw[e]at h2;cases h2;rfl
  obtain⟨u,hu,rv⟩:=r.get ha;have hp:ps[i]?=some y:=by
   rw[<- S.pre,List.getElem?_take_of_lt (by omega)];exact h1
  have ndP:ps.Nodup:=by rw[<- S.pre];exact S.nd.sublist (List.take_sublist _ _)
  refine⟨u,rv,?_⟩;rcases S.par y (Η hp)with k|k
  ·exact .inl ⟨k,nX ndP hp hu k⟩
  ·obtain⟨c,e⟩:=rq (n:=s.heap.objs.size+1) k;refine .inr ⟨.inl k,c,e,?_⟩;have q:=x.cell y c e;rw[nZ ndP hp hu (by show scope.names.lookup y≠_;rw[k];decide)]at q;exact q
 ·exact e0.hok.fresh (Nat.le_of_lt (x.above y c (Κ h)))
 ·unfold start;show _=N.length;rw[Ϝ,ϋ,ϻ];omega
theorem Ce {base:Heap} {name qual:Str} {params:Arguments} {body:List Stmt} {scope:Scope} {dV kV doc pm cdv ct oc:Value} {an od:Option Addr}
  {osl:Array (Option Value)} {N:List Str} {sp:Sp} (lk:K.lookup f=some ⟨oc,od,.func (fnOf name qual params body scope dV kV doc pm an cdv ct),osl⟩) (hcd:codeIn K cdv qual=true) (S:cA N ps scope)
  (len:∀vs H Q E,sp vs H Q E->vs.length=ps.length)
  (hbody:∀(A:Around) (outer:List Env) (s:Shared) (H:Hp) (vs:List V) (Q:VK) (E:XK),Room k (A.deeper (envOfC qual scope s.heap.objs.size f cdv))->sp vs H Q E ->
   ∃t,PSs (fh CX P w K mg base N qual scope f cdv A outer s H E) body t/\t { nx:=λ_ H'=>Q .non H',rt:=Q } (start N vs) H) :
  FnOk P w K mg base CX (k+1) f (fnOf name qual params body scope dV kV doc pm an cdv ct) ps sp:=by
 refine⟨len,λA outer s H args us vs Q E hr e0 hb r hsp=>?_⟩;have hl:=len _ _ _ _ hsp;have KX:K.In s.heap:=e0.mod.kin.keeps λb o e=>(e0.bs b o e).1;have lim:s.heap.NoLimit:=e0.mod.nolimit.keeps λb o e=>(e0.bs b o e).1;have hkind:∀y∈ps.zip us,scope.names.lookup y.1=some .local\/(scope.names.lookup y.1=some .cell/\((cellsFrom (s.heap.objs.size+1) scope.names []).lookup y.1).isSome=true):=λ⟨n,v⟩ hy=>by
  rcases S.par n (List.of_mem_zip hy).1 with q|q
  ·exact .inl q
  ·exact .inr ⟨q,cellsFrom_some _ _ _ (.inl q)⟩
 refine codeAny_call_function hr.depth (KX _ _ lk) rfl S.co S.gen rfl (PySem.W.codeRec_of KX hcd) (hb _ _ _ _ ?_);refine wpAny_newFunctionEnv_cells S.kind hkind λenv he s1 x=>?_;subst he;refine⟨lim.keeps x.toInCall.keep,codeAny_func ?_⟩;obtain⟨t,ht,hq⟩:=hbody A outer s H vs Q E (hr.deeper _) hsp;have I:Inv (fh CX P w K mg base N qual scope f cdv A outer s H E) [] (start N vs) H s1:=nG S hr.hd e0 hl r x;refine wpAny_mono (ht [] s1 (start N vs) H _ I hq) (λfl s' hs=>?_) λe s' hs=>hs;have fin:∀{σ':St} {H':Hp} {v:V} {u:Value},Inv (fh CX P w K mg base N qual scope f cdv A outer s H E) [] σ' H' s'->RelV v u->Q v H'->CE outer P w H s Q u s' :=
  λ{σ' H' v u} J rv q=>⟨v,H',J.os,J.bare,J.base,J.hok,rv,q⟩
 cases fl with
 | ret u =>
  obtain⟨v,σ',H',J,rv,q⟩:=hs;exact fin J rv q
 | next =>
  obtain⟨σ',H',J,q⟩:=hs;exact fin (v:=V.non) (u:=Value.none) J rfl q
 | brk =>
  obtain⟨_,_,_,q⟩:=hs;exact False.elim q
 | cont =>
  obtain⟨_,_,_,q⟩:=hs;exact False.elim q
end L2
namespace L2
open PySem PySem.Spec PyProof.Rows
section
variable {X:Cx} {x:Str} {p pos:Pos} {e:Expr} {es:List Expr} {t:TA} {id T:String} {r:List V->Hp->VK->Prop}
def tCB (r:List V->Hp->VK->Prop) (t:TA):TE:=λO H Q=>t O H λvs H1=>r vs H1 Q
theorem dW (hc:hV X (.builtin id) r) (hg:Gl X x) (hm:X.mg x=none) (hv:bootBuiltins x=some (.builtin id)) (ha:PA X (e::es) t) (hn:x ≠ "__name__":=by decide) (hdb:(x==("__debug__":Str))=false:=by decide)
  (he:starEach (e::es) X.env=(false,eval e X.env)::starEach es X.env:=by rfl) (hpl:(backTo pos (starEach es X.env)).any (·.1)=false:=by rfl):PE X (.Call (.Name x p) (e::es) [] pos) (tCB r t):=by
 intro pins s O H Q I h;refine wpAny_Call_Name_kw (gF I hg hm hv ?_ hn hdb);exact PyProof.Rows.callWith_builtin1 (thn (ha pos pins s O H _ I h) λus s1 ⟨vs,H1,I1,r1,q1⟩=>hc pins s1 O H1 vs us Q I1 r1 q1) he hpl
theorem df (hc:hV X (.type T) r) (hg:Gl X x) (hm:X.mg x=none) (hv:bootBuiltins x=some (.type T)) (ha:PA X (e::es) t) (hn:x ≠ "__name__":=by decide) (hdb:(x==("__debug__":Str))=false:=by decide)
  (he:starEach (e::es) X.env=(false,eval e X.env)::starEach es X.env:=by rfl) (hpl:(backTo pos (starEach es X.env)).any (·.1)=false:=by rfl):PE X (.Call (.Name x p) (e::es) [] pos) (tCB r t):=by
 intro pins s O H Q I h;refine wpAny_Call_Name_kw (gF I hg hm hv ?_ hn hdb);exact Ο (thn (ha pos pins s O H _ I h) λus s1 ⟨vs,H1,I1,r1,q1⟩=>hc pins s1 O H1 vs us Q I1 r1 q1) he hpl
end
end L2
namespace HT
open PySem PyProof.Rows
section
open PySem.SeqAt
open PySem.AutoSeq1 (wpAny_loadPart')
open PySem.MeetsSeq PySem.MeetsSeq2 PySem.MeetsSeq3
end
section
variable {prog:Program} {w:World} {A:Around} {E:Value->Shared->Prop} {s:Shared}
def sIx (n d:Nat):Option Int->Nat
 | none=>d
 | some v=>if v<0 then(v+(n:Int)).toNat else min v.toNat n
end
end HT
namespace L2
open PySem PySem.Spec PyProof.Rows
abbrev TO:=St->Hp->(Option Int->Hp->Prop)->Prop
def PO (X:Cx) (e:Option Expr) (t:TO):Prop :=
 ∀(pins:List (Addr×Obj)) (s:Shared) (O:St) (H:Hp) (Q:Option Int->Hp->Prop),Inv X pins O H s->t O H Q ->
  wpAny (model X.prog X.w) X.A (evalPart e X.env) (λu s'=>∃o H',Inv X pins O H' s'/\IsPart u o/\Q o H') X.xe s
def zM:TO:=λ_ H Q=>Q none H
def Fy (t:TE):TO:=λO H Q=>t O H λx H1=>∃i,x=.int i/\Q (some i) H1
theorem lT {ns:List Int}:∀{us:List Value},Vals (ns.map V.int) us->IntsAre us ns:=by
 induction ns with
 | nil=>intro us r;rw[List.map_nil]at r;cases r;exact .nil
 | cons n ns ih =>
  intro us r;rw[Ϯ]at r;cases r with
  | cons r1 r2 =>
   obtain⟨t,e⟩:=r1;subst e;exact .cons n t (ih r2)
section
variable {X:Cx} {e:Expr} {te:TE} {lo hi:Option Expr} {tl th:TO} {pos p2:Pos}
theorem Af:PO X none zM:=by
 intro pins s O H Q I h;rw[evalPart_none];exact wpAny_pure ⟨none,H,I,.none,h⟩
theorem Ae (h:PE X e te):PO X (some e) (Fy te):=by
 intro pins s O H Q I hw;rw[evalPart_some];refine thn (h pins s O H _ I hw) λu s1 ⟨x,H1,I1,r1,q1⟩=>?_;obtain⟨i,rfl,q⟩:=q1;obtain⟨t,rfl⟩:=r1;exact⟨some i,H1,I1,.int i t,q⟩
def SlR (X:Cx) (r:V->Option Int->Option Int->Hp->VK->Prop):Prop :=
 ∀(pins:List (Addr×Obj)) (s:Shared) (O:St) (H:Hp) (x:V) (v vl vu:Value) (lo hi:Option Int) (sl:Addr) (Q:VK),Inv X pins O H s->RelV x v->s.heap.IsSliceOf sl vl vu .none->IsPart vl lo->IsPart vu hi->r x lo hi H Q ->
  ∃T id,typeLookup (.type T) "__getitem__"=pure (some (.builtin id))/\s.TypeIs v T/\wpAny (model X.prog X.w) X.A (getItem v (.ref sl)) (EP X pins O Q) X.xe s
def tSl (r:V->Option Int->Option Int->Hp->VK->Prop) (te:TE) (tl th:TO):TE:=λO H Q=>te O H λx H1=>tl O H1 λl H2=>th O H2 λu H3=>r x l u H3 Q
theorem qr {r:V->Option Int->Option Int->Hp->VK->Prop} (hr:SlR X r) (he:PE X e te) (hl:PO X lo tl) (hu:PO X hi th):PE X (.Subscript e (.Slice lo hi none p2) pos) (tSl r te tl th):=by
 intro pins s O H Q I h;refine Subscript_ (thn (he pins s O H _ I h) λv s1 ⟨x,H1,I1,r1,q1⟩=>?_);refine wpAny_Slice (thn (hl pins s1 O H1 _ I1 q1) λvl s2 ⟨l,H2,I2,pl,q2⟩=>thn (hu pins s2 O H2 _ I2 q2) λvu s3 ⟨u,H3,I3,pu,q3⟩=>?_);rw[evalPart_none];refine wpAny_pure ?_;have I4:Inv X pins O H3 { s3 with heap:=s3.heap.push { cls:=.type "slice",data:=.fields #[vl,vu,.none] } }:=I3.kept (t':=s3.toks) λb ob q=>ϒ _ q;obtain⟨T,id,hT,ht,hg⟩:=hr pins { s3 with heap:=s3.heap.push { cls:=.type "slice",data:=.fields #[vl,vu,.none] } } O H3 x v vl vu l u s3.heap.objs.size Q I4 r1 (Heap.IsSliceOf.new ..) pl pu q3;show wpAny (model X.prog X.w) X.A (subscriptTail e (.Slice lo hi none p2) v (.ref s3.heap.objs.size)) (EP X pins O Q) X.xe { s3 with heap:=s3.heap.push { cls:=.type "slice",data:=.fields #[vl,vu,.none] } };exact tail_any (ops:=[.ref s3.heap.objs.size,v]) ht hT hg (by with_unfolding_all rfl)
def wl (xs:List V) (lo hi:Option Int):List V:=(xs.drop (HT.sIx xs.length 0 lo)).take (HT.sIx xs.length xs.length hi-HT.sIx xs.length 0 lo)
theorem rh (xs:List V) (lo hi:Option Int):(wl xs lo hi).length<=xs.length:=by
 unfold wl;rw[Θ,List.length_drop];omega
end
end L2
namespace L2
open PySem PySem.Spec PyProof.Rows
def ixN (n:Nat) (i:Int):Option Nat:=if 0<=i then(if i<n then some i.toNat else none)else if -(n:Int)<=i then some (i+n).toNat else none
def atI {Y:Type} (xs:List Y) (i:Int):Option Y:=(ixN xs.length i).bind λj=>xs[j]?
theorem uR {n:Nat} {i:Int} {j:Nat} (h:ixN n i=some j):seqIndex? i n=some j/\j<n/\-(n:Int)<=i/\i<n:=by
 unfold ixN at h;by_cases h0:0<=i
 ·rw[if_pos h0]at h;by_cases h1:i<n
  ·rw[if_pos h1]at h;have e:i.toNat=j:=Ϥ h;exact⟨by rw[seqIndex_of h0 h1,e],by omega,by omega,h1⟩
  ·rw[if_neg h1]at h;cases h
 ·rw[if_neg h0]at h;by_cases h1:-(n:Int)<=i
  ·rw[if_pos h1]at h;have e:(i+n).toNat=j:=Ϥ h;exact⟨by rw[seqIndex_neg (by omega) h1,e],by omega,h1,by omega⟩
  ·rw[if_neg h1]at h;cases h
theorem pT {Y:Type} {xs:List Y} {i:Int} {v:Y} (h:atI xs i=some v):∃j,seqIndex? i xs.length=some j/\xs[j]?=some v/\j<xs.length/\-(xs.length:Int)<=i/\i<xs.length:=by
 unfold atI at h;cases e:ixN xs.length i with
 | none=>rw[e]at h;cases h
 | some j =>
  rw[e]at h;obtain⟨h1,h2,h3,h4⟩:=uR e;exact⟨j,h1,h,h2,h3,h4⟩
def ik (b:Expr):Prop:=∀o i,subscripted b false o i=operate [o,i] (getItem o i)
def IxR (X:Cx) (r:R2):Prop :=
 ∀(value slice:Expr) (pins:List (Addr×Obj)) (s:Shared) (O:St) (H:Hp) (x y:V) (v u:Value) (Q:VK),Inv X pins O H s->RelV x v->RelV y u->r x y H Q ->
  subscripted slice false v u=operate [v,u] (getItem v u)->wpAny (model X.prog X.w) X.A (subscriptTail value slice v u) (EP X pins O Q) X.xe s
def MtR (X:Cx) (id:String) (r:V->List V->Hp->VK->Prop):Prop :=
 ∀(pins:List (Addr×Obj)) (s:Shared) (O:St) (H:Hp) (x:V) (xs:List V) (v:Value) (us:List Value) (Q:VK),Inv X pins O H s->RelV x v->Vals xs us->r x xs H Q ->
  wpAny (model X.prog X.w) X.A (call (.builtin id) (v::us)) (EP X pins O Q) X.xe s
section
variable {X:Cx} {a b:Expr} {ta tb:TE} {pos:Pos}
theorem IxR.or {r r':R2} (h:IxR X r) (h':IxR X r'):IxR X (λx y H Q=>r x y H Q\/r' x y H Q):=by
 intro value slice pins s O H x y v u Q I rx ry q hs;rcases q with q|q
 ·exact h value slice pins s O H x y v u Q I rx ry q hs
 ·exact h' value slice pins s O H x y v u Q I rx ry q hs
theorem uE {r:R2} (hr:IxR X r) (ha:PE X a ta) (hb:PE X b tb) (hs:ik b):PE X (.Subscript a b pos) (tOp r ta tb):=by
 intro pins s O H Q I h;exact Subscript_ (E7 ha hb I h λv u s2 x y H2 I2 rx ry q=>hr a b pins s2 O H2 x y v u Q I2 rx ry q (hs _ _))
def FV (K:Frag):R2:=λx y H Q=>∃p xs i v,x=.ref p/\y=.int i/\SqL K H p xs/\atI xs i=some v/\Q v H
def FT (K:Frag):R2:=λx y H Q=>∃p xs i v,x=.ref p/\y=.int i/\SqT K H p xs/\atI xs i=some v/\Q v H
def FU:R2:=λx y H Q=>∃z i c,x=.str z/\y=.int i/\z.length<=sizeLine/\atI z.cps.toList i=some c/\Q (.str ⟨#[c]⟩) H
theorem ix_list:IxR X (FV X.K):=by
 intro value slice pins s O H x y v u Q I rx ry h hs;obtain⟨p,xs,i,z,rfl,rfl,hq,he,q⟩:=h;cases rx;obtain⟨t,rfl⟩:=ry;obtain⟨its,r,pl,hz⟩:=I.list hq;obtain⟨j,h1,h2,h3,h4,h5⟩:=pT he;obtain⟨w,ew,rw'⟩:=r.get h2;have hl:=r.length;have hn:=lP;have fin:EP X pins O Q w s:=⟨z,H,I,rw',q⟩;by_cases h0:0<=i
 ·have hj:i.toNat=j:=by
   rw[seqIndex_of h0 h5]at h1;exact Ϥ h1
  exact item_listR pl.isList h0 (by omega) (by rw[hj];simpa using ew) fin hs
 ·have hj:(i+(its.toArray.size:Int)).toNat=j:=by
   rw[seqIndex_neg (by omega) h4]at h1;rw[Ϟ,<- hl];exact Ϥ h1
  exact subscriptTail_builtinR (x:=w) pl.isList.typeIs slot_list_getitem.lookup
   (wpAny_getItem_list_neg (Q:=λr s'=>r=w/\EP X pins O Q r s') pl.isList (by omega) (by rw[Ϟ]<;>omega) (by omega) (by rw[hj];simpa using ew) ⟨rfl,fin⟩) hs
theorem ix_tup:IxR X (FT X.K):=by
 intro value slice pins s O H x y v u Q I rx ry h hs;obtain⟨p,xs,i,z,rfl,rfl,hq,he,q⟩:=h;cases rx;obtain⟨t,rfl⟩:=ry;obtain⟨its,r,pl,hz⟩:=I.tuple hq;obtain⟨j,h1,h2,h3,h4,h5⟩:=pT he;obtain⟨w,ew,rw'⟩:=r.get h2;have hl:=r.length;have hn:=lP;have fin:EP X pins O Q w s:=⟨z,H,I,rw',q⟩;exact subscriptTail_builtinR (x:=w) pl.typeIs slot_tuple_getitem.lookup
  (getItem_tuple (j:=j) (Q:=λr s'=>r=w/\EP X pins O Q r s') pl (by omega) (by omega) (by rw[Ϟ,<- hl];exact h1) (by simpa using ew) ⟨rfl,fin⟩) hs
theorem Eb:IxR X FU:=by
 intro value slice pins s O H x y v u Q I rx ry h hs;obtain⟨z,i,c,rfl,rfl,hz,he,q⟩:=h;obtain⟨t,rfl⟩:=rx;obtain⟨t',rfl⟩:=ry;obtain⟨j,h1,h2,h3,h4,h5⟩:=pT he;have hl:z.cps.toList.length=z.length:=by simp[Str.length]
 rw[hl]at h1 h4 h5;have hn:=lP;exact tail_any (typeIs_str s z t) slot_str_getitem.lookup (getItem_str (c:=c) (by
  have e1:decide (i < -(2 ^ 63:Int))=false:=decide_eq_false (by omega);have e2:decide (i ≥ 2 ^ 63)=false:=decide_eq_false (by omega);rw[e1,e2,Bool.or_false]) (by rw[h1];simpa using h2) ⟨.str ⟨#[c]⟩,H,I.tok _,⟨_,rfl⟩,q⟩) hs
def rIx (K:Frag):R2:=λx y H Q=>FV K x y H Q\/FT K x y H Q\/FU x y H Q
theorem sT:IxR X (rIx X.K):=ix_list.or (ix_tup.or Eb)
theorem sN (its:List Value) (n j:Nat) (u:Value):Obj.mapSeq (·.setIfInBounds j u) { cls:=.type "list",data:=.seq its.toArray n }={ cls:=.type "list",data:=.seq (its.set j u).toArray n }:=by
 simp[Obj.mapSeq]
theorem Inv.lst {pins:List (Addr×Obj)} {O:St} {H:Hp} {s:Shared} {p:Addr} {xs:List V} (I:Inv X pins O H s) (h:H p=some (.lst xs)) :
  ∃(its:List Value) (n:Nat),Vals xs its/\s.heap.get? p=some { cls:=.type "list",data:=.seq its.toArray n }/\xs.length<=sizeLine:=by
 obtain⟨z,its,n,r,e⟩:=I.hok p _ h;exact⟨its,n,r,e,z⟩
theorem Inv.lstUpd {pins:List (Addr×Obj)} {O:St} {H:Hp} {s:Shared} {p:Addr} {xs ys:List V} {its its':List Value} {n n':Nat} {f:Obj->Obj} (I:Inv X pins O H s) (h:H p=some (.lst xs))
  (ho:s.heap.get? p=some { cls:=.type "list",data:=.seq its.toArray n }) (hf:f { cls:=.type "list",data:=.seq its.toArray n }={ cls:=.type "list",data:=.seq its'.toArray n' }) (r:Vals ys its') (hz:ys.length<=sizeLine) (t:Nat) :
  Inv X pins O (upd H p (.lst ys)) { s with heap:=s.heap.update p f,toks:=t }:=by
 have e:(s.heap.update p f).get? p=some { cls:=.type "list",data:=.seq its'.toArray n' }:=by
  rw[ι f ho (by rw[hf]<;>rfl),hf]
 refine I.write (x:=p) (e:=p) (by rw[h];trivial) (.inl rfl) (λb u hb q=>(ϯ _ _ (Ν hb)).trans q) ⟨_,e⟩ ?_;exact⟨hz,its',n',r,e⟩
def FP:V->V->V->Hp->(Hp->Prop)->Prop:=λo i v H Q=>∃p xs k j,o=.ref p/\i=.int k/\H p=some (.lst xs)/\ixN xs.length k=some j/\Q (upd H p (.lst (xs.set j v)))
theorem wT:Ff X FP:=by
 intro pins s O H o i v ov iv u Q I ro ri rv h;obtain⟨p,xs,k,j,rfl,rfl,hp,hj,q⟩:=h;cases ro;obtain⟨t,rfl⟩:=ri;obtain⟨its,n,r,ho,hz⟩:=I.lst hp;obtain⟨h1,h2,h3,h4⟩:=uR hj;have hl:=r.length;have hn:=lP;have I':Inv X pins O (upd H p (.lst (xs.set j v))) { s with heap:=s.heap.update p (Obj.mapSeq (·.setIfInBounds j u)) } :=
  I.lstUpd hp ho (sN its n j u) (r.set rv j) (by rw[ϰ];exact hz) s.toks
 by_cases h0:0<=k
 ·have hk:k.toNat=j:=by
   rw[seqIndex_of h0 h4]at h1;exact Ϥ h1
  exact PySem.W.ki_setAt ho h0 (by omega) (by rw[Ϟ,<- hl];exact h4) (by rw[hk];exact⟨_,I',q⟩)
 ·have hk:(k+(its.toArray.size:Int)).toNat=j:=by
   rw[seqIndex_neg (by omega) h3]at h1;rw[Ϟ,<- hl];exact Ϥ h1
  exact PySem.W.ki_setBack ho (by omega) (by rw[Ϟ,<- hl];exact h3) (by omega) (by rw[hk];exact⟨_,I',q⟩)
theorem ow (lo hi:Option Int) (n:Nat):(sliceBounds lo hi none n).1=((HT.sIx n 0 lo:Nat):Int)/\(sliceBounds lo hi none n).2.1=((HT.sIx n n hi:Nat):Int)/\(sliceBounds lo hi none n).2.2=1:=by
 refine⟨?_,?_,rfl⟩
 ·cases lo with
  | none=>simp[sliceBounds,HT.sIx]
  | some i =>
   simp only[sliceBounds,HT.sIx,Option.getD_none,show(1:Int)>0 by decide,if_true];by_cases h:i<0
   ·simp only[h,if_true]<;>omega
   ·simp only[h,if_false]<;>omega
 ·cases hi with
  | none=>simp[sliceBounds,HT.sIx]
  | some i =>
   simp only[sliceBounds,HT.sIx,Option.getD_none,show(1:Int)>0 by decide,if_true];by_cases h:i<0
   ·simp only[h,if_true]<;>omega
   ·simp only[h,if_false]<;>omega
theorem mH (its:List Value) (lo hi:Option Int):slicePick its.toArray lo hi none=((its.drop (HT.sIx its.length 0 lo)).take (HT.sIx its.length its.length hi-HT.sIx its.length 0 lo)).toArray:=by
 obtain⟨h1,h2,h3⟩:=ow lo hi its.toArray.size;unfold slicePick;rw[h1,h2,h3];simp only[sliceRange_one,pick_run,Ϟ]<;>rfl
def Hh (K:Frag):V->Option Int->Option Int->Hp->VK->Prop:=λx lo hi H Q=>∃a xs,x=.ref a/\SqL K H a xs/\∀p,H p=none->Q (.ref p) (upd H p (.lst (wl xs lo hi)))
theorem uf:SlR X (Hh X.K):=by
 intro pins s O H x v vl vu lo hi sl Q I rx hs pl pu h;obtain⟨a,xs,rfl,hx,q⟩:=h;cases rx;obtain⟨its,r,ht,hz⟩:=I.list hx;have hlen:=r.length;refine⟨"list",_,slot_list_getitem.lookup,ht.isList.typeIs,?_⟩;refine wpAny_getItem_list_slice ht.isList hs pl pu .none (by simp) ?_ (by rw[Ϟ]<;>omega);rw[mH,<- hlen];refine⟨.ref s.heap.objs.size,_,I.laid (t':=s.toks) (o:=.lst (wl xs lo hi)) (λb ob q=>ϒ _ q) (ϗ _) ?_,rfl,q _ (I.hok.fresh (ϗ _))⟩;exact⟨ϣ (rh xs lo hi) hz,_,0,(r.drop (HT.sIx xs.length 0 lo)).take (HT.sIx xs.length xs.length hi-HT.sIx xs.length 0 lo),ϧ _ rfl⟩
theorem jy:hV X (.builtin "len") (λxs H Q=>∃p ys,xs=[.ref p]/\(SqL X.K H p ys\/SqT X.K H p ys)/\Q (.int ys.length) H):=by
 intro pins s O H xs us Q I r h;obtain⟨p,ys,rfl,hq,q⟩:=h;obtain⟨u,rfl,rx⟩:=lj r;cases rx;have hn:=lP;rcases hq with hq|hq
 ·obtain⟨its,r',pl,hz⟩:=I.list hq;have hlen:=r'.length;exact Calls.call_len_list pl.isList (by simp only[Ϟ]<;>omega) ⟨.int ys.length,H,I.tok _,⟨s.toks+1,by rw[Ϟ,hlen]⟩,q⟩
 ·obtain⟨its,r',pl,hz⟩:=I.tuple hq;have hlen:=r'.length;exact len_tuple pl (by simp only[Ϟ]<;>omega) ⟨.int ys.length,H,I.tok _,⟨s.toks+1,by rw[Ϟ,hlen]⟩,q⟩
theorem jx:hV X (.type "list") (λxs H Q=>∃p ys,xs=[.ref p]/\(SqL X.K H p ys\/SqT X.K H p ys)/\∀l,H l=none->Q (.ref l) (upd H l (.lst ys))):=by
 intro pins s O H xs us Q I r h;obtain⟨p,ys,rfl,hq,q⟩:=h;obtain⟨u,rfl,rx⟩:=lj r;cases rx;have fin:∀(its:List Value),Vals ys its->ys.length<=sizeLine->∀(h':Heap) (c':Nat),(∀b o',s.heap.get? b=some o'->h'.get? b=some o') ->
   h'.get? s.heap.objs.size=some { cls:=.type "list",dict:=none,data:=.seq its.toArray c',slots:=#[] }->EP X pins O Q (.ref s.heap.objs.size) { s with heap:=h' }:=λits r' hz h' c' kp e =>
  ⟨.ref s.heap.objs.size,_,I.laid (t':=s.toks) kp (ϗ _) (show ObjOk X.prog X.w _ h' _ (.lst ys)from⟨hz,its,c',r',e⟩),rfl,q _ (I.hok.fresh (ϗ _))⟩
 rcases hq with hq|hq
 ·obtain⟨its,r',pl,hz⟩:=I.list hq;have hlen:=r'.length;obtain⟨o,ho,hc,n,hd⟩:=pl.isList;exact call_list_seq p (.inl rfl) ho hc hd (λh' c' kp e=>fin its r' hz h' c' kp e) (by simp only[Ϟ]<;>omega)
 ·obtain⟨its,r',pl,hz⟩:=I.tuple hq;have hlen:=r'.length;obtain⟨o,ho,hc,n,hd⟩:=pl;exact call_list_seq p (.inr rfl) ho hc hd (λh' c' kp e=>fin its r' hz h' c' kp e) (by simp only[Ϟ]<;>omega)
theorem iH:hV X (.type "tuple") (λxs H Q=>∃p ys,xs=[.ref p]/\((SqL X.K H p ys/\∀l,H l=none->Q (.ref l) (upd H l (.tup ys)))\/(SqT X.K H p ys/\Q (.ref p) H))):=by
 intro pins s O H xs us Q I r h;obtain⟨p,ys,rfl,h⟩:=h;obtain⟨u,rfl,rx⟩:=lj r;cases rx;rcases h with⟨hq,q⟩|⟨hq,q⟩
 ·obtain⟨its,r',pl,hz⟩:=I.list hq;have hlen:=r'.length;refine call_tuple_list pl.isList (λh' kp=>?_) (by simp only[Ϟ]<;>omega);have I1:Inv X pins O H { s with heap:=h' }:=I.kept (t':=s.toks) kp;have I2:Inv X pins O (upd H h'.objs.size (.tup ys)) { s with heap:=h'.push { cls:=.type "tuple",data:=.seq its.toArray } } :=
   I1.laid (t':=s.toks) (λb o e=>ϒ _ e) (ϗ _) (show ObjOk X.prog X.w _ _ _ (.tup ys)from⟨hz,its,r',IsTup.new _ _⟩)
  exact⟨.ref h'.objs.size,_,I2,rfl,q _ (I1.hok.fresh (ϗ _))⟩
 ·obtain⟨its,r',pl,hz⟩:=I.tuple hq;exact call_tuple_same pl ⟨.ref p,H,I,rfl,q⟩
def tyV (K:Frag) (T:String) (x:V) (H:Hp):Prop:=match x with
 | .str _=>T="str"
 | .int _=>T="int"
 | .ref p=>(T="list"/\∃xs,SqL K H p xs)\/(T="tuple"/\∃o,K.lookup p=some o/\o.cls=.type "tuple"/\o.dict=none) \/
   (T="dict"/\((∃kvs,H p=some (.dK kvs))\/∃kvs,H p=some (.dT kvs)))\/(T="set"/\∃S n,H p=some (.set S n))
 | _=>False
theorem Cu {pins:List (Addr×Obj)} {O:St} {H:Hp} {s:Shared} {T:String} {x:V} {v:Value} (I:Inv X pins O H s) (r:RelV x v) (ty:tyV X.K T x H) :
  s.TypeIs v T/\∀a,v=.ref a->∃ob,s.heap.get? a=some ob/\ob.dict=none:=by
 cases x with
 | str z =>
  obtain⟨t,rfl⟩:=r;cases(show T="str" from ty);exact⟨typeIs_str s z t,λ_ e=>nomatch e⟩
 | int i =>
  obtain⟨t,rfl⟩:=r;cases(show T="int" from ty);exact⟨typeIs_int s i t,λ_ e=>nomatch e⟩
 | ref p =>
  cases r;rcases ty with⟨rfl,xs,hq⟩|⟨rfl,o,hk,hc,hd⟩|⟨rfl,hk⟩|⟨rfl,S,n,hk⟩
  ·obtain⟨its,_,pl,_⟩:=I.list hq;refine⟨pl.isList.typeIs,λa e=>?_⟩;cases e;obtain⟨o,n,e,c,hd,_⟩:=pl;exact⟨o,e,hd⟩
  ·refine⟨⟨o,I.kIn p o hk,hc⟩,λa e=>?_⟩;cases e;exact⟨o,I.kIn _ o hk,hd⟩
  ·have z:∃o,s.heap.get? p=some o/\o.ExactDict:=by
    rcases hk with⟨kvs,hk⟩|⟨kvs,hk⟩
    ·obtain⟨_,_,_,_,o,_,_,e,ex,_⟩:=I.hok p _ hk;exact⟨o,e,ex⟩
    ·obtain⟨_,_,_,_,o,_,_,e,ex,_⟩:=I.hok p _ hk;exact⟨o,e,ex⟩
   obtain⟨o,e,ex⟩:=z;refine⟨⟨o,e,ex.1⟩,λa e2=>?_⟩;cases e2;exact⟨o,e,ex.2.1⟩
  ·obtain⟨o,_,_,_,e,ex,_⟩:=I.hok p _ hk;refine⟨⟨o,e,ex.1⟩,λa e2=>?_⟩;cases e2;exact⟨o,e,ex.2.1⟩
 | _=>exact False.elim ty
def tBM (K:Frag) (T:String) (r:V->List V->Hp->VK->Prop) (to:TE) (t:TA):TE:=λO H Q=>to O H λx H1=>tyV K T x H1/\t O H1 λxs H2=>r x xs H2 Q
variable {o e:Expr} {es:List Expr} {to:TE} {t:TA} {name:Str} {apos cpos:Pos} {T id:String} {r:V->List V->Hp->VK->Prop}
theorem iX (pa:PlainAttrs T) (slot:Slot T name id) (hty:typeOf (.builtin id)=pure (.type "method_descriptor")) (hm:MtR X id r) (ho:PE X o to) (ha:PA X (e::es) t)
  (hbase:attributeBase o name X.env (eval o X.env)=eval o X.env:=by rfl)
  (hfew:((backTo cpos (starEach (e::es) X.env)).all (λx=>!x.1)&&(backToKw cpos (keywordEach [] X.env)).all (λx=>x.1.isSome)
   && decide ((e::es).length+([]:List Keyword).length+(if([]:List Keyword).isEmpty then 0 else 1)<30))=true:=by rfl)
  (hline:(apos.endLine==cpos.line)=true:=by rfl) (hs:starEach (e::es) X.env=(false,eval e X.env)::starEach es X.env:=by rfl) (hplain:(backTo cpos (starEach es X.env)).any (·.1)=false:=by rfl) :
  PE X (.Call (.Attribute o name apos) (e::es) [] cpos) (tBM X.K T r to t):=by
 intro pins s O H Q I h;refine wpAny_Call_method_late hbase hfew hline rfl (thn (ho pins s O H _ I h) λv s1 ⟨x,H1,I1,r1,ty,q1⟩=>?_);obtain⟨h1,h2⟩:=Cu I1 r1 ty;refine⟨T,id,pa,slot,hty,h1,h2,?_⟩;have hA:=ha cpos pins s1 O H1 _ I1 q1;rw[hs]at hA ⊢;refine Calls.callWith_builtin (by show(false||(backTo cpos (starEach es X.env)).any (·.1))=false;rw[hplain]<;>rfl) (Calls.evalArgs_plain ?_);exact thn hA λus s2 ⟨vs,H2,I2,r2,q2⟩=>hm pins s2 O H2 x vs v us Q I2 r1 r2 q2
end
end L2
namespace L2
open PySem PySem.Spec PyProof.Rows
def MtM (X:Cx) (id:String) (r:V->List V->Hp->VK->Prop):Prop :=
 ∀(pins:List (Addr×Obj)) (s:Shared) (O:St) (H:Hp) (x:V) (xs:List V) (v:Value) (us:List Value) (Q:VK),Inv X pins O H s->RelV x v->Vals xs us->r x xs H Q ->
  wpAny (model X.prog X.w) X.A (call (.builtin id) (v::us)) (EP X pins O Q) X.xe s
theorem Vals.one:∀{x:V} {us:List Value},Vals [x] us->∃u,us=[u]/\RelV x u
 | _,_,.cons r .nil=>⟨_,rfl,r⟩
theorem Vals.two:∀{x y:V} {us:List Value},Vals [x,y] us->∃u v,us=[u,v]/\RelV x u/\RelV y v
 | _,_,_,.cons r (.cons q .nil)=>⟨_,_,rfl,r,q⟩
theorem Vals.rep {xs:List V} {us:List Value} (h:Vals xs us):∀k:Nat,Vals (List.replicate k xs).flatten (List.replicate k us).flatten
 | 0=>.nil
 | k+1=>by
  rw[Ξ,Ξ,δ,δ];exact Vals.append h (Vals.rep h k)
theorem nI (its:List Value):∀(k:Nat) (acc:List Value),
  List.foldl (λx1 x2=>x1++x2) acc.toArray (List.replicate k its.toArray)=(acc++(List.replicate k its).flatten).toArray
 | 0,acc=>by simp
 | k+1,acc=>by
  have e:acc.toArray++its.toArray=(acc++its).toArray:=by simp
  have e2:(acc++its)++(List.replicate k its).flatten=acc++(List.replicate (k+1) its).flatten:=by
   rw[Ξ,δ,List.append_assoc]
  rw[<- e2,<- nI its k (acc++its),<- e,Ξ,List.foldl_cons]
section
variable {X:Cx} {pins:List (Addr×Obj)} {O:St} {H:Hp} {s:Shared} {l b:Addr} {xs ys zs:List V}
theorem Inv.lset {its its':List Value} {n:Nat} {f:Array Value->Array Value} {t':Nat} (I:Inv X pins O H s) (hH:H l=some (.lst xs))
  (e:s.heap.get? l=some { cls:=.type "list",data:=.seq its.toArray n }) (hf:f its.toArray=its'.toArray) (hv:Vals ys its') (hz:ys.length<=sizeLine) :
  Inv X pins O (upd H l (.lst ys)) { s with heap:=s.heap.update l (Obj.mapSeq f),toks:=t' }:=by
 have q:=PySem.IsL.update e f;rw[hf]at q;refine I.write (x:=l) (e:=l) (by rw[hH];exact trivial) (.inl rfl) (λb' u hb hu=>(ϯ s.heap (Obj.mapSeq f) (Ν hb)).trans hu) ⟨_,q⟩ ?_;exact⟨hz,its',_,hv,q⟩
theorem Inv.lnew {its:List Value} {t':Nat} (I:Inv X pins O H s) (hv:Vals ys its) (hz:ys.length<=sizeLine) :
  Inv X pins O (upd H s.heap.objs.size (.lst ys)) { s with heap:=s.heap.push { cls:=.type "list",data:=.seq its.toArray },toks:=t' } :=
 I.laid (λ_ _ q=>ϒ _ q) (ϗ _) ⟨hz,its,0,hv,ϧ _ rfl⟩
theorem Inv.fresh (I:Inv X pins O H s):H s.heap.objs.size=none:=I.hok.fresh (ϗ _)
theorem Inv.lstM (I:Inv X pins O H s) (hH:H l=some (.lst xs)):xs.length<=sizeLine/\∃(its:List Value) (n:Nat),Vals xs its/\xs.length=its.length/\s.heap.get? l=some { cls:=.type "list",data:=.seq its.toArray n }:=by
 obtain⟨z,its,n,r,e⟩:=I.hok l _ hH;exact⟨z,its,n,r,r.length,e⟩
theorem qw {n:Nat} (h:n<=sizeLine):Builtin.List.listTooLong n=false:=by
 unfold Builtin.List.listTooLong;exact decide_eq_false (by omega)
end
section
variable {X:Cx}
def oC:V->List V->Hp->VK->Prop:=λx vs H Q=>∃l xs y,x=.ref l/\vs=[y]/\H l=some (.lst xs)/\xs.length<sizeLine/\Q .non (upd H l (.lst (xs++[y])))
theorem jJ:MtM X "list.append" oC:=by
 intro pins s O H x vs v us Q I rx rv h;obtain⟨l,xs,y,rfl,rfl,hH,hz,q⟩:=h;cases rx;obtain⟨u,rfl,ru⟩:=rv.one;obtain⟨z,its,n,r,hl,e⟩:=I.lstM hH;refine call_meets F.slot_list_append ⟨_,e,rfl⟩ F.entry_list_append (F.args_list_append_2 _ _) (PySem.list_append l its.toArray n u (by rw[Ϟ];omega)) ⟨e,?_⟩;refine⟨.non,_,I.lset (its':=its++[u]) hH e (by simp) (r.append (.cons ru .nil)) ?_,rfl,q⟩;rw[Ϝ,List.length_singleton];omega
def uu:V->List V->Hp->VK->Prop:=λx vs H Q=>∃l b xs zs,x=.ref l/\vs=[.ref b]/\H l=some (.lst xs)/\H b=some (.lst zs)/\xs.length+zs.length<=sizeLine/\Q .non (upd H l (.lst (xs++zs)))
theorem vT:MtM X "list.extend" uu:=by
 intro pins s O H x vs v us Q I rx rv h;obtain⟨l,b,xs,zs,rfl,rfl,hH,hB,hz,q⟩:=h;cases rx;obtain⟨u,rfl,ru⟩:=rv.one;cases ru;obtain⟨z,its,n,r,hl,e⟩:=I.lstM hH;obtain⟨z2,its2,n2,r2,hl2,e2⟩:=I.lstM hB;have hsz:its.toArray.size+its2.toArray.size<=sizeLine:=by rw[Ϟ,Ϟ];omega
 have hlong:¬ (!its.toArray.isEmpty&&Builtin.List.listTooLong (its.toArray.size+its2.toArray.size))=true:=by
  rw[qw hsz,Bool.and_false];exact ϙ
 refine call_meets F.slot_list_extend ⟨_,e,rfl⟩ F.entry_list_extend (F.args_list_extend_2 _ _)
  (AutoSeq1.list_extend_list_list_0 l its.toArray n b its2.toArray n2 hlong (by rw[Ϟ];omega) (by omega)) ⟨e,e2,?_⟩
 refine⟨.non,_,I.lset (its':=its++its2) hH e (by simp) (r.append r2) ?_,rfl,q⟩;rw[Ϝ];omega
def Dl:R2:=λx y H Q=>∃l b xs zs,x=.ref l/\y=.ref b/\H l=some (.lst xs)/\H b=some (.lst zs)/\xs.length+zs.length<=sizeLine/\∀p,H p=none->Q (.ref p) (upd H p (.lst (xs++zs)))
theorem DU:OpR X (binaryOp .Add) Dl:=by
 intro pins s O H x y v u Q I rx ry h;obtain⟨l,b,xs,zs,rfl,rfl,hH,hB,hz,q⟩:=h;cases rx;cases ry;obtain⟨z,its,n,r,hl,e⟩:=I.lstM hH;obtain⟨z2,its2,n2,r2,hl2,e2⟩:=I.lstM hB;refine PySem.P.add_list e e2 ?_ (by rw[Ϟ,Ϟ];omega);have ea:its.toArray++its2.toArray=(its++its2).toArray:=by simp
 rw[ea];exact⟨.ref _,_,I.lnew (t':=s.toks) (r.append r2) (by rw[Ϝ];omega),rfl,q _ I.fresh⟩
def Hi:R2:=λx y H Q=>∃l k xs,x=.ref l/\y=.int k/\H l=some (.lst xs)/\-(2 ^ 63)<=k/\k<2 ^ 63/\xs.length*k.toNat<=sizeLine /\
 ∀p,H p=none->Q (.ref p) (upd H p (.lst (List.replicate k.toNat xs).flatten))
theorem AN {Y:Type} (xs:List Y) (k:Nat):(List.replicate k xs).flatten.length=k*xs.length:=by
 induction k with
 | zero=>simp
 | succ k ih=>rw[Ξ,δ,Ϝ,ih,Nat.succ_mul,Nat.add_comm]
theorem DQ:OpR X (binaryOp .Mult) Hi:=by
 intro pins s O H x y v u Q I rx ry h;obtain⟨l,k,xs,rfl,rfl,hH,h1,h2,hz,q⟩:=h;cases rx;obtain⟨t,rfl⟩:=ry;obtain⟨z,its,n,r,hl,e⟩:=I.lstM hH;have hlen:its.toArray.size*k.toNat<=sizeLine:=by rw[Ϟ,<- hl];exact hz
 have hcap:¬ its.toArray.size*k.toNat>(2 ^ 63-1)/8:=by
  have:(sizeLine:Nat)<=(2 ^ 63-1)/8:=by decide
  omega
 have hfit:¬ (!Builtin.List.listFitsIndex k)=true:=by
  rw[fitsIndex_both h1 h2];exact ϙ
 have hlong:¬ Builtin.List.listTooLong (its.toArray.size*k.toNat)=true:=by
  rw[qw hlen];exact ϙ
 have hnew:List.foldl (λx1 x2=>x1++x2) #[] (List.replicate (if its.toArray.isEmpty=true then 0 else k.toNat) its.toArray)=(List.replicate k.toNat its).flatten.toArray:=by
  have f0:∀m:Nat,List.foldl (λx1 x2=>x1++x2) #[] (List.replicate m its.toArray)=(List.replicate m its).flatten.toArray:=λm=>by
   have:=nI its m [];rw[List.nil_append]at this;exact this
  rw[f0];cases its with
  | nil=>simp
  | cons a r'=>rw[if_neg (by simp)]
 refine wpAny_binaryOp_repeat_ref (T:="list") (U:="int") (by decide) ⟨_,e,rfl⟩ (λs'=>typeIs_int s' k t) noFill_list_mul F.fills_int_mul F.slot_int_rmul repeat_list F.slot_int_index.lookup
  (call_meets F.slot_int_rmul (typeIs_int s k t) F.entry_int_rmul (F.args_int_rmul_2 _ _) (int___rmul___int_list k t l its.toArray n)
   ⟨e,rfl,⟨_,e,rfl⟩,call_meets F.slot_list_mul ⟨_,e,rfl⟩ F.entry_list_mul (F.args_list_mul_2 _ _) (AutoListH.list___mul___list_int_3 l its.toArray n k t hfit hcap hlong) ⟨e,?_⟩⟩)
 rw[hnew];exact⟨.ref _,_,I.lnew (t':=s.toks) (r.rep k.toNat) (by rw[AN,Nat.mul_comm];exact hz),rfl,q _ I.fresh⟩
end
section
variable {prog:Program} {w:World} {A:Around} {E:Value->Shared->Prop} {s:Shared}
end
section
variable {X:Cx}
end
end L2
namespace Att
open PySem PySem.W PySem.Calls PyProof.Rows
theorem kF {P:Params} {h:Heap}:∀(ns:List Int) (vs:List Value),WellAll P h vs (ns.map WData.int)->IntsAre vs ns:=by
 intro ns
 induction ns with
 | nil =>
  intro vs w;rw[List.map_nil]at w;cases w;exact .nil
 | cons n ns ih =>
  intro vs w;rw[Ϯ]at w;cases w with
  | cons a b =>
   cases a;exact .cons _ _ (ih _ b)
theorem vJ {l:OpenLaw} {n:Nat} (hn:l.most=some n) {P:Params} {h:Heap} {args:List WData} {vals:List Value}
  (hpre:l.row.toRowW.claim.pre args=true) (hwl:WellAll P h vals args) :
  ∃a vs ns,vals=[Value.ref a]/\args=[WData.list (ns.map WData.int)]/\h.get? a=some { cls:=.type "list",data:=.seq vs.toArray }/\IntsAre vs ns/\ns.length<=n:=by
 have hsh:WShape.hasAll [] args [.list .int]=true:=(pre_splitW hpre).1;have hc:l.pre.holds [] { args:=args }=true:=(pre_splitW hpre).2;obtain⟨d,r,rfl,h1,h2⟩:=hasAllW_cons hsh;obtain rfl:=hasAllW_nil h2;obtain⟨xs,rfl,h3⟩:=hasW_list h1;obtain⟨ns,rfl⟩:=items_int h3;have hlen:ns.length<=n:=by
  unfold OpenLaw.pre at hc;have h4:(WTm.not (.lt (.lit (.int (n:Int))) (.len (.arg 0)))).holds [] { args:=[.list (ns.map .int)] }=true:=by
   have h4:=(holds_andW hc).1;rw[hn]at h4;exact h4
  have h5:=condW_of h4 (w_not (w_lt w_lit (w_len_list (w_arg rfl))));rw[ϋ]at h5;refine Nat.le_of_not_lt λq=>?_;have q':(n:Int)<((ns.length:Nat):Int):=by omega
  first
   | (rw[decide_eq_true q']at h5;exact absurd h5 (by decide))
   | (simp at h5;omega)
 cases hwl with
 | cons w1 w2 =>
  cases w2;cases w1 with
  | list ho hall=>exact⟨_,_,ns,rfl,rfl,ho,kF ns _ hall,hlen⟩
theorem vO (l:OpenLaw) (args:List WData):l.row.toRowW.claim.post args (.bool true) args=true :=
 postW_of (r:=l.row.toRowW) (X:=(true==true))
  (show WShape.has [] (.bool true) .bool=true by first|rfl|decide|simp[WShape.has,WShape.arms,WShape.armsAll])
  (show(WTm.eq .res (.lit (.bool true))).value [] { args:=args,res:=some (.bool true),after:=args }=some (.bool (true==true))from w_eq_bool (w_res rfl) w_lit) rfl
theorem attach_call {l:OpenLaw} {n:Nat} {q:Program} {loose:List Str} {XP:(Str->Option Value)->Heap->Prop} {YP:World->Heap->Prop} {d:DefRec}
  (hn:l.most=some n) (hdf:d.params.defaults=[])
  (call:∀(w:World) (s₀ s₁:Shared) (mg mb:Str->Option Value) (fa:Addr) (o:Obj) (pm cd doc:Value) (a:Addr) (vs:List Value) (ns:List Int),
   Ground q loose [] XP w s₀ mg mb s₁.heap->YP w s₁.heap ->
   s₁.heap.get? fa=some o->o.data=.func (docDef d.name d.params d.body d.scope pm cd doc)->s₁.heap.CodeRec cd d.name->mg d.name=some (.ref fa) ->
   s₁.heap.get? a=some { cls:=.type "list",data:=.seq vs.toArray }->IntsAre vs ns->ns.length<=n->s₁.gens=#[] ->
   codeAny (model l.prog w) callerA (.call (.ref fa) ⟨[.ref a],[]⟩) (λr s'=>r=.ok (.ret (.bool true))/\OldK s₁.heap s'.heap/\s'.os=s₁.os/\AllBare s'.gens) s₁) :
  WalkO q loose XP YP l.row.toRowW d [] (λf vs=>PySem.call f vs):=by
 intro w s₀ s₁ mg mb G HZ fa o pm cd doc dV kV ho hd hcd hD hmg hg args vals as hpre hlay hrd hwl hlo;obtain rfl:dV=.none:=Dflts.none hD hdf;obtain rfl:kV=.none:=Dflts.noKw hD;obtain⟨a,vs,ns,rfl,rfl,hobj,hints,hlen⟩:=vJ hn hpre hwl;refine enter_call (codeAny_mono (call w s₀ s₁ mg mb fa o pm cd doc a vs ns G HZ ho (fd_plain hd) hcd hmg hobj hints hlen hg) λr s' hq=>?_);obtain⟨rfl,h2,h3,h4⟩:=hq;exact⟨.inl ⟨.bool true,.bool true,[],rfl,λ_=>rfl,.bool true,vO l _,λ_=>⟨List.Pairwise.nil,λ_ hm=>(nomatch hm)⟩⟩,h2,h3,h4⟩
section
variable {prog:Program} {w:World} {A:Around} {E:Value->Shared->Prop} {s:Shared} {K:Frag}
end
end Att
namespace L2
open PySem PySem.Spec PyProof.Rows
theorem ni:∀{vs:List Value} {ns:List Int},IntsAre vs ns->Vals (ns.map V.int) vs
 | _,_,.nil=>.nil
 | _,_,.cons n t h=>.cons ⟨t,rfl⟩ (ni h)
def Fg (H:Hp):Prop:=∀b,H b=none\/∃o xs,H b=some (.frz o (.lst xs))
theorem yf {P:Program} {w:World} {K:Frag} {mg mb:Str->Option Value} {CX:CXT} {k:Nat} {fa a:Addr} {fd:FuncData} {x:Str} {sp:Sp} {s₁:Shared} {vs:List Value} {ns:List Int}
  (KX:K.In s₁.heap) (hns:s₁.heap.Ns mainGlobals mg) (hb:s₁.heap.Ns builtinsNs mb) (hbb:∀x:Str,x ≠ "__name__"->mb x=bootBuiltins x) (hlim:s₁.heap.NoLimit) (hg:s₁.gens=#[])
  (ha:s₁.heap.get? a=some { cls:=.type "list",data:=.seq vs.toArray }) (hi:IntsAre vs ns) (hl:ns.length<=sizeLine) (hr:Room k callerA)
  (F:∀base:Heap,K.In base->base.Ns mainGlobals mg->FnOk P w K mg base CX k fa fd [x] sp) (hbind:∀(s:Shared) (u:Value),BindsTo s fd ⟨[u],[]⟩ [(x,u)])
  (hsp:∀H:Hp,Fg H->SqL K H a (ns.map V.int)->sp [.ref a] H (λv _=>v=.bl true) λ_ _ _=>False)
  (hCX:∀H e s',CX [] H s₁ (λ_ _ _=>False) e s'->False) :
  codeAny (model P w) callerA (.call (.ref fa) ⟨[.ref a],[]⟩) (λr s'=>r=.ok (.ret (.bool true))/\OldK s₁.heap s'.heap/\s'.os=s₁.os/\AllBare s'.gens) s₁:=by
 have rv:=ni hi;have lenV:=hi.length;have core:∀H:Hp,Fg H->SqL K H a (ns.map V.int)->HOk P w H s₁.heap->(∀b,H b≠none->b=a)->(H a≠none->K.lookup a=none) ->
   codeAny (model P w) callerA (.call (.ref fa) ⟨[.ref a],[]⟩) (λr s'=>r=.ok (.ret (.bool true))/\OldK s₁.heap s'.heap/\s'.os=s₁.os/\AllBare s'.gens) s₁:=by
  intro H hO hS hok hA hK;have base_of:∀{b:Addr} {o:Obj},s₁.heap.get? b=some o->H b=none->(o5 s₁.heap H).get? b=some o:=λe n=>ym e n;have noA:∀{b:Addr} {o:Obj} {es:Array DictEntry} {ep:Nat},s₁.heap.get? b=some o->o.data=.dict es ep->H b=none:=λ{b o es ep} e d=>by
   cases q:H b with
   | none=>rfl
   | some u =>
    have e':b=a:=hA b (by rw[q];simp);subst e';rw[ha]at e;cases e;have d':Data.seq vs.toArray _=Data.dict es ep:=d;cases d'
  have nsK:∀{b:Addr} {m:Str->Option Value},s₁.heap.Ns b m->(o5 s₁.heap H).Ns b m:=λ{b m} ⟨o,es,ep,e,d,r⟩=>⟨o,es,ep,base_of e (noA e d),d,r⟩;have hKb:K.In (o5 s₁.heap H):=λb o e=>base_of (KX b o e) (by
   cases q:H b with
   | none=>rfl
   | some u =>
    have e':b=a:=hA b (by rw[q];simp);subst e';rw[hK (by rw[q];simp)]at e;cases e)
  have hM:Mod K mg (o5 s₁.heap H):=⟨hKb,nsK hns,⟨mb,nsK hb,hbb⟩,let ⟨mc,h1,h2⟩:=hlim;⟨mc,nsK h1,h2⟩⟩;have e0:Env0 P w K mg (o5 s₁.heap H) callerA [] s₁ H:=⟨rfl,hM,λb o e=>AG e,Nat.le_of_eq (vZ _ _),trivial,λb hb=>absurd (show b∈([]:List Addr)from hb) (by simp),hok,.of_eq hg⟩;refine codeAny_mono ((F _ hKb (nsK hns)).run callerA [] s₁ H ⟨[.ref a],[]⟩ [.ref a] [.ref a] _ _ hr e0 (hbind s₁ (.ref a)) (.cons rfl .nil) (hsp H hO hS)) λr s' h=>?_;cases r with
  | error e=>exact(hCX H e s' h).elim
  | ok fl =>
   cases fl with
   | next=>exact False.elim h
   | brk=>exact False.elim h
   | cont=>exact False.elim h
   | ret u =>
    obtain⟨v,H',os,bare,un,hok',r',q⟩:=h;have q':v=.bl true:=q;subst q';obtain rfl:u=Value.bool true:=r';refine⟨rfl,OldK.of_keep λb o e=>?_,os,bare⟩;cases q:H b with
    | none=>exact un.keep b o e q (by intro z;exact absurd (show b∈([]:List Addr)from z) (by simp)) (by simp)
    | some u =>
     rcases hO b with z|⟨ob,xs,z⟩
     ·rw[q]at z;cases z
     ·have z2:=un.frzs b ob _ z;obtain⟨e1,_⟩:=hok b _ z;obtain⟨e2,_⟩:=hok' b _ z2;rw[e]at e1;cases e1;exact e2
 cases hk:K.lookup a with
 | some o =>
  have e:=KX a o hk;rw[ha]at e;cases e;refine core (λ_=>none) (λ_=>.inl rfl) (.inr ⟨_,vs.toArray,_,hk,rfl,rfl,rfl,by rw[Ϟ,lenV];exact hl,by simpa using rv⟩) (λb u z=>by have z':(none:Option HO)=some u:=z;cases z') (λb z=>absurd rfl z) λz=>absurd rfl z
 | none =>
  refine core (λb=>if b=a then some (.frz { cls:=.type "list",data:=.seq vs.toArray } (.lst (ns.map V.int)))else none) (λb=>?_) (.inl (.inr ⟨{ cls:=.type "list",data:=.seq vs.toArray },if_pos rfl⟩)) (λb u z=>?_) (λb z=>?_) λ_=>hk
  ·by_cases hb:b=a
   ·exact .inr ⟨_,_,if_pos hb⟩
   ·exact .inl (if_neg hb)
  ·by_cases hb:b=a
   ·have z':=(if_pos hb).symm.trans z;cases z';subst hb;exact⟨ha,by rw[ϋ];exact hl,vs,_,rv,ha⟩
   ·have z':=(if_neg hb).symm.trans z;cases z'
  ·by_cases hb:b=a
   ·exact hb
   ·exact absurd (if_neg hb) z
end L2
namespace L2
open PySem PySem.Spec PyProof.Rows
theorem walk_of {l:PySem.W.OpenLaw} {n k:Nat} {q:Program} {loose:List Str} {XP:(Str->Option Value)->Heap->Prop} {YP:World->Heap->Prop} {d:DefRec} {K:Params->Frag} {CX:World->CXT} {sp:World->Sp} {x:Str}
  (hn:l.most=some n) (hn2:n<=sizeLine) (hdf:d.params.defaults=[]) (hr:Room k callerA)
  (hY:∀(w:World) (h:Heap),YP w h->(K w.params).In h)
  (F:∀(w:World) (mg:Str->Option Value) (fa:Addr) (h:Heap),(K w.params).In h->h.Ns mainGlobals mg->mg d.name=some (.ref fa) ->
   ∃fd:FuncData,(∀(s:Shared) (u:Value),BindsTo s fd ⟨[u],[]⟩ [(x,u)]) /\
    ∀base:Heap,(K w.params).In base->base.Ns mainGlobals mg->FnOk l.prog w (K w.params) mg base (CX w) k fa fd [x] (sp w))
  (hsp:∀(w:World) (H:Hp) (a:Addr) (ns:List Int),ns.length<=n->Fg H->SqL (K w.params) H a (ns.map V.int)->sp w [.ref a] H (λv _=>v=.bl true) λ_ _ _=>False)
  (hCX:∀(w:World) (H:Hp) (s:Shared) (e:Value) (s':Shared),CX w [] H s (λ_ _ _=>False) e s'->False) :
  PySem.W.WalkO q loose XP YP l.row.toRowW d [] (λf vs=>PySem.call f vs):=by
 refine Att.attach_call hn hdf λw s₀ s₁ mg mb fa o pm cd doc a vs ns G HZ ho hd hcd hmg hobj hints hlen hg=>?_;have KX:=hY w _ HZ;obtain⟨fd,hb,hF⟩:=F w mg fa _ KX G.T.g hmg;exact yf KX G.T.g G.T.b G.T.builtins G.T.nolimit hg hobj hints (ϣ hlen hn2) hr hF hb (λH hO hS=>hsp w H a ns hlen hO hS) λH e s'=>hCX w H s₁ e s'
end L2
namespace L2
open PySem PySem.Spec PyProof.Rows
def AV (s:Stmt) (j:Nat):Stmt:=match s with
 | .ClassDef _ _ _ body _ _ _ _ _ _ _=>body.getD j (.Pass ⟨0,0,0,0⟩)
 | _=>.Pass ⟨0,0,0,0⟩
def f7 (s:Stmt):Arguments:=match s with
 | .FunctionDef _ a _ _ _ _ _ _ _ _=>a
 | _=>{ posonlyargs:=[],args:=[],vararg:=none,kwonlyargs:=[],kw_defaults:=[],kwarg:=none,defaults:=[] }
def bj (s:Stmt):List Stmt:=match s with
 | .FunctionDef _ _ b _ _ _ _ _ _ _=>b
 | _=>[]
def ak (s:Stmt):Scope:=match s with
 | .FunctionDef _ _ _ _ _ _ sc _ _ _=>sc
 | _=>{ kind:=.function,names:=[],isGenerator:=false,isCoroutine:=false }
abbrev CX0:CXT:=λ_ _ _ _ _ _=>False
abbrev E0:XK:=λ_ _ _=>False
theorem nu {X:Cx}:pX CX0 X E0:=λ_ _ _ _ _ _ _ h=>h.elim
structure Fun (K:Frag) (x qual:Str) (st:Stmt) (f:Addr) (fd:FuncData):Prop where
 ex:∃(oc:Value) (od:Option Addr) (kV doc pm:Value) (an:Option Addr) (cdv ct:Value) (osl:Array (Option Value)),
  fd=fnOf x qual (f7 st) (bj st) (ak st) .none kV doc pm an cdv ct/\K.lookup f=some ⟨oc,od,.func fd,osl⟩/\codeIn K cdv qual=true
 kp:keepIn K (.ref f)=true
variable {x qual:Str} {st:Stmt} {f:Addr}
section
variable {P:Program} {w:World} {K:Frag} {mg:Str->Option Value} {base:Heap}
theorem Fun.ok {fd:FuncData} {N ps:List Str} {k:Nat} {sp:Sp} (F:Fun K x qual st f fd) (S:cA N ps (ak st)) (len:∀vs H Q E,sp vs H Q E->vs.length=ps.length)
  (hbody:∀(cdv:Value) (A:Around) (outer:List Env) (s:Shared) (H:Hp) (vs:List V) (Q:VK) (E:XK),Room k (A.deeper (envOfC qual (ak st) s.heap.objs.size f cdv))->sp vs H Q E ->
   ∃t,PSs (fh CX0 P w K mg base N qual (ak st) f cdv A outer s H E).nox (bj st) t/\t { nx:=λ_ H'=>Q .non H',rt:=Q } (start N vs) H):FnOk P w K mg base CX0 (k+1) f fd ps sp:=by
 obtain⟨oc,od,kV,doc,pm,an,cdv,ct,osl,rfl,lk,hcd⟩:=F.ex;refine Ce lk hcd S len λA outer s H vs Q E hr hsp=>?_;obtain⟨t,h,q⟩:=hbody cdv A outer s H vs Q E hr hsp;exact⟨t,h.nox,q⟩
theorem Fun.binds {fd:FuncData} {ps:List Str} (F:Fun K x qual st f fd)
  (h:∀(kV doc pm:Value) (an:Option Addr) (cdv ct:Value) (us:List Value),us.length=ps.length->bindArgs (fnOf x qual (f7 st) (bj st) (ak st) .none kV doc pm an cdv ct) ⟨us,[]⟩=pure (ps.zip us)):Binds K fd ps []:=by
 obtain⟨oc,od,kV,doc,pm,an,cdv,ct,osl,rfl,lk,hcd⟩:=F.ex;exact .all (h kV doc pm an cdv ct)
theorem yq {oc:Value} {od an:Option Addr} {osl:Array (Option Value)} {kV doc pm cdv ct:Value} (l:K.lookup f=some ⟨oc,od,.func (fnOf x qual (f7 st) (bj st) (ak st) .none kV doc pm an cdv ct),osl⟩)
  (c:codeIn K cdv qual=true) (k:keepIn K (.ref f)=true):Fun K x qual st f (fnOf x qual (f7 st) (bj st) (ak st) .none kV doc pm an cdv ct):=⟨⟨oc,od,kV,doc,pm,an,cdv,ct,osl,rfl,l,c⟩,k⟩
end
section
variable {X:Cx}
theorem pv (i:Nat) {pos:Pos} (hN:X.N[i]?=some x:=by rfl) (hv:Vis X.env.scope x:=by first|exact Or.inl rfl|exact Or.inr (Or.inl rfl)|exact Or.inr (Or.inr rfl)) (hd:(x==("__debug__":Str))=false:=by decide)
  (hcd:(x==("__classdict__":Str))=false:=by decide):PE X (.Name x pos) (c8 i):=DC hN hv hd hcd
end
theorem sV {A B:Prop} (h:B):if false=true then A else B:=by
 rw[if_neg ϙ];exact h
theorem sU {A B:Prop} (h:A):if true=true then A else B:=by
 rw[if_pos rfl];exact h
def Same (H H':Hp):Prop:=∀b o,H b=some o->H' b=some o
theorem Same.refl (H:Hp):Same H H:=λ_ _ h=>h
theorem Same.trans {H H1 H2:Hp} (a:Same H H1) (b:Same H1 H2):Same H H2:=λc o h=>b c o (a c o h)
theorem Same.seq {K:Frag} {H H':Hp} {a:Addr} {xs:List V} (e:Same H H') (h:SqL K H a xs):SqL K H' a xs:=by
 rcases h with(h|⟨o,h⟩)|h
 ·exact .inl (.inl (e _ _ h))
 ·exact .inl (.inr ⟨o,e _ _ h⟩)
 ·exact .inr h
end L2
set_option compiler.extract_closed false
set_option genSizeOf true
set_option genInjectivity true
set_option autoImplicit false
namespace DL
open PySem PySem.Spec PyProof.Rows L2
abbrev St:=L2.St
def exN (c:Nat):Str:=match c with
 | 0=>"NoHall"
 | 1=>"NoArrow"
 | 2=>"NoBox"
 | 3=>"NoPicture"
 | 4=>"NoReading"
 | 5=>"NoThing"
 | _=>"NoSending"
structure KeepBut (fs ch:List Addr) (h h':Heap):Prop where
 kp:∀b o,h.get? b=some o->b∉fs->b∉ch->h'.get? b=some o
 sl:∀b o,h.get? b=some o->b∈fs->b∉ch->∃sl,h'.get? b=some { o with slots:=sl }
 th:∀b o,h.get? b=some o->∃o',h'.get? b=some o'
theorem mn (f:Array Value->Array Value) (o:Obj):(Obj.mapFields f o).dict=o.dict:=by
 obtain⟨c,d,dt,sl⟩:=o;cases dt<;>rfl
structure fj (h:Heap) (e:Addr) (cls:Value) (ch:List Addr):Prop where
 mem:e∈ch
 at_:∃oe vs,h.get? e=some oe/\oe.cls=cls/\oe.dict=none/\oe.data=.fields vs/\1<vs.size/\(vs[1]?=some .none\/∃T oT ts fl,vs[1]?=some (.ref T)/\T≠e/\T∈ch/\h.get? T=some oT/\oT.data=.fields ts/\ts[3]?=some fl)
 thr:∀b∈ch,∃o vs,h.get? b=some o/\o.data=.fields vs
def Co (h:Heap) (e:Addr):Prop:=∃oe vs T,h.get? e=some oe/\oe.data=.fields vs/\vs[1]?=some (.ref T)
variable {ch:List Addr} {Q:Unit->Shared->Prop} {env:Env} {outer:List Env} {L:Addr}
section
variable {M:Model} {A:Around} {E:Value->Shared->Prop} {s:Shared}
theorem KeepBut.trans {fs:List Addr} {h1 h2 h3:Heap} (a:KeepBut fs ch h1 h2) (b:KeepBut fs ch h2 h3):KeepBut fs ch h1 h3:=by
 refine⟨λc o q nf nc=>b.kp c o (a.kp c o q nf nc) nf nc,λc o q nf nc=>?_,λc o q=>?_⟩
 ·obtain⟨sl,q2⟩:=a.sl c o q nf nc;obtain⟨sl',q3⟩:=b.sl c _ q2 nf nc;exact⟨sl',q3⟩
 ·obtain⟨o',q2⟩:=a.th c o q;exact b.th c o' q2
theorem lX {fs:List Addr} {e:Addr} {cls:Value} {fr:Option Addr} (x:fj s.heap e cls ch) (k:∀h',KeepBut fs ch s.heap h'->fj h' e cls ch->Q () { s with heap:=h' }):wpAny M A (setFlight (.ref e) fr) Q E s:=by
 obtain⟨hm,⟨oe,vs,he,hc,hdc,hd,hsz,h1⟩,thr⟩:=id x;unfold setFlight;rcases h1 with h1|⟨T,oT,ts,fl,h1,nT,mT,hT,dT,h3⟩
 ·refine wpAny_bind (wpAny_field he hd h1 ?_);rw[if_neg (by decide)];exact wpAny_pure (k s.heap ⟨λb o q _ _=>q,λb o q _ _=>⟨o.slots,q⟩,λb o q=>⟨o,q⟩⟩ x)
 ·refine wpAny_bind (wpAny_field he hd h1 ?_);rw[if_pos (show(Value.ref T != Value.none)=true from by simp)];refine wpAny_setField hT dT (Array.getElem?_eq_some_iff.mp h3).1 (k _ ?_ ?_)
  ·have no:∀b,b∉ch->T≠b:=λb nc z=>nc (z▸mT);refine⟨λb o q _ nc=>(ϯ _ _ (no b nc)).trans q,λb o q _ nc=>⟨o.slots,(ϯ _ _ (no b nc)).trans q⟩,λb o q=>?_⟩;by_cases hb:b=T
   ·subst hb;exact⟨_,ι _ hT (ζ (ε dT _))⟩
   ·exact⟨o,(ϯ _ _ (Ν hb)).trans q⟩
  ·have hT':=ι (Obj.mapFields (·.setIfInBounds 3 (fr.elim Value.none λf=>rawInt f))) hT (ζ (ε dT _));refine⟨hm,⟨oe,vs,(ϯ _ _ nT).trans he,hc,hdc,hd,hsz,.inr ⟨T,_,_,fr.elim Value.none λf=>rawInt f,h1,nT,mT,hT',ε dT _,?_⟩⟩,λb hb=>?_⟩
   ·have:=(Array.getElem?_eq_some_iff.mp h3).1;simp[this]
   ·by_cases hbT:b=T
    ·subst hbT;exact⟨_,_,hT',ε dT _⟩
    ·obtain⟨o,ws,q1,q2⟩:=thr b hb;exact⟨o,ws,(ϯ _ _ (Ν hbT)).trans q1,q2⟩
theorem u8 {base:Heap} {e:Addr} {oe:Obj} {vs:Array Value} {head:Value} {hadNext:Bool}
  (hfr:A.frames=some (env::outer)) (hl:s.heap.FunFrames base (env::outer)) (hf:env.frame=some L) (hm:e∈ch) (he:s.heap.get? e=some oe) (hdc:oe.dict=none) (hd:oe.data=.fields vs) (hsz:1<vs.size) (thr:∀b∈ch,∃o ws,s.heap.get? b=some o/\o.data=.fields ws)
  (k:∀h' T,KeepBut (frs (env::outer)) ch s.heap h'->s.heap.get? T=none->fj h' e oe.cls (T::ch)->Co h' e->Q () { s with heap:=h' }) :
  wpAny M A (do let a <- frameOf env;let pl <- entryPlaceOf L hadNext;let b <- EntryCells.newEntry head a .none (rawInt L) .none pl;setField (.ref e) 1 b) Q E s:=by
 have nofr:∀b∈ch,b∉frs (env::outer):=λb hb hm=>by
  obtain⟨o,ws,q1,q2⟩:=thr b hb;obtain⟨_,o',q3,q4⟩:=hl.mem hm;rw[q1]at q3;cases q3;exact q4 _ q2
 refine wpAny_bind (wpAny_frameOf_fun hfr hl hf λh1 hs=>?_);refine wpAny_bind (wpAny_entryPlaceOf λpl hpl=>?_);unfold EntryCells.newEntry newFields;refine wpAny_bind (wpAny_newObj_type ?_ (hpl.sizeOk5 _ _ _ _ _));have g1:∀b o,b∉frs (env::outer)->s.heap.get? b=some o->h1.get? b=some o:=λb o hb q=>(hs.2.1 b hb).trans q;have e1:=g1 e oe (nofr e hm) he;generalize hot:({ cls:=.type "traceback",dict:=none,data:=.fields ([head,.ref L,.none,rawInt L,.none]++(if pl.isEmpty then List.replicate 6 Value.none else pl)).toArray }:Obj)=ot;have e2:=ϒ ot e1;refine wpAny_setField e2 hd hsz ?_;have ne:h1.objs.size≠e:=Nat.ne_of_gt (ϔ e1);have d3:=ε hd (·.setIfInBounds 1 (Value.ref h1.objs.size));have e3:=ι (Obj.mapFields (·.setIfInBounds 1 (Value.ref h1.objs.size))) e2 (ζ d3);have dt:ot.data=.fields ([head,.ref L,.none,rawInt L,.none]++(if pl.isEmpty then List.replicate 6 Value.none else pl)).toArray:=by rw[<- hot]
 have nft:ot.isFreed=false:=ζ dt;have t3:((h1.push ot).update e (Obj.mapFields (·.setIfInBounds 1 (Value.ref h1.objs.size)))).get? h1.objs.size=some ot:=(ϯ _ _ ne.symm).trans (ϧ h1 nft);have at1:(vs.setIfInBounds 1 (Value.ref h1.objs.size))[1]?=some (.ref h1.objs.size):=by simp[hsz]
 refine k _ h1.objs.size ?_ ?_ ?_ ⟨_,_,_,e3,d3,at1⟩
 ·have stay:∀b o,b≠e->h1.get? b=some o->((h1.push ot).update e (Obj.mapFields (·.setIfInBounds 1 (Value.ref h1.objs.size)))).get? b=some o:=λb o nb q=>by
   rw[ϯ _ _ (Ν nb)];exact ϒ _ q
  refine⟨λb o q nf nc=>stay b o (λz=>nc (z▸hm)) (g1 b o nf q),λb o q _ nc=>?_,λb o q=>?_⟩
  ·obtain⟨sl,q2⟩:=hs.2.2 b o q;exact⟨sl,stay b _ (λz=>nc (z▸hm)) q2⟩
  ·by_cases hb:b=e
   ·subst hb;exact⟨_,e3⟩
   ·obtain⟨sl,q2⟩:=hs.2.2 b o q;exact⟨_,stay b _ hb q2⟩
 ·cases q:s.heap.get? h1.objs.size with
  | none=>rfl
  | some o =>
   obtain⟨sl,q2⟩:=hs.2.2 _ o q;exact absurd (ϔ q2) (Ϻ _)
 ·refine⟨ϑ _ hm,⟨_,_,e3,Obj.cls_mapFields _ _,(mn _ _).trans hdc,d3,by simpa using hsz,.inr ⟨h1.objs.size,_,_,rawInt L,at1,ne,ϛ,t3,dt,?_⟩⟩,λb hb=>?_⟩
  ·simp
  ·rcases Ϣ.mp hb with z|hb
   ·subst z;exact⟨_,_,t3,dt⟩
   ·by_cases hbe:b=e
    ·subst hbe;exact⟨_,_,e3,d3⟩
    ·obtain⟨o,ws,q1,q2⟩:=thr b hb;have q3:=g1 b o (nofr b hb) q1;refine⟨o,ws,?_,q2⟩;rw[ϯ _ _ (Ν hbe)];exact ϒ _ q3
theorem xX {base:Heap} {e:Addr} {cls:Value}
  (hfr:A.frames=some (env::outer)) (hl:s.heap.FunFrames base (env::outer)) (hf:env.frame=some L) (x:fj s.heap e cls ch)
  (k:∀h' ch',KeepBut (frs (env::outer)) ch s.heap h'->(∀b∈ch',b∈ch\/s.heap.get? b=none)->fj h' e cls ch'->Co h' e->Q () { s with heap:=h' }) :
  wpAny M A (noteFrame (.ref e) env) Q E s:=by
 obtain⟨hm,⟨oe,vs,he,hc,hdc,hd,hsz,h1⟩,thr⟩:=id x;subst hc;have new:∀(T:Addr),s.heap.get? T=none->∀b∈T::ch,b∈ch\/s.heap.get? b=none:=λT nT b hb=>by
  rcases Ϣ.mp hb with rfl|hb
  ·exact .inr nT
  ·exact .inl hb
 unfold noteFrame;simp only[hf];rcases h1 with h1|⟨T,oT,ts,fl,h1,nT,mT,hT,dT,h3⟩
 ·refine wpAny_bind (wpAny_field he hd h1 ?_);rw[if_neg (by decide)];exact u8 hfr hl hf hm he hdc hd hsz thr λh' T kb nT x' tb=>k h' (T::ch) kb (new T nT) x' tb
 ·refine wpAny_bind (wpAny_field he hd h1 ?_);rw[if_pos (show(Value.ref T != Value.none)=true from by simp)];refine wpAny_bind (wpAny_field hT dT h3 ?_);by_cases hfl:(fl==rawInt L)=true
  ·rw[if_pos hfl];exact wpAny_pure (k s.heap ch ⟨λb o q _ _=>q,λb o q _ _=>⟨o.slots,q⟩,λb o q=>⟨o,q⟩⟩ (λb hb=>.inl hb) x ⟨oe,vs,T,he,hd,h1⟩)
  ·rw[if_neg hfl];refine wpAny_bind (wpAny_setField hT dT (Array.getElem?_eq_some_iff.mp h3).1 ?_);have oth:∀b,b≠T->(s.heap.update T (Obj.mapFields (·.setIfInBounds 3 Value.none))).get? b=s.heap.get? b:=λb hb=>ϯ _ _ (Ν hb);have dT':=ε dT (·.setIfInBounds 3 Value.none);have hT':=ι (Obj.mapFields (·.setIfInBounds 3 Value.none)) hT (ζ dT');have kb:KeepBut (frs (env::outer)) ch s.heap (s.heap.update T (Obj.mapFields (·.setIfInBounds 3 Value.none))):=by
    refine⟨λb o q _ nc=>(oth b λz=>nc (z▸mT)).trans q,λb o q _ nc=>⟨o.slots,(oth b λz=>nc (z▸mT)).trans q⟩,λb o q=>?_⟩;by_cases hb:b=T
    ·subst hb;exact⟨_,hT'⟩
    ·exact⟨o,(oth b hb).trans q⟩
   refine u8 hfr (hl.of_keeps λb o hb hnf=>⟨o,(oth b λz=>?_).trans hb,rfl⟩) hf hm ((oth e (Ν nT)).trans he) hdc hd hsz (λb hb=>?_) λh' T' kb' nT' x' tb=>k h' (T'::ch) (kb.trans kb') (new T' ?_) x' tb
   ·subst z;rw[hT]at hb;cases hb;exact hnf _ dT
   ·by_cases hbT:b=T
    ·subst hbT;exact⟨_,_,hT',dT'⟩
    ·obtain⟨o,ws,q1,q2⟩:=thr b hb;exact⟨o,ws,(oth b hbT).trans q1,q2⟩
   ·cases q:s.heap.get? T' with
    | none=>rfl
    | some o=>obtain⟨o',q2⟩:=kb.th _ o q;rw[nT']at q2;cases q2
theorem KeepBut.wide {fs ch':List Addr} {h h' g:Heap} (k:KeepBut fs ch' h' g) (hn:∀b∈ch',b∈ch\/h.get? b=none) (k0:KeepBut fs ch h h'):KeepBut fs ch h g:=by
 have nn:∀b o,h.get? b=some o->b∉ch->b∉ch':=λb o q nc hb=>by
  rcases hn b hb with z|z
  ·exact nc z
  ·rw[q]at z;cases z
 refine⟨λb o q nf nc=>k.kp b o (k0.kp b o q nf nc) nf (nn b o q nc),λb o q nf nc=>?_,λb o q=>?_⟩
 ·obtain⟨sl,q2⟩:=k0.sl b o q nf nc;obtain⟨sl',q3⟩:=k.sl b _ q2 nf (nn b o q nc);exact⟨sl',q3⟩
 ·obtain⟨o',q2⟩:=k0.th b o q;exact k.th b o' q2
theorem nB {base:Heap} {e:Addr} {cls:Value}
  (hfr:A.frames=some (env::outer)) (hl:s.heap.FunFrames base (env::outer)) (hf:env.frame=some L) (x:fj s.heap e cls ch)
  (k:∀h' ch',KeepBut (frs (env::outer)) ch s.heap h'->(∀b∈ch',b∈ch\/s.heap.get? b=none)->fj h' e cls ch'->Q () { s with heap:=h' }) :
  wpAny M A (noteFrame (.ref e) env) (λ_ s'=>wpAny M A (setFlight (.ref e) none) Q E s') E s :=
 xX hfr hl hf x λh1 ch1 k1 n1 x1 _=>lX (fs:=frs (env::outer)) x1 λh2 k2 x2=>k h2 ch1 (k2.wide n1 k1) n1 x2
end
variable {X:Cx} {O:St} {H:Hp} {s:Shared}
theorem _root_.L2.Inv.frn {pins:List (Addr×Obj)} (I:Inv X pins O H s):∀b∈X.fs,H b=none:=λb hb=>by
 obtain⟨_,o,ho,_⟩:=I.ok.funs.mem hb;exact I.base.free b o ho (I.ok.frf b hb) λz=>I.ok.exfs b z hb
def ua (X:Cx) (pins:List (Addr×Obj)) (H:Hp) (b:Addr):Prop :=
 H b=none/\X.s₀.heap.get? b=none/\b≠X.env.locals/\b∉frs X.stack/\(∀x c,X.env.cells.lookup x=some c->c≠b)/\∀p∈X.pn++pins,p.1≠b
variable {o:HO}
section
variable {X:Cx} {pins:List (Addr×Obj)} {O:St} {H:Hp} {s:Shared} {h':Heap} {ch:List Addr}
theorem vY {P:Program} {w:World} {H:Hp} {h:Heap} (x:HOk P w H h) {a:Addr} (e:H a=some o):∃u,h.get? a=some u:=by
 have q:=x a o e;clear e
 induction o with
 | lst xs=>obtain⟨_,its,n,_,e1⟩:=q;exact⟨_,e1⟩
 | tup xs=>obtain⟨_,its,_,o,e1,_⟩:=q;exact⟨_,e1⟩
 | dK kvs=>obtain⟨_,_,vs,_,o,es,ep,e1,_⟩:=q;exact⟨_,e1⟩
 | dT kvs=>obtain⟨_,_,xs,_,o,es,ep,e1,_⟩:=q;exact⟨_,e1⟩
 | set S n=>obtain⟨o,es,ep,et,e1,_⟩:=q;exact⟨_,e1⟩
 | ins C dx fs=>obtain⟨_,_,_,e1,_⟩:=q;exact⟨_,e1⟩
 | own y=>exact q
 | xd fs=>obtain⟨mA,⟨o,es,ep,e1,_⟩,_⟩:=q;exact⟨_,e1⟩
 | rng lo hi=>obtain⟨t,u,v,e1⟩:=q;exact⟨_,e1⟩
 | frz ob u _=>exact⟨_,q.1⟩
 | tbl ps=>exact⟨_,q⟩
 | met f y=>exact⟨_,q⟩
 | ext φ=>exact q.2.1
theorem Inv.callX (I:Inv X pins O H s) (k:KeepBut (frs X.stack) ch s.heap h') (hch:∀b∈ch,ua X pins H b):Inv X pins O H { s with heap:=h' }:=by
 have neL:∀b o,X.s₀.heap.get? b=some o->b≠X.env.locals:=λb o e=>ϭ (Ϛ (ϔ e) I.ok.above);have nch:∀b o,X.s₀.heap.get? b=some o->b∉ch:=λb o e hb=>by rw[(hch b hb).2.1]at e;cases e
 have any:∀b o,s.heap.get? b=some o->b∉ch->∃sl,h'.get? b=some { o with slots:=sl }:=λb o q n=>by
  by_cases hb:b∈frs X.stack
  ·exact k.sl b o q hb n
  ·exact⟨o.slots,k.kp b o q hb n⟩
 have kept:∀b o,s.heap.get? b=some o->b≠X.env.locals->b∉X.fs->b∉ch->h'.get? b=some o:=λb o q n1 n2 n3=>k.kp b o q (λz=>(Ϣ.mp (I.stkSub b z)).elim n1 n2) n3;have nol:X.env.locals∉ch:=λz=>(hch _ z).2.2.1 rfl;have cel:∀x c,X.env.cells.lookup x=some c->∀v,s.heap.IsCell c v->h'.IsCell c v:=λx c e v zz1=>by
  obtain⟨o,ho,hd⟩:=zz1;obtain⟨sl,q⟩:=any c o ho λz=>(hch c z).2.2.2.2.1 x c e rfl;exact⟨_,q,hd⟩
 have trk:∀a o u,H a=some o->s.heap.get? a=some u->h'.get? a=some u:=λa o u e q=>by
  refine k.kp a u q (λz=>?_) λz=>by rw[(hch a z).1]at e;cases e
  rcases Ϣ.mp (I.stkSub a z)with z|z
  ·rw[z,I.free]at e;cases e
  ·rw[I.frn a z]at e;cases e
 refine⟨I.ok,I.os,I.bare,⟨λb o e n hb hx=>?_,λb o e n hb hx=>?_,I.base.free,λb o e hx=>?_,I.base.tups,I.base.frzs,I.base.tbls⟩,?_,λx c e=>?_,I.free,I.freeC,λp hp=>?_,λa o e=>?_,I.len⟩
 ·exact kept b o (I.base.keep b o e n hb hx) (neL b o e) hb (nch b o e)
 ·obtain⟨sl,q⟩:=I.base.slot b o e n hb hx;obtain⟨sl',q'⟩:=any b _ q (nch b o e);exact⟨sl',q'⟩
 ·obtain⟨o',q⟩:=I.base.there b o e hx;exact k.th b o' q
 ·obtain⟨m,⟨o,es,ep,ho,hd,r⟩,hl⟩:=I.loc;obtain⟨sl,q⟩:=any _ o ho nol;refine⟨m,⟨_,es,ep,q,hd,r⟩,λi x v h1 h2 h3=>?_⟩;obtain⟨u,ru,lk⟩:=hl i x v h1 h2 h3;refine⟨u,ru,?_⟩;rcases lk with lk|⟨kk,c,hc,ic⟩
  ·exact .inl lk
  ·exact .inr ⟨kk,c,hc,cel x c hc _ ic⟩
 ·obtain⟨v,q⟩:=I.cell x c e;exact⟨v,cel x c e v q⟩
 ·obtain⟨q1,q2,q3,q4,q5⟩:=I.pin p hp;exact⟨kept _ _ q1 q3 q4 λz=>(hch _ z).2.2.2.2.2 p hp rfl,q2,q3,q4,q5⟩
 ·refine(I.hok a o e).stay (λb u hb q=>?_) (λb q=>q) λb xs q=>q;rcases hb with rfl|hb
  ·exact trk _ _ _ e q
  ·exact trk _ _ _ hb q
end
inductive D where
 | non|bl (b:Bool)|int (i:Int)|lst (xs:List D)|tup (xs:List D)|ob (e r t:D)|scr (ns:List Int)|exn (c:Nat)
abbrev KA:=Int×Int×List Int
inductive OK where
 | s|l (k:OK)|p (j k:OK)
 deriving DecidableEq
inductive Slt where
 | shr (d:D)|own (xs:List D)|dic (kvs:List (KA×D))|tre (k:OK) (d:D)
abbrev Rho:=List (Option Slt)
structure RB where
 rho:Rho
 ad:Nat->List Addr
instance:Coe RB Rho:=⟨RB.rho⟩
inductive R (Y:Type) where
 | val (a:Y)|exc (c:Nat)|bad
def R.bind {Y β:Type}:R Y->(Y->R β)->R β
 | .val a,f=>f a
 | .exc c,_=>.exc c
 | .bad,_=>.bad
inductive Out where
 | nx (U:Rho)|rt (d:D)|bk (U:Rho)|ct (U:Rho)
def exP (K:Frag) (c:Nat) (a:Addr):Heap->Prop:=λh=>∃ox Cc,h.get? a=some ox/\ox.cls=.ref Cc/\ox.dict=none/\(∃vs,ox.data=.fields vs)/\nsIn K mainGlobals (exN c)=some (some (.ref Cc))
def GB (e r t:V):List (Str×V):=[("ends",e),("rests",r),("table",t)]
mutual
inductive Has (K:Frag) (C:Addr) (H:Hp):V->D->Prop where
 | non:Has K C H .non .non
 | bl (b:Bool):Has K C H (.bl b) (.bl b)
 | int (i:Int):Has K C H (.int i) (.int i)
 | lst {a:Addr} {vs:List V} {xs:List D}:H a=some (.lst vs)->HasL K C H vs xs->Has K C H (.ref a) (.lst xs)
 | tup {a:Addr} {vs:List V} {xs:List D}:H a=some (.tup vs)->HasL K C H vs xs->Has K C H (.ref a) (.tup xs)
 | scr {a:Addr} {ns:List Int}:SqL K H a (ns.map V.int)->Has K C H (.ref a) (.scr ns)
 | exn {a:Addr} {c:Nat}:H a=some (.ext (exP K c a))->Has K C H (.ref a) (.exn c)
 | ob {a dx:Addr} {ve vr vt:V} {e r t:D}:H a=some (.ins C dx (GB ve vr vt))->Has K C H ve e->Has K C H vr r->Has K C H vt t->Has K C H (.ref a) (.ob e r t)
inductive HasL (K:Frag) (C:Addr) (H:Hp):List V->List D->Prop where
 | nil:HasL K C H [] []
 | cons {v:V} {d:D} {vs:List V} {ds:List D}:Has K C H v d->HasL K C H vs ds->HasL K C H (v::vs) (d::ds)
end
section
variable {K:Frag} {C:Addr} {H H':Hp}
mutual
theorem Has.mono (s:Same H H'):∀{v:V} {d:D},Has K C H v d->Has K C H' v d
 | _,_,.non=>.non
 | _,_,.bl b=>.bl b
 | _,_,.int i=>.int i
 | _,_,.lst q h=>.lst (s _ _ q) (HasL.mono s h)
 | _,_,.tup q h=>.tup (s _ _ q) (HasL.mono s h)
 | _,_,.scr q=>.scr (s.seq q)
 | _,_,.exn q=>.exn (s _ _ q)
 | _,_,.ob q a b c=>.ob (s _ _ q) (Has.mono s a) (Has.mono s b) (Has.mono s c)
theorem HasL.mono (s:Same H H'):∀{vs:List V} {ds:List D},HasL K C H vs ds->HasL K C H' vs ds
 | _,_,.nil=>.nil
 | _,_,.cons a b=>.cons (Has.mono s a) (HasL.mono s b)
end
theorem HasL.len:∀{vs:List V} {ds:List D},HasL K C H vs ds->vs.length=ds.length
 | _,_,.nil=>rfl
 | _,_,.cons _ b=>by simp[HasL.len b]
theorem HasL.app:∀{vs:List V} {ds:List D} {ws:List V} {es:List D},HasL K C H vs ds->HasL K C H ws es->HasL K C H (vs++ws) (ds++es)
 | _,_,_,_,.nil,h=>h
 | _,_,_,_,.cons a b,h=>.cons a (HasL.app b h)
theorem HasL.get:∀{vs:List V} {ds:List D} {i:Nat} {d:D},HasL K C H vs ds->ds[i]?=some d->∃v,vs[i]?=some v/\Has K C H v d
 | _,_,_,_,.nil,e=>by simp at e
 | _,_,0,_,.cons a _,e=>by simp at e;subst e;exact⟨_,rfl,a⟩
 | _,_,i+1,d,.cons _ b,e=>by
  obtain⟨v,h1,h2⟩:=HasL.get (i:=i) (d:=d) b (by simpa using e);exact⟨v,by simpa using h1,h2⟩
theorem HasL.get':∀{vs:List V} {ds:List D} {i:Nat} {v:V},HasL K C H vs ds->vs[i]?=some v->∃d,ds[i]?=some d/\Has K C H v d
 | _,_,_,_,.nil,e=>by simp at e
 | _,_,0,_,.cons a _,e=>by simp at e;subst e;exact⟨_,rfl,a⟩
 | _,_,i+1,v,.cons _ b,e=>by
  obtain⟨d,h1,h2⟩:=HasL.get' (i:=i) (v:=v) b (by simpa using e);exact⟨d,by simpa using h1,h2⟩
theorem HasL.drop:∀{vs:List V} {ds:List D} (n:Nat),HasL K C H vs ds->HasL K C H (vs.drop n) (ds.drop n)
 | _,_,0,h=>h
 | _,_,_+1,.nil=>.nil
 | _,_,n+1,.cons _ b=>HasL.drop n b
theorem HasL.take:∀{vs:List V} {ds:List D} (n:Nat),HasL K C H vs ds->HasL K C H (vs.take n) (ds.take n)
 | _,_,0,_=>.nil
 | _,_,_+1,.nil=>.nil
 | _,_,n+1,.cons a b=>.cons a (HasL.take n b)
theorem HasL.ints:∀ns:List Int,HasL K C H (ns.map V.int) (ns.map D.int)
 | []=>.nil
 | n::ns=>.cons (.int n) (HasL.ints ns)
end
def yi:Slt->Bool
 | .shr _=>false
 | _=>true
def Own (U:RB) (O:St) (b:Addr):Prop:=∃i:Nat,b∈U.ad i
open Classical in
def msk (U:RB) (O:St) (H:Hp):Hp:=λb=>if Own U O b then none else H b
section
variable {U:RB} {O:St} {H H':Hp} {b:Addr} {o:HO}
theorem msk_some:msk U O H b=some o↔¬ Own U O b/\H b=some o:=by
 unfold msk;by_cases h:Own U O b
 ·rw[if_pos h];exact⟨λe=>(by cases e),λe=>absurd h e.1⟩
 ·rw[if_neg h];exact⟨λe=>⟨h,e⟩,λe=>e.2⟩
theorem msk_sub:Same (msk U O H) H:=λb o e=>(msk_some.mp e).2
theorem az (s:Same H H'):Same (msk U O H) (msk U O H'):=λb o e=>msk_some.mpr ⟨(msk_some.mp e).1,s _ _ (msk_some.mp e).2⟩
end
def kX (k:KA):Int:=reduceHash (Builtin.Tuple.tupleHashOf [hashInt k.1,hashInt k.2.1,reduceHash (Builtin.Tuple.tupleHashOf (k.2.2.map hashInt))])
def HG (x:KA×Addr×Value):DictEntry:=⟨kX x.1,.ref x.2.1,x.2.2⟩
def dOk (a:Addr) (xs:List (KA×Addr×Value)) (h:Heap):Prop:=(a==sysModules)=false/\xs.length<=100001/\∃o es ep,h.get? a=some o/\o.ExactDict/\o.data=.dict es ep/\es.toList=xs.map HG
def jw (a:Addr) (xs:List (KA×Addr×Value)):HO:=.ext (dOk a xs)
def KeyIn (M:Hp) (k:KA) (a:Addr):Prop:=∃ta,M a=some (.tup [.int k.1,.int k.2.1,.ref ta])/\M ta=some (.tup (k.2.2.map V.int))
def EntOk (K:Frag) (C:Addr) (M:Hp) (p:KA×D) (q:KA×Addr×Value):Prop:=p.1=q.1/\KeyIn M p.1 q.2.1/\∃v,RelV v q.2.2/\Has K C M v p.2
structure DicAt (K:Frag) (C:Addr) (M H:Hp) (a:Addr) (kvs:List (KA×D)):Prop where
 ex:∃xs,H a=some (jw a xs)/\(xs.map (·.1)).Nodup/\Paired (EntOk K C M) kvs xs
variable {M M':Hp}
theorem KeyIn.mono {k:KA} {a:Addr} (m:Same M M') (h:KeyIn M k a):KeyIn M' k a:=by
 obtain⟨ta,h1,h2⟩:=h;exact⟨ta,m _ _ h1,m _ _ h2⟩
variable {K:Frag} {C:Addr}
theorem EntOk.mono {p:KA×D} {q:KA×Addr×Value} (m:Same M M') (h:EntOk K C M p q):EntOk K C M' p q:=by
 obtain⟨h1,h2,v,h3,h4⟩:=h;exact⟨h1,h2.mono m,v,h3,h4.mono m⟩
variable {H':Hp}
theorem DicAt.mono {a:Addr} {kvs:List (KA×D)} (e:∀o,H a=some o->H' a=some o) (m:Same M M') (h:DicAt K C M H a kvs):DicAt K C M' H' a kvs:=by
 obtain⟨xs,h1,h2,h3⟩:=h.ex;exact⟨xs,e _ h1,h2,Paired.mapP h3 λp q z=>z.mono m⟩
mutual
inductive Tre (K:Frag) (C:Addr) (M H:Hp):OK->V->D->List Addr->Prop where
 | s {v:V} {d:D}:Has K C M v d->Tre K C M H .s v d []
 | l {k:OK} {a:Addr} {vs:List V} {xs:List D} {A:List Addr}:H a=some (.lst vs)->TreP K C M H (vs.map λ_=>k) vs xs A->a∉A->Tre K C M H (.l k) (.ref a) (.lst xs) (a::A)
 | p {j k:OK} {a:Addr} {vs:List V} {xs:List D} {A:List Addr}:H a=some (.tup vs)->TreP K C M H [j,k] vs xs A->Tre K C M H (.p j k) (.ref a) (.tup xs) A
inductive TreP (K:Frag) (C:Addr) (M H:Hp):List OK->List V->List D->List Addr->Prop where
 | nil:TreP K C M H [] [] [] []
 | cons {k:OK} {ks:List OK} {v:V} {vs:List V} {d:D} {ds:List D} {A B:List Addr}:Tre K C M H k v d A->TreP K C M H ks vs ds B->(∀a∈A,a∉B)->TreP K C M H (k::ks) (v::vs) (d::ds) (A++B)
end
structure Stay (A:List Addr) (H H':Hp):Prop where
 at_:∀a∈A,∀o,H a=some o->H' a=some o
 tup:∀a vs,H a=some (.tup vs)->H' a=some (.tup vs)
variable {A:List Addr}
section
variable {K:Frag} {C:Addr} {H H' M M':Hp}
theorem Stay.of (s:Same H H'):Stay A H H':=⟨λa _ o e=>s a o e,λa vs e=>s a _ e⟩
theorem Stay.sub {B:List Addr} (h:Stay A H H') (hs:∀a∈B,a∈A):Stay B H H':=⟨λa ha=>h.at_ a (hs a ha),h.tup⟩
mutual
theorem Tre.stay (m:Same M M'):∀{k:OK} {v:V} {d:D} {A:List Addr},Stay A H H'->Tre K C M H k v d A->Tre K C M' H' k v d A
 | _,_,_,_,_,.s h=>.s (h.mono m)
 | _,_,_,_,y,.l e h n=>.l (y.at_ _ ϛ _ e) (TreP.stay m (y.sub λ_ ha=>ϑ _ ha) h) n
 | _,_,_,_,y,.p e h=>.p (y.tup _ _ e) (TreP.stay m y h)
theorem TreP.stay (m:Same M M'):∀{ks:List OK} {vs:List V} {ds:List D} {A:List Addr},Stay A H H'->TreP K C M H ks vs ds A->TreP K C M' H' ks vs ds A
 | _,_,_,_,_,.nil=>.nil
 | _,_,_,_,y,.cons h t n=>.cons (Tre.stay m (y.sub λ_ ha=>ϟ _ ha) h) (TreP.stay m (y.sub λ_ ha=>ϐ _ ha) t) n
end
mutual
theorem Tre.has (m:Same M H):∀{k:OK} {v:V} {d:D} {A:List Addr},Tre K C M H k v d A->Has K C H v d
 | _,_,_,_,.s h=>h.mono m
 | _,_,_,_,.l e h _=>.lst e (TreP.has m h)
 | _,_,_,_,.p e h=>.tup e (TreP.has m h)
theorem TreP.has (m:Same M H):∀{ks:List OK} {vs:List V} {ds:List D} {A:List Addr},TreP K C M H ks vs ds A->HasL K C H vs ds
 | _,_,_,_,.nil=>.nil
 | _,_,_,_,.cons h t _=>.cons (Tre.has m h) (TreP.has m t)
end
mutual
theorem Tre.lists:∀{k:OK} {v:V} {d:D} {A:List Addr},Tre K C M H k v d A->∀a∈A,∃vs,H a=some (.lst vs)
 | _,_,_,_,.s _,a,ha=>by cases ha
 | _,_,_,_,.l e h _,a,ha=>by
  rcases Ϣ.mp ha with rfl|ha
  ·exact⟨_,e⟩
  ·exact TreP.lists h a ha
 | _,_,_,_,.p _ h,a,ha=>TreP.lists h a ha
theorem TreP.lists:∀{ks:List OK} {vs:List V} {ds:List D} {A:List Addr},TreP K C M H ks vs ds A->∀a∈A,∃vs,H a=some (.lst vs)
 | _,_,_,_,.nil,a,ha=>by cases ha
 | _,_,_,_,.cons h t _,a,ha=>by
  rcases Ϩ.mp ha with ha|ha
  ·exact Tre.lists h a ha
  ·exact TreP.lists t a ha
end
theorem TreP.len:∀{ks:List OK} {vs:List V} {ds:List D} {A:List Addr},TreP K C M H ks vs ds A->vs.length=ds.length/\ks.length=ds.length
 | _,_,_,_,.nil=>⟨rfl,rfl⟩
 | _,_,_,_,.cons _ t _=>⟨congrArg Nat.succ t.len.1,congrArg Nat.succ t.len.2⟩
theorem TreP.of:∀{vs:List V} {ds:List D},HasL K C M vs ds->TreP K C M H (vs.map λ_=>.s) vs ds []
 | _,_,.nil=>.nil
 | _,_,.cons h t=>.cons (A:=[]) (B:=[]) (.s h) (TreP.of t) λ_ ha=>by cases ha
theorem TreP.flat:∀{vs us:List V} {ds:List D} {A:List Addr},TreP K C M H (us.map λ_=>OK.s) vs ds A->A=[]/\HasL K C M vs ds
 | [],us,_,_,h=>by cases us with
  | nil=>cases h;exact⟨rfl,.nil⟩
  | cons _ _=>cases h
 | v::vs,us,_,_,h=>by cases us with
  | nil=>cases h
  | cons _ us=>cases h with
   | cons h t _=>cases h with
    | s h=>obtain⟨e,t'⟩:=TreP.flat t;subst e;exact⟨rfl,.cons h t'⟩
end
def SlotOk (K:Frag) (C:Addr) (M H:Hp) (A:List Addr):Slt->Option (Option V)->Prop
 | .shr d,o=>∃v,o=some (some v)/\Has K C M v d
 | .own xs,o=>∃a vs,o=some (some (.ref a))/\a∈A/\H a=some (.lst vs)/\HasL K C M vs xs
 | .dic kvs,o=>∃a,o=some (some (.ref a))/\a∈A/\DicAt K C M H a kvs
 | .tre k d,o=>∃v B,o=some (some v)/\(∀a∈B,a∈A)/\Tre K C M H k v d B
structure Rel (K:Frag) (C:Addr) (H0:Hp) (U:RB) (O:St) (H:Hp):Prop where
 len:U.rho.length=O.length
 keep:Same H0 (msk U O H)
 at_:∀(i:Nat) sl,U.rho[i]?=some (some sl)->SlotOk K C (msk U O H) H (U.ad i) sl O[i]?
 inj:∀(i j:Nat) a,a∈U.ad i->a∈U.ad j->i=j
 kin:∀(i:Nat) a,a∈U.ad i->(∃vs,H a=some (.lst vs))\/∃xs,H a=some (jw a xs)
 bnd:∀(i:Nat) a,a∈U.ad i->i<U.rho.length
def tR (K:Frag) (C:Addr) (H0:Hp) (U:Rho) (O:St) (H:Hp):Prop:=∃β:RB,β.rho=U/\Rel K C H0 β O H
def RB.put (U:RB) (i:Nat) (sl:Slt) (A:List Addr):RB:=⟨U.rho.set i (some sl),λj=>if j=i then(if i<U.rho.length then A else[])else U.ad j⟩
variable {vs:List V} {sl:Slt} {i j:Nat} {σ':St} {Y:Type} {v:V} {d:D} {xs:List D}
section
variable {K:Frag} {C:Addr} {H0 H H' M M':Hp} {U:RB} {O:St}
theorem SlotOk.stay {o:Option (Option V)} (y:Stay A H H') (m:Same M M') (h:SlotOk K C M H A sl o):SlotOk K C M' H' A sl o:=by
 cases sl with
 | shr d=>obtain⟨v,e,h⟩:=h;exact⟨v,e,h.mono m⟩
 | own xs=>obtain⟨a,vs,e,n,q,h⟩:=h;exact⟨a,vs,e,n,y.at_ _ n _ q,h.mono m⟩
 | dic kvs=>obtain⟨a,e,n,h⟩:=h;exact⟨a,e,n,h.mono (λo q=>y.at_ _ n _ q) m⟩
 | tre k d=>obtain⟨v,B,e,n,h⟩:=h;exact⟨v,B,e,n,h.stay m (y.sub n)⟩
theorem SlotOk.mono {o:Option (Option V)} (s:Same H H') (m:Same M M') (h:SlotOk K C M H A sl o):SlotOk K C M' H' A sl o:=h.stay (.of s) m
theorem Rel.mono (r:Rel K C H0 U O H) (s:Same H H'):Rel K C H0 U O H' :=
 ⟨r.len,r.keep.trans (az s),λi sl e=>(r.at_ i sl e).mono s (az s),r.inj,λi a h=>(r.kin i a h).imp (λ⟨vs,e⟩=>⟨vs,s _ _ e⟩) λ⟨xs,e⟩=>⟨xs,s _ _ e⟩,r.bnd⟩
theorem Rel.rebase (r:Rel K C H0 U O H):Rel K C (msk U O H) U O H:=⟨r.len,Same.refl _,r.at_,r.inj,r.kin,r.bnd⟩
theorem Rel.base {H1:Hp} (r:Rel K C H0 U O H) (s:Same H1 H0):Rel K C H1 U O H:=⟨r.len,s.trans r.keep,r.at_,r.inj,r.kin,r.bnd⟩
theorem Rel.ownAt (r:Rel K C H0 U O H) {b:Addr} (h:Own U O b):H b≠none:=by
 obtain⟨i,h⟩:=h;rcases r.kin i b h with⟨vs,e⟩|⟨xs,e⟩<;>(rw[e];exact λz=>by cases z)
theorem Rel.new (r:Rel K C H0 U O H) {p:Addr} (h:H p=none):msk U O (upd H p o) p=some o :=
 msk_some.mpr ⟨λz=>r.ownAt z h,ax⟩
theorem aq {p:Addr} (h:H p=none):Same H (upd H p o):=λb u e=>by
 rw[am (aD e h)];exact e
theorem dU {a:Addr} (h:a∈(U.put i sl A).ad j):(j=i/\i<U.rho.length/\a∈A)\/(j≠i/\a∈U.ad j):=by
 unfold RB.put at h;dsimp only at h;split at h
 ·rename_i e;split at h
  ·exact .inl ⟨e,‹_›,h⟩
  ·cases h
 ·exact .inr ⟨‹_›,h⟩
theorem Dq {sl':Slt} (h:(U.put i sl A).rho[j]?=some (some sl')):(j=i/\i<U.rho.length/\sl'=sl)\/(j≠i/\U.rho[j]?=some (some sl')):=by
 unfold RB.put at h;dsimp only at h;by_cases e:i=j
 ·subst e;rw[Χ]at h;simp only[if_true]at h;split at h
  ·cases h;exact .inl ⟨rfl,‹_›,rfl⟩
  ·cases h
 ·rw[ϖ e]at h;exact .inr ⟨λz=>e z.symm,h⟩
theorem Dp {a:Addr} (hi:i<U.rho.length):(U.put i sl A).ad i=A:=by
 unfold RB.put;dsimp only;rw[if_pos rfl,if_pos hi]
theorem kP (h:j≠i):(U.put i sl A).ad j=U.ad j:=by
 unfold RB.put;dsimp only;rw[if_neg h]
theorem Rel.put (r:Rel K C H0 U O H) (hl:σ'.length=O.length) (ho:∀j:Nat,j≠i->σ'[j]?=O[j]?)
  (fr:∀a∈A,a∈U.ad i\/H a=none) (st:∀j:Nat,j≠i->Stay (U.ad j) H H') (ks:∀b o,msk U O H b=some o->H' b=some o) (kA:∀a∈A,(∃vs,H' a=some (.lst vs))\/∃xs,H' a=some (jw a xs))
  (h:i<U.rho.length->Same (msk U O H) (msk (U.put i sl A) σ' H')->SlotOk K C (msk (U.put i sl A) σ' H') H' A sl σ'[i]?):Rel K C H0 (U.put i sl A) σ' H':=by
 have own:∀b,Own (U.put i sl A) σ' b->Own U O b\/H b=none:=λb z=>by
  obtain⟨j,z⟩:=z;rcases dU z with⟨_,_,z⟩|⟨_,z⟩
  ·rcases fr b z with z|z
   ·exact .inl ⟨i,z⟩
   ·exact .inr z
  ·exact .inl ⟨j,z⟩
 have sub:Same (msk U O H) (msk (U.put i sl A) σ' H'):=λb o e=>by
  obtain⟨h1,h2⟩:=msk_some.mp e;refine msk_some.mpr ⟨λz=>?_,ks b o e⟩;rcases own b z with z|z
  ·exact h1 z
  ·rw[z]at h2;cases h2
 have kin':∀(j:Nat) a,j≠i->a∈U.ad j->(∃vs,H' a=some (.lst vs))\/∃xs,H' a=some (jw a xs):=λj a hj ha=>(r.kin j a ha).imp (λ⟨vs,e⟩=>⟨vs,(st j hj).at_ a ha _ e⟩) λ⟨xs,e⟩=>⟨xs,(st j hj).at_ a ha _ e⟩;refine⟨?_,r.keep.trans sub,λj sl' e=>?_,λj k a x y=>?_,λj a x=>?_,λj a x=>?_⟩
 ·show(U.rho.set i (some sl)).length=_;rw[ϰ,hl];exact r.len
 ·rcases Dq e with⟨rfl,hi,rfl⟩|⟨hj,e⟩
  ·rw[Dp (a:=0) hi];exact h hi sub
  ·rw[kP hj,ho j hj];exact(r.at_ j sl' e).stay (st j hj) sub
 ·rcases dU x with⟨rfl,_,x⟩|⟨hj,x⟩
  ·rcases dU y with⟨rfl,_,_⟩|⟨hk,y⟩
   ·rfl
   ·rcases fr a x with x|x
    ·exact r.inj _ _ a x y
    ·exact absurd x (r.ownAt ⟨k,y⟩)
  ·have x':=x;rcases dU y with⟨rfl,_,y⟩|⟨hk,y⟩
   ·rcases fr a y with y|y
    ·exact r.inj _ _ a x' y
    ·exact absurd y (r.ownAt ⟨j,x'⟩)
   ·exact r.inj _ _ a x' y
 ·rcases dU x with⟨_,_,x⟩|⟨hj,x⟩
  ·exact kA a x
  ·exact kin' j a hj x
 ·show j<(U.rho.set i (some sl)).length;rw[ϰ];rcases dU x with⟨rfl,hi,_⟩|⟨_,x⟩
  ·exact hi
  ·exact r.bnd j a x
theorem Rel.e (r:Rel K C H0 U O H):tR K C H0 U.rho O H:=⟨U,rfl,r⟩
theorem kN {l:List Y} {a:Y}:(l.set i a).length=l.length:=ϰ
theorem oy {O:St} (h:i<O.length):(O.set i (some v))[i]?=some (some v):=by
 rw[Χ];simp[h]
theorem Rel.setShr (r:Rel K C H0 U O H) (h:Has K C (msk U O H) v d):Rel K C H0 (U.put i (.shr d) []) (O.set i (some v)) H :=
 r.put kN (λj hj=>ϖ λz=>hj z.symm) (λa ha=>by cases ha) (λj _=>.of (Same.refl _)) (λb o e=>(msk_some.mp e).2) (λa ha=>by cases ha) λhi s=>⟨v,oy (by rw[<- r.len];exact hi),h.mono s⟩
theorem Rel.setOwn (r:Rel K C H0 U O H) {a:Addr} (hn:H a=none) (h:HasL K C (msk U O H) vs xs):Rel K C H0 (U.put i (.own xs) [a]) (O.set i (some (.ref a))) (upd H a (.lst vs)) :=
 r.put kN (λj hj=>ϖ λz=>hj z.symm) (λb hb=>.inr (by cases ϓ.mp hb;exact hn)) (λj _=>.of (aq hn)) (λb o e=>aq hn b o (msk_some.mp e).2)
  (λb hb=>.inl (by cases ϓ.mp hb;exact⟨vs,ax⟩)) λhi s=>⟨a,vs,oy (by rw[<- r.len];exact hi),ϓ.mpr rfl,ax,h.mono s⟩
theorem Rel.apart (r:Rel K C H0 U O H) {a:Addr} (ha:a∈U.ad i) (hj:j≠i):Stay (U.ad j) H (upd H a o):=by
 refine⟨λb hb u e=>?_,λb vs e=>?_⟩
 ·rw[am λ(z:b=a)=>hj (r.inj j i b hb (z▸ha))];exact e
 ·have:b≠a:=λz=>by
   subst z;rcases r.kin i b ha with⟨us,e'⟩|⟨xs,e'⟩<;>(rw[e]at e';cases e')
  rw[am this];exact e
theorem Rel.shown (r:Rel K C H0 U O H) {a:Addr} (ha:a∈U.ad i):∀b u,msk U O H b=some u->upd H a o b=some u:=λb u e=>by
 obtain⟨h1,h2⟩:=msk_some.mp e;rw[am λ(z:b=a)=>h1 ⟨i,z▸ha⟩];exact h2
theorem Rel.write (r:Rel K C H0 U O H) {a:Addr} {ys:List D} {ws:List V} (e:U.rho[i]?=some (some (.own xs))) (q:O[i]?=some (some (.ref a))) (h:HasL K C (msk U O H) ws ys) :
  Rel K C H0 (U.put i (.own ys) [a]) O (upd H a (.lst ws)):=by
 obtain⟨b,vs,e1,ha,_,_⟩:=r.at_ i _ e;rw[q]at e1;cases e1;exact r.put rfl (λj _=>rfl) (λb hb=>.inl (by cases ϓ.mp hb;exact ha)) (λj hj=>r.apart ha hj) (r.shown ha) (λb hb=>.inl (by cases ϓ.mp hb;exact⟨ws,ax⟩))
  λhi s=>⟨a,ws,q,ϓ.mpr rfl,ax,h.mono s⟩
theorem Rel.freeze (r:Rel K C H0 U O H) (e:U.rho[i]?=some (some (.own xs))):Rel K C H0 (U.put i (.shr (.lst xs)) []) O H:=by
 obtain⟨a,vs,q,ha,h1,h2⟩:=r.at_ i _ e;refine r.put rfl (λj _=>rfl) (λb hb=>by cases hb) (λj _=>.of (Same.refl _)) (λb o z=>(msk_some.mp z).2) (λb hb=>by cases hb) λhi s=>⟨_,q,.lst (msk_some.mpr ⟨λz=>?_,h1⟩) (h2.mono s)⟩;obtain⟨j,z⟩:=z;rcases dU z with⟨_,_,z⟩|⟨hj,z⟩
 ·cases z
 ·exact hj (r.inj j i a z ha)
mutual
theorem Tre.share (s:Same M M'):∀{k:OK} {v:V} {d:D} {A:List Addr},Tre K C M H k v d A->(∀a∈A,∀o,H a=some o->M' a=some o)->(∀a vs,H a=some (.tup vs)->M' a=some (.tup vs))->Has K C M' v d
 | _,_,_,_,.s h,_,_=>h.mono s
 | _,_,_,_,.l e h _,f,t=>.lst (f _ ϛ _ e) (TreP.share s h (λa ha=>f a (ϑ _ ha)) t)
 | _,_,_,_,.p e h,f,t=>.tup (t _ _ e) (TreP.share s h f t)
theorem TreP.share (s:Same M M'):∀{ks:List OK} {vs:List V} {ds:List D} {A:List Addr},TreP K C M H ks vs ds A->(∀a∈A,∀o,H a=some o->M' a=some o)->(∀a vs,H a=some (.tup vs)->M' a=some (.tup vs))->HasL K C M' vs ds
 | _,_,_,_,.nil,_,_=>.nil
 | _,_,_,_,.cons h t _,f,u=>.cons (Tre.share s h (λa ha=>f a (ϟ _ ha)) u) (TreP.share s t (λa ha=>f a (ϐ _ ha)) u)
end
theorem Rel.tups (r:Rel K C H0 U O H) {a:Addr} (e:H a=some (.tup vs)):¬ Own U O a:=λ⟨i,h⟩=>by
 rcases r.kin i a h with⟨us,e'⟩|⟨xs,e'⟩<;>(rw[e]at e';cases e')
theorem Rel.thaw (r:Rel K C H0 U O H) {k:OK} (e:U.rho[i]?=some (some (.tre k d))):Rel K C H0 (U.put i (.shr d) []) O H:=by
 obtain⟨v,A,q,hA,h⟩:=r.at_ i _ e;have own:∀b,Own (U.put i (.shr d) []) O b->Own U O b/\b∉U.ad i:=λb z=>by
  obtain⟨j,z⟩:=z;rcases dU z with⟨_,_,z⟩|⟨hj,z⟩
  ·cases z
  ·exact⟨⟨j,z⟩,λy=>hj (r.inj j i b z y)⟩
 refine r.put rfl (λj _=>rfl) (λb hb=>by cases hb) (λj _=>.of (Same.refl _)) (λb o z=>(msk_some.mp z).2) (λb hb=>by cases hb) λhi s=>⟨_,q,h.share s (λa ha o e=>?_) λa vs e=>?_⟩
 ·exact msk_some.mpr ⟨λz=>(own a z).2 (hA a ha),e⟩
 ·exact msk_some.mpr ⟨λz=>r.tups e (own a z).1,e⟩
end
def Fly (X:Cx) (pins:List (Addr×Obj)) (c:Nat) (H:Hp) (e:Value) (s:Shared):Prop:=∃ea Cc ch,e=.ref ea/\X.mg (exN c)=some (.ref Cc)/\fj s.heap ea (.ref Cc) ch/\∀b∈ch,ua X pins H b
def XE (X:Cx) (c:Nat) (O:St) (H:Hp):Prop:=∀pins H' e s',Inv X pins O H' s'->Same H H'->Fly X pins c H' e s'->X.xe e s'
def XS (X:Cx) (c:Nat) (H0:Hp):Prop:=∀pins σ' H' e s',Inv X pins σ' H' s'->Same H0 H'->Fly X pins c H' e s'->X.xe e s'
variable {c:Nat}
theorem XE.mono (s:Same H H') (h:XE X c O H):XE X c O H':=λpins H2 e s' I s2 f=>h pins H2 e s' I (s.trans s2) f
theorem XS.mono (s:Same H H') (h:XS X c H):XS X c H':=λpins O H2 e s' I s2 f=>h pins O H2 e s' I (s.trans s2) f
theorem XS.xe (s:Same H H') (h:XS X c H):XE X c O H':=λpins H2 e s' I s2 f=>h pins O H2 e s' I (s.trans s2) f
inductive Brw (K:Frag) (C:Addr) (M H:Hp):V->D->Prop where
 | cl {v:V} {d:D}:Has K C M v d->Brw K C M H v d
 | own {a:Addr} {vs:List V} {xs:List D}:H a=some (.lst vs)->HasL K C M vs xs->Brw K C M H (.ref a) (.lst xs)
theorem Brw.mono (m:Same M M') (s:Same H H') (h:Brw K C M H v d):Brw K C M' H' v d:=by
 cases h with
 | cl h=>exact .cl (h.mono m)
 | own e h=>exact .own (s _ _ e) (h.mono m)
section
variable (C:Addr) (X:Cx)
abbrev b_ (H0:Hp) (U:RB) (O:St) (H:Hp):Prop:=Rel X.K C H0 U O H
abbrev iq (H0:Hp) (U:Rho) (O:St) (H:Hp):Prop:=tR X.K C H0 U O H
abbrev bS (U:RB) (O:St) (H:Hp) (v:V) (d:D):Prop:=Has X.K C (msk U O H) v d
abbrev eW (U:RB) (O:St) (H:Hp) (v:List V) (d:List D):Prop:=HasL X.K C (msk U O H) v d
abbrev Fi (U:RB) (O:St) (H:Hp) (v:V) (d:D):Prop:=Brw X.K C (msk U O H) H v d
def pV (Rl:Hp->V->D->Prop) (r:R D) (O:St) (H:Hp) (Q:VK):Prop:=match r with
 | .val d=>∀v H',Same H H'->Rl H' v d->Q v H'
 | .exc c=>XE X c O H
 | .bad=>False
def pB (r:R Bool) (O:St) (H:Hp) (Q:Bool->Hp->Prop):Prop:=match r with
 | .val b=>∀H',Same H H'->Q b H'
 | .exc c=>XE X c O H
 | .bad=>False
def pL (Rl:Hp->List V->List D->Prop) (r:R (List D)) (O:St) (H:Hp) (Q:List V->Hp->Prop):Prop:=match r with
 | .val d=>∀v H',Same H H'->Rl H' v d->Q v H'
 | .exc c=>XE X c O H
 | .bad=>False
def teC (F:Rho->R D):TE:=λO H Q=>∃U:RB,(∃H0,b_ C X H0 U O H)/\pV X (bS C X U O) (F U) O H Q
def teB (F:Rho->R D):TE:=λO H Q=>∃U:RB,(∃H0,b_ C X H0 U O H)/\pV X (Fi C X U O) (F U) O H Q
def ttD (F:Rho->R Bool):TT:=λO H Q=>∃U:RB,(∃H0,b_ C X H0 U O H)/\pB X (F U) O H Q
def taD (F:Rho->R (List D)):TA:=λO H Q=>∃U:RB,(∃H0,b_ C X H0 U O H)/\pL X (eW C X U O) (F U) O H Q
def ED (e:Expr) (F:Rho->R D):Prop:=PE X e (teC C X F)
def EB (e:Expr) (F:Rho->R D):Prop:=PE X e (teB C X F)
def TD (e:Expr) (F:Rho->R Bool):Prop:=PT X e (ttD C X F)
def AD (es:List Expr) (F:Rho->R (List D)):Prop:=PA X es (taD C X F)
def pS (o:R Out) (H0:Hp) (Dn:gt):Prop:=match o with
 | .val (.nx ρ')=>∀σ' H',iq C X H0 ρ' σ' H'->Dn.nx σ' H'
 | .val (.bk ρ')=>∀σ' H',iq C X H0 ρ' σ' H'->Dn.bk σ' H'
 | .val (.ct ρ')=>∀σ' H',iq C X H0 ρ' σ' H'->Dn.ct σ' H'
 | .val (.rt d)=>∀v H',Same H0 H'->Has X.K C H' v d->Dn.rt v H'
 | .exc c=>XS X c H0
 | .bad=>False
def tsD (F:Rho->R Out):TS:=λDn O H=>∃U H0,iq C X H0 U O H/\pS C X (F U) H0 Dn
def SD (st:Stmt) (F:Rho->R Out):Prop:=PS X st (tsD C X F)
def SDs (st:List Stmt) (F:Rho->R Out):Prop:=PSs X st (tsD C X F)
end
variable {a b:Expr} {r:R2} {F Fa Fb:Rho->R D} {x:Str} {pos:Pos} {f:D->D->R D} {op:CmpOp} {rest es:List Expr} {n:Nat}
section
variable {C:Addr} {X:Cx} {U:RB} {O:St} {H H':Hp}
theorem ao {e:Expr} {t t':TE} (h:PE X e t) (hw:∀O H Q,t' O H Q->t O H Q):PE X e t':=λpins s O H Q I q=>h pins s O H Q I (hw O H Q q)
theorem dw {e:Expr} {t t':TT} (h:PT X e t) (hw:∀O H Q,t' O H Q->t O H Q):PT X e t':=λpins s O H Q I q=>h pins s O H Q I (hw O H Q q)
theorem kU {e:List Expr} {t t':TA} (h:PA X e t) (hw:∀O H Q,t' O H Q->t O H Q):PA X e t':=λpos pins s O H Q I q=>h pos pins s O H Q I (hw O H Q q)
theorem aH {e:Stmt} {t t':TS} (h:PS X e t) (hw:∀D O H,t' D O H->t D O H):PS X e t':=λpins s O H Q I q=>h pins s O H Q I (hw Q O H q)
theorem cg {e:List Stmt} {t t':TS} (h:PSs X e t) (hw:∀D O H,t' D O H->t D O H):PSs X e t':=λpins s O H Q I q=>h pins s O H Q I (hw Q O H q)
theorem pV.mono {Rl:Hp->V->D->Prop} {r:R D} {Q:VK} (s:Same H H') (h:pV X Rl r O H Q):pV X Rl r O H' Q:=by
 cases r with
 | val d=>exact λv H2 s2 q=>h v H2 (s.trans s2) q
 | exc c=>exact XE.mono s h
 | bad=>exact h
theorem pB.mono {r:R Bool} {Q:Bool->Hp->Prop} (s:Same H H') (h:pB X r O H Q):pB X r O H' Q:=by
 cases r with
 | val d=>exact λH2 s2=>h H2 (s.trans s2)
 | exc c=>exact XE.mono s h
 | bad=>exact h
theorem pL.mono {Rl:Hp->List V->List D->Prop} {r:R (List D)} {Q:List V->Hp->Prop} (s:Same H H') (h:pL X Rl r O H Q):pL X Rl r O H' Q:=by
 cases r with
 | val d=>exact λv H2 s2 q=>h v H2 (s.trans s2) q
 | exc c=>exact XE.mono s h
 | bad=>exact h
theorem au {Rl:Hp->V->D->Prop} {r:R D} {k:D->R Y} {P:R Y->Hp->Prop} {Q:VK} (hexc:∀c,P (.exc c) H->XE X c O H) (hbad:P .bad H->False) (h:P (r.bind k) H)
  (hk:∀d v H1,Same H H1->Rl H1 v d->P (k d) H->Q v H1):pV X Rl r O H Q:=by
 cases r with
 | val d=>exact λv H1 s q=>hk d v H1 s q h
 | exc c=>exact hexc c h
 | bad=>exact hbad h
theorem iY {r:R Bool} {k:Bool->R Y} {P:R Y->Hp->Prop} {Q:Bool->Hp->Prop} (hexc:∀c,P (.exc c) H->XE X c O H) (hbad:P .bad H->False) (h:P (r.bind k) H)
  (hk:∀d H1,Same H H1->P (k d) H->Q d H1):pB X r O H Q:=by
 cases r with
 | val d=>exact λH1 s=>hk d H1 s h
 | exc c=>exact hexc c h
 | bad=>exact hbad h
theorem bQ {Rl:Hp->List V->List D->Prop} {r:R (List D)} {k:List D->R Y} {P:R Y->Hp->Prop} {Q:List V->Hp->Prop} (hexc:∀c,P (.exc c) H->XE X c O H) (hbad:P .bad H->False) (h:P (r.bind k) H)
  (hk:∀d v H1,Same H H1->Rl H1 v d->P (k d) H->Q v H1):pL X Rl r O H Q:=by
 cases r with
 | val d=>exact λv H1 s q=>hk d v H1 s q h
 | exc c=>exact hexc c h
 | bad=>exact hbad h
theorem EB.of {e:Expr} (h:ED C X e F):EB C X e F:=ao h λO H Q yy0=>by
 obtain⟨U,r,q⟩:=yy0;exact⟨U,r,by
  cases z:F U with
  | val d=>rw[z]at q;exact λv H' s h=>q v H' s (.cl h)
  | exc c=>rw[z]at q;exact q
  | bad=>rw[z]at q;exact q⟩
def vr (i:Nat):Rho->R D:=λU=>match U[i]? with
 | some (some (.shr d))=>.val d
 | _=>.bad
def vb (i:Nat):Rho->R D:=λU=>match U[i]? with
 | some (some (.shr d))=>.val d
 | some (some (.own xs))=>.val (.lst xs)
 | some (some (.tre (.l .s) (.lst xs)))=>.val (.lst xs)
 | _=>.bad
theorem EC (h:PE X (.Name x pos) (c8 i)):ED C X (.Name x pos) (vr i):=by
 refine ao h λO H Q zz0=>?_;obtain⟨U,⟨H0,r⟩,q⟩:=zz0;unfold vr at q;split at q
 ·rename_i d e;obtain⟨v,e1,h1⟩:=r.at_ i _ e;exact⟨v,e1,q v H (Same.refl _) h1⟩
 ·exact q.elim
theorem E1 (h:PE X (.Name x pos) (c8 i)):EB C X (.Name x pos) (vb i):=by
 refine ao h λO H Q zz1=>?_;obtain⟨U,⟨H0,r⟩,q⟩:=zz1;unfold vb at q;split at q
 ·rename_i d e;obtain⟨v,e1,h1⟩:=r.at_ i _ e;exact⟨v,e1,q v H (Same.refl _) (.cl h1)⟩
 ·rename_i xs e;obtain⟨a,vs,e1,_,h1,h2⟩:=r.at_ i _ e;exact⟨_,e1,q _ H (Same.refl _) (.own h1 h2)⟩
 ·rename_i xs e;obtain⟨v,B,e1,_,h⟩:=r.at_ i _ e;cases h with
  | l h1 h2 _=>exact⟨_,e1,q _ H (Same.refl _) (.own h1 h2.flat.2)⟩
 ·exact q.elim
def kd (d:D):Rho->R D:=λ_=>.val d
theorem ES {i j pos}:ED C X (.Constant (.int i) j pos) (kd (.int i)):=ao DG λO H Q yy1=>by
 obtain⟨U,r,q⟩:=yy1;exact q _ H (Same.refl _) (.int i)
theorem GO {i j pos}:ED C X (.Constant (.bool i) j pos) (kd (.bl i)):=ao uG λO H Q yy2=>by
 obtain⟨U,r,q⟩:=yy2;exact q _ H (Same.refl _) (.bl i)
theorem EI {j pos}:ED C X (.Constant .none j pos) (kd .non):=ao DF λO H Q yy3=>by
 obtain⟨U,r,q⟩:=yy3;exact q _ H (Same.refl _) .non
theorem mi {i:Int} {t:Tok} (hg:Gl X x) (hm:X.mg x=some (.int i t)) (hd:(x==("__debug__":Str))=false:=by decide):ED C X (.Name x pos) (kd (.int i)) :=
  ao (uF (v:=.int i) hg hm ⟨t,rfl⟩ hd) λO H Q yy4=>by
   obtain⟨U,r,q⟩:=yy4;exact q _ H (Same.refl _) (.int i)
def bin (f:D->D->R D) (a b:Rho->R D):Rho->R D:=λU=>(a U).bind λx=>(b U).bind λy=>f x y
def OpD (C:Addr) (X:Cx) (r:R2) (f:D->D->R D):Prop:=∀U O H v w x y z (Q:VK),(∃H0,b_ C X H0 U O H)->Fi C X U O H v x->Fi C X U O H w y->f x y=.val z->(∀u H',Same H H'->bS C X U O H' u z->Q u H')->r v w H Q
def cL (f:D->D->R D):Prop:=∀x y c,f x y ≠ .exc c
theorem om (hf:cL f) (ho:OpD C X r f) {O:St} {H:Hp} {Q:VK} (h:teC C X (bin f Fa Fb) O H Q):tOp r (teB C X Fa) (teB C X Fb) O H Q:=by
 obtain⟨U,⟨H0,r0⟩,q⟩:=h;refine⟨U,⟨H0,r0⟩,au (P:=λz H=>pV X (bS C X U O) z O H Q) (λ_ h=>h) (λh=>h) q λx v H1 s1 h1 q1=>?_⟩;refine⟨U,⟨H0,r0.mono s1⟩,au (P:=λz H=>pV X (bS C X U O) z O H Q) (λ_ h=>h) (λh=>h) (q1.mono s1) λy w H2 s2 h2 q2=>?_⟩;cases e:f x y with
 | val z =>
  rw[e]at q2;exact ho U O H2 v w x y z Q ⟨H0,(r0.mono s1).mono s2⟩ (h1.mono (az s2) s2) h2 e λu H3 s3 h3=>q2 u H3 (s2.trans s3) h3
 | exc c=>exact(hf x y c e).elim
 | bad=>rw[e]at q2;exact q2.elim
theorem nO {op:Operator} (h:OpR X (binaryOp op) r) (hf:cL f) (ho:OpD C X r f) (ha:EB C X a Fa) (hb:EB C X b Fb) :
  ED C X (.BinOp a op b pos) (bin f Fa Fb):=ao (Gc h ha hb) λO H Q q=>om hf ho q
theorem y8 (h:OpR X (compareOp op) r) (hf:cL f) (ho:OpD C X r f) (ha:EB C X a Fa) (hb:EB C X b Fb) (hm:behindInMarks op b=false) :
  ED C X (.Compare a [op] [b] pos) (bin f Fa Fb):=ao (Am h ha hb hm) λO H Q q=>om hf ho q
theorem GL (h:IxR X r) (hf:cL f) (ho:OpD C X r f) (ha:EB C X a Fa) (hb:EB C X b Fb) (hs:ik b) :
  ED C X (.Subscript a b pos) (bin f Fa Fb):=ao (uE h ha hb hs) λO H Q q=>om hf ho q
def asB:D->R Bool
 | .bl b=>.val b
 | _=>.bad
def tst (F:Rho->R D):Rho->R Bool:=λU=>(F U).bind asB
theorem Brw.int {H:Hp} {i:Int} (h:Brw K C M H v (.int i)):v=.int i:=by
 cases h with
 | cl h=>cases h;rfl
theorem Brw.bl {H:Hp} {i:Bool} (h:Brw K C M H v (.bl i)):v=.bl i:=by
 cases h with
 | cl h=>cases h;rfl
theorem Has.bl' {i:Bool} (h:Has K C M v (.bl i)):v=.bl i:=by cases h;rfl
theorem FE {O:St} {H:Hp} {Q:Bool->Hp->Prop} (h:ttD C X (tst F) O H Q):teC C X F O H λx H1=>∃c,x=.bl c/\Q c H1:=by
 obtain⟨U,⟨H0,r0⟩,q⟩:=h;refine⟨U,⟨H0,r0⟩,au (P:=λz H=>pB X z O H Q) (λ_ h=>h) (λh=>h) q λx v H1 s1 h1 q1=>?_⟩;cases x with
 | bl b=>exact⟨b,Has.bl' h1,q1 H1 s1⟩
 | _=>exact q1.elim
theorem CG {e:Expr} (h:ED C X e F) (he:∀whole,isTrue e X.env whole=(do let v <- whole;standAt e.pos;holding [v] (truthy v)):=by intro _;rfl):TD C X e (tst F) :=
 dw (xq h he) λO H Q q=>FE q
theorem iK (h:OpR X (compareOp op) r) (hf:cL f) (ho:OpD C X r f) (ha:EB C X a Fa) (hb:EB C X b Fb) (hm:behindInMarks op b=false) :
  TD C X (.Compare a [op] [b] pos) (tst (bin f Fa Fb)):=dw (ux h ha hb hm) λO H Q q=>by
 obtain⟨U,r0,q⟩:=q;refine om hf ho ⟨U,r0,?_⟩;exact au (P:=λz H=>pB X z O H Q) (λ_ h=>h) (λh=>h) q λx v H1 s1 h1 q1=>by
  cases x with
  | bl b=>exact⟨b,Has.bl' h1,q1 H1 s1⟩
  | _=>exact q1.elim
def jX (a b:Rho->R Bool):Rho->R Bool:=λU=>(a U).bind λx=>if x=true then b U else .val false
def orB (a b:Rho->R Bool):Rho->R Bool:=λU=>(a U).bind λx=>if x=true then .val true else b U
def bz (a:Rho->R Bool):Rho->R Bool:=λU=>(a U).bind λx=>.val (!x)
def WD (C:Addr) (X:Cx) (e:Expr) (F:Rho->R Bool):Prop:=PW X e (ttD C X F)
theorem uv {e:Expr} {t t':TT} (h:PW X e t) (hw:∀O H Q,t' O H Q->t O H Q):PW X e t':=λwh pins s O H Q I q=>h wh pins s O H Q I (hw O H Q q)
theorem zA {F:Rho->R Bool} (h:TD C X a F):WD C X (.BoolOp .And [a] pos) F:=uw h
theorem Cq {F:Rho->R Bool} (h:TD C X a F):WD C X (.BoolOp .Or [a] pos) F:=Dm h
theorem wC {Fa Fb:Rho->R Bool} (ha:TD C X a Fa) (hb:WD C X (.BoolOp .And (b::rest) pos) Fb):WD C X (.BoolOp .And (a::b::rest) pos) (jX Fa Fb) :=
  uv (xn ha hb) λO H Q yy5=>by
   obtain⟨U,⟨H0,r0⟩,q⟩:=yy5;exact⟨U,⟨H0,r0⟩,iY (P:=λz H=>pB X z O H Q) (λ_ h=>h) (λh=>h) q λx H1 s1 q1=>by
    cases x with
    | true=>rw[if_pos rfl];rw[if_pos rfl]at q1;exact⟨U,⟨H0,r0.mono s1⟩,q1.mono s1⟩
    | false=>rw[if_neg ϙ];rw[if_neg ϙ]at q1;exact q1 H1 s1⟩
theorem B1 {Fa Fb:Rho->R Bool} (ha:TD C X a Fa) (hb:WD C X (.BoolOp .Or (b::rest) pos) Fb):WD C X (.BoolOp .Or (a::b::rest) pos) (orB Fa Fb) :=
  uv (F3 ha hb) λO H Q yy6=>by
   obtain⟨U,⟨H0,r0⟩,q⟩:=yy6;exact⟨U,⟨H0,r0⟩,iY (P:=λz H=>pB X z O H Q) (λ_ h=>h) (λh=>h) q λx H1 s1 q1=>by
    cases x with
    | false=>rw[if_neg ϙ];rw[if_neg ϙ]at q1;exact⟨U,⟨H0,r0.mono s1⟩,q1.mono s1⟩
    | true=>rw[if_pos rfl];rw[if_pos rfl]at q1;exact q1 H1 s1⟩
theorem Fp {e:Expr} {F:Rho->R Bool} (h:WD C X e F):TD C X e F:=h.pt
theorem CH {F:Rho->R Bool} (h:TD C X a F):TD C X (.UnaryOp .Not a pos) (bz F) :=
  dw (xt h) λO H Q yy7=>by
   obtain⟨U,r0,q⟩:=yy7;exact⟨U,r0,iY (P:=λz H=>pB X z O H Q) (λ_ h=>h) (λh=>h) q λx H1 s1 q1=>q1 H1 s1⟩
def rE (a b:Rho->R D):Rho->R D:=λU=>(a U).bind λx=>(asB x).bind λc=>if c=true then b U else .val (.bl false)
def orV (a b:Rho->R D):Rho->R D:=λU=>(a U).bind λx=>(asB x).bind λc=>if c=true then .val (.bl true)else b U
theorem EH {op} (h:ED C X a F):ED C X (.BoolOp op [a] pos) F:=DE h
theorem EX (ha:ED C X a Fa) (hb:ED C X (.BoolOp .And (b::rest) pos) Fb):ED C X (.BoolOp .And (a::b::rest) pos) (rE Fa Fb) :=
  ao (DI ha hb) λO H Q yy8=>by
   obtain⟨U,⟨H0,r0⟩,q⟩:=yy8;exact⟨U,⟨H0,r0⟩,au (P:=λz H=>pV X (bS C X U O) z O H Q) (λ_ h=>h) (λh=>h) q λx v H1 s1 h1 q1=>by
    cases x with
    | bl c =>
      refine⟨c,Has.bl' h1,?_⟩;cases c with
      | true=>exact sU ⟨U,⟨H0,r0.mono s1⟩,q1.mono s1⟩
      | false=>exact sV (q1 _ H1 s1 (.bl false))
    | _=>exact q1.elim⟩
theorem GJ (ha:ED C X a Fa) (hb:ED C X (.BoolOp .Or (b::rest) pos) Fb):ED C X (.BoolOp .Or (a::b::rest) pos) (orV Fa Fb) :=
  ao (Gb ha hb) λO H Q yy9=>by
   obtain⟨U,⟨H0,r0⟩,q⟩:=yy9;exact⟨U,⟨H0,r0⟩,au (P:=λz H=>pV X (bS C X U O) z O H Q) (λ_ h=>h) (λh=>h) q λx v H1 s1 h1 q1=>by
    cases x with
    | bl c =>
      refine⟨c,Has.bl' h1,?_⟩;cases c with
      | false=>exact sV ⟨U,⟨H0,r0.mono s1⟩,q1.mono s1⟩
      | true=>exact sU (q1 _ H1 s1 (.bl true))
    | _=>exact q1.elim⟩
def aN:Rho->R (List D):=λ_=>.val []
def aC (a:Rho->R D) (r:Rho->R (List D)):Rho->R (List D):=λU=>(a U).bind λx=>(r U).bind λxs=>.val (x::xs)
theorem E_:AD C X [] aN:=kU bH λO H Q yy12=>by
 obtain⟨U,r0,q⟩:=yy12;exact q [] H (Same.refl _) .nil
theorem BW {e:Expr} {Fr:Rho->R (List D)} (ha:ED C X e Fa) (hr:AD C X es Fr) (hs:starEach (e::es) X.env=(false,eval e X.env)::starEach es X.env:=by rfl):AD C X (e::es) (aC Fa Fr) :=
  kU (aQ ha hr hs) λO H Q yy13=>by
   obtain⟨U,⟨H0,r0⟩,q⟩:=yy13;exact⟨U,⟨H0,r0⟩,au (P:=λz H=>pL X (eW C X U O) z O H Q) (λ_ h=>h) (λh=>h) q λx v H1 s1 h1 q1 =>
    ⟨U,⟨H0,r0.mono s1⟩,bQ (P:=λz H=>pL X (eW C X U O) z O H Q) (λ_ h=>h) (λh=>h) (q1.mono s1) λxs vs H2 s2 h2 q2=>q2 _ H2 s2 (.cons (h1.mono (az s2)) h2)⟩⟩
def LIM:Nat:=100000
theorem oZ (h:n<=LIM):n<=sizeLine:=ϣ h (by decide)
theorem D7 (h:n<=LIM):n<sizeLine:=Nat.lt_of_le_of_lt h (by decide)
def mkT (xs:List D):R D:=if xs.length<=LIM then .val (.tup xs)else .bad
def mkL (xs:List D):R D:=if xs.length<=LIM then .val (.lst xs)else .bad
def eT (a:Rho->R (List D)):Rho->R D:=λU=>(a U).bind mkT
def eL (a:Rho->R (List D)):Rho->R D:=λU=>(a U).bind mkL
theorem EE {x1} {F : Rho -> R (List D)} (h : AD C X es F) : ED C X (.Tuple es x1 pos) (eT F) :=
  ao (xI h) fun O H Q yy14 => by
   obtain ⟨U, ⟨H0, r0⟩, q⟩ := yy14
   exact ⟨U, ⟨H0, r0⟩, bQ (P := fun z H => pV X (bS C X U O) z O H Q) (fun _ h => h) (fun h => h) q fun xs vs H1 s1 h1 q1 => by
    unfold mkT at q1
    split at q1
    · rename_i hl
      refine ⟨by rw [h1.len]; exact oZ hl, fun p hp => q1 _ _ (s1.trans (aq hp)) ?_⟩
      exact .tup ((r0.mono s1).new hp) (h1.mono (az (aq hp)))
    · exact q1.elim⟩
theorem EN {F : Rho -> R (List D)} (h : AD C X es F) : ED C X (.List es pos) (eL F) :=
  ao (xK h) fun O H Q yy15 => by
   obtain ⟨U, ⟨H0, r0⟩, q⟩ := yy15
   exact ⟨U, ⟨H0, r0⟩, bQ (P := fun z H => pV X (bS C X U O) z O H Q) (fun _ h => h) (fun h => h) q fun xs vs H1 s1 h1 q1 => by
    unfold mkL at q1
    split at q1
    · rename_i hl
      refine ⟨by rw [h1.len]; exact oZ hl, fun p hp => q1 _ _ (s1.trans (aq hp)) ?_⟩
      exact .lst ((r0.mono s1).new hp) (h1.mono (az (aq hp)))
    · exact q1.elim⟩
end
section
variable {C:Addr} {X:Cx} {U:RB} {O:St} {H H':Hp}
def iI (f:Int->Int->R D):D->D->R D
 | .int i,.int j=>f i j
 | _,_=>.bad
theorem fQ {f:Int->Int->R D} (h:∀i j c,f i j ≠ .exc c):cL (iI f):=by
 intro x y c;cases x<;>cases y<;>simp[iI]<;>exact h _ _ c
theorem oO {g:Int->Int->V} {f:Int->Int->R D} (h:∀i j z,f i j=.val z->∀K C H,Has K C H (g i j) z):OpD C X (rI0 g) (iI f):=by
 intro U O H v w x y z Q r hx hy e k;cases x with
 | int i =>
  cases y with
  | int j=>exact⟨i,j,hx.int,hy.int,k _ H (Same.refl _) (h i j z e _ _ _)⟩
  | _=>cases e
 | _=>cases e
theorem xT {P:Int->Int->Prop} {g:Int->Int->V} {f:Int->Int->R D} (h:∀i j z,f i j=.val z->P i j/\∀K C H,Has K C H (g i j) z):OpD C X (rI P g) (iI f):=by
 intro U O H v w x y z Q r hx hy e k;cases x with
 | int i =>
  cases y with
  | int j=>exact⟨i,j,hx.int,hy.int,(h i j z e).1,k _ H (Same.refl _) ((h i j z e).2 _ _ _)⟩
  | _=>cases e
 | _=>cases e
def mU (i j:Int):R D:=.val (.int (i-j))
def dP (i j:Int):R D:=if(-(2 ^ 64)<i/\i<2 ^ 64)\/(-(2 ^ 64)<j/\j<2 ^ 64)then .val (.int (i*j))else .bad
def aA (i j:Int):R D:=if 0<j then .val (.int (i%j))else .bad
def bT (i j:Int):R D:=if 0<j/\j<1073741824 then .val (.int (i/j))else .bad
def flt (i j:Int):R D:=.val (.bl (decide (i<j)))
def fgt (i j:Int):R D:=.val (.bl (decide (j<i)))
def fge (i j:Int):R D:=.val (.bl (decide (j<=i)))
theorem Au:OpD C X (rI0 λi j=>.int (i-j)) (iI mU):=oO λi j z e=>by cases e;exact λ_ _ _=>.int _
theorem Av:OpD C X (rI CMul λi j=>.int (i*j)) (iI dP):=xT λi j z e=>by
 unfold dP at e;split at e
 ·cases e;exact⟨‹_›,λ_ _ _=>.int _⟩
 ·cases e
theorem Aw:OpD C X (rI (λ_ j=>0<j) λi j=>.int (i%j)) (iI aA):=xT λi j z e=>by
 unfold aA at e;split at e
 ·cases e;exact⟨‹_›,λ_ _ _=>.int _⟩
 ·cases e
theorem Ax:OpD C X (rI GU λi j=>.int (i/j)) (iI bT):=xT λi j z e=>by
 unfold bT at e;split at e
 ·cases e;exact⟨‹_›,λ_ _ _=>.int _⟩
 ·cases e
theorem DM:OpD C X (rI0 λi j=>.bl (decide (i<j))) (iI flt):=oO λi j z e=>by cases e;exact λ_ _ _=>.bl _
theorem xR:OpD C X (rI0 λi j=>.bl (decide (j<i))) (iI fgt):=oO λi j z e=>by cases e;exact λ_ _ _=>.bl _
theorem DO:OpD C X (rI0 λi j=>.bl (decide (j<=i))) (iI fge):=oO λi j z e=>by cases e;exact λ_ _ _=>.bl _
theorem Dr:cL (iI mU):=fQ λi j c e=>by cases e
theorem Ds:cL (iI dP):=fQ λi j c e=>by unfold dP at e;split at e<;>cases e
theorem Dt:cL (iI aA):=fQ λi j c e=>by unfold aA at e;split at e<;>cases e
theorem Du:cL (iI bT):=fQ λi j c e=>by unfold bT at e;split at e<;>cases e
theorem F5:cL (iI flt):=fQ λi j c e=>by cases e
theorem B8:cL (iI fgt):=fQ λi j c e=>by cases e
theorem F7:cL (iI fge):=fQ λi j c e=>by cases e
def bA:D->D->R D
 | .int i,.int j=>.val (.int (i+j))
 | .lst xs,.lst ys=>if xs.length+ys.length<=LIM then .val (.lst (xs++ys))else .bad
 | _,_=>.bad
theorem Brw.lst {K:Frag} {M H:Hp} {v:V} {xs:List D} (s:Same M H) (h:Brw K C M H v (.lst xs)):∃a vs,v=.ref a/\H a=some (.lst vs)/\HasL K C M vs xs:=by
 cases h with
 | cl h=>cases h with
  | lst q h=>exact⟨_,_,rfl,s _ _ q,h⟩
 | own e h=>exact⟨_,_,rfl,e,h⟩
theorem Brw.tup {K:Frag} {M H:Hp} {v:V} {xs:List D} (s:Same M H) (h:Brw K C M H v (.tup xs)):∃a vs,v=.ref a/\H a=some (.tup vs)/\HasL K C M vs xs:=by
 cases h with
 | cl h=>cases h with
  | tup q h=>exact⟨_,_,rfl,s _ _ q,h⟩
theorem Brw.scr {K:Frag} {M H:Hp} {v:V} {ns:List Int} (s:Same M H) (h:Brw K C M H v (.scr ns)):∃a,v=.ref a/\SqL K H a (ns.map V.int):=by
 cases h with
 | cl h=>cases h with
  | scr q=>exact⟨_,rfl,s.seq q⟩
theorem Ay:OpD C X (λx y H Q=>rI0 (λi j=>.int (i+j)) x y H Q\/Dl x y H Q) bA:=by
 intro U O H v w x y z Q r hx hy e k;obtain⟨H0,r⟩:=r;cases x with
 | int i =>
  cases y with
  | int j=>cases e;exact .inl ⟨i,j,hx.int,hy.int,k _ H (Same.refl _) (.int _)⟩
  | _=>cases e
 | lst xs =>
  cases y with
  | lst ys =>
   simp only[bA]at e;split at e
   ·rename_i hl;cases e;obtain⟨a,vs,rfl,q1,h1⟩:=hx.lst msk_sub;obtain⟨b,ws,rfl,q2,h2⟩:=hy.lst msk_sub;refine .inr ⟨a,b,vs,ws,rfl,rfl,q1,q2,by rw[h1.len,h2.len];exact oZ hl,λp hp=>k _ _ (aq hp) ?_⟩;exact .lst (r.new hp) ((h1.app h2).mono (az (aq hp)))
   ·cases e
  | _=>cases e
 | _=>cases e
theorem Dv:cL bA:=by
 intro x y c e;unfold bA at e;split at e
 ·cases e
 ·split at e<;>cases e
 ·cases e
theorem At:OpR X (binaryOp .Add) (λx y H Q=>rI0 (λi j=>.int (i+j)) x y H Q\/Dl x y H Q):=op_add.or DU
def fix:D->D->R D
 | .lst xs,.int i=>match atI xs i with
  | some d=>.val d
  | none=>.bad
 | .tup xs,.int i=>match atI xs i with
  | some d=>.val d
  | none=>.bad
 | .scr ns,.int i=>match atI ns i with
  | some d=>.val (.int d)
  | none=>.bad
 | _,_=>.bad
theorem B7:cL fix:=by
 intro x y c e;unfold fix at e;split at e
 ·split at e<;>cases e
 ·split at e<;>cases e
 ·split at e<;>cases e
 ·cases e
theorem BR {β:Type} (f:Y->β) (xs:List Y) (i:Int):L2.atI (xs.map f) i=(L2.atI xs i).map f:=by
 unfold L2.atI;rw[ϋ];cases ixN xs.length i with
 | none=>rfl
 | some j=>simp
theorem HasL.atI {K:Frag} {vs:List V} {xs:List D} {i:Int} {d:D} (h:HasL K C H vs xs) (e:atI xs i=some d):∃v,L2.atI vs i=some v/\Has K C H v d:=by
 unfold L2.atI at e ⊢;rw[h.len];cases q:ixN xs.length i with
 | none=>rw[q]at e;cases e
 | some j =>
  rw[q]at e;exact h.get e
theorem xQ:OpD C X (rIx X.K) fix:=by
 intro U O H v w x y z Q r hx hy e k;unfold fix at e;split at e
 ·rename_i xs i;split at e
  ·rename_i d q;cases e;obtain⟨a,vs,rfl,q1,h1⟩:=hx.lst msk_sub;obtain⟨u,q2,h2⟩:=h1.atI q;exact .inl ⟨a,vs,i,u,rfl,hy.int,SqL.of q1,q2,k _ H (Same.refl _) h2⟩
  ·cases e
 ·rename_i xs i;split at e
  ·rename_i d q;cases e;obtain⟨a,vs,rfl,q1,h1⟩:=hx.tup msk_sub;obtain⟨u,q2,h2⟩:=h1.atI q;exact .inr (.inl ⟨a,vs,i,u,rfl,hy.int,SqT.of q1,q2,k _ H (Same.refl _) h2⟩)
  ·cases e
 ·rename_i ns i;split at e
  ·rename_i d q;cases e;obtain⟨a,rfl,q1⟩:=hx.scr msk_sub;exact .inl ⟨a,_,i,.int d,rfl,hy.int,q1,by rw[BR,q];rfl,k _ H (Same.refl _) (.int d)⟩
  ·cases e
 ·cases e
theorem EZ (ha:EB C X a Fa) (hb:EB C X b Fb):ED C X (.BinOp a .Add b pos) (bin bA Fa Fb):=nO At Dv Ay ha hb
theorem EF (ha:EB C X a Fa) (hb:EB C X b Fb):ED C X (.BinOp a .Sub b pos) (bin (iI mU) Fa Fb):=nO DP Dr Au ha hb
theorem EK (ha:EB C X a Fa) (hb:EB C X b Fb):ED C X (.BinOp a .Mult b pos) (bin (iI dP) Fa Fb):=nO DS Ds Av ha hb
theorem EL (ha:EB C X a Fa) (hb:EB C X b Fb):ED C X (.BinOp a .Mod b pos) (bin (iI aA) Fa Fb):=nO DT Dt Aw ha hb
theorem BA (ha:EB C X a Fa) (hb:EB C X b Fb):ED C X (.BinOp a .FloorDiv b pos) (bin (iI bT) Fa Fb):=nO AB Du Ax ha hb
theorem GM (ha:EB C X a Fa) (hb:EB C X b Fb):ED C X (.Compare a [.Gt] [b] pos) (bin (iI fgt) Fa Fb):=y8 Ca B8 xR ha hb (iM _)
theorem Fu (ha:EB C X a Fa) (hb:EB C X b Fb):TD C X (.Compare a [.Lt] [b] pos) (tst (bin (iI flt) Fa Fb)):=iK xU F5 DM ha hb (iM _)
theorem Fv (ha:EB C X a Fa) (hb:EB C X b Fb):TD C X (.Compare a [.Gt] [b] pos) (tst (bin (iI fgt) Fa Fb)):=iK Ca B8 xR ha hb (iM _)
theorem Fw (ha:EB C X a Fa) (hb:EB C X b Fb):TD C X (.Compare a [.GtE] [b] pos) (tst (bin (iI fge) Fa Fb)):=iK Gd F7 DO ha hb (iM _)
theorem GP (ha:EB C X a Fa) (hb:EB C X b Fb) (hs:ik b:=by exact λ_ _=>rfl):ED C X (.Subscript a b pos) (bin fix Fa Fb):=GL sT B7 xQ ha hb hs
def cS:D->R D
 | .int i=>.val (.int (-i))
 | _=>.bad
def una (f:D->R D) (a:Rho->R D):Rho->R D:=λU=>(a U).bind f
theorem EJ (h:EB C X a F):ED C X (.UnaryOp .USub a pos) (una cS F) :=
  ao (Ga Cs h) λO H Q yy0=>by
   obtain⟨U,r0,q⟩:=yy0;exact⟨U,r0,au (P:=λz H=>pV X (bS C X U O) z O H Q) (λ_ h=>h) (λh=>h) q λx v H1 s1 h1 q1=>by
    cases x with
    | int i=>exact⟨i,h1.int,q1 _ H1 s1 (.int _)⟩
    | _=>exact q1.elim⟩
def l7:D->D
 | .non=>.bl true
 | _=>.bl false
def cT:D->D
 | .non=>.bl false
 | _=>.bl true
theorem Brw.isN {H:Hp} (h:Brw K C M H v d):l7 d=.bl (decide (v=.non))/\cT d=.bl (!decide (v=.non)):=by
 cases h with
 | cl h=>cases h<;>simp[l7,cT]
 | own e h=>simp[l7,cT]
theorem CK {j pos pos'} (h:EB C X a F):TD C X (.Compare a [.Is] [.Constant .none j pos'] pos) (tst (una (λd=>.val (l7 d)) F)) :=
 dw (xu (DJ h)) λO H Q zz0=>by
  obtain⟨U,r0,q⟩:=zz0;refine⟨U,r0,?_⟩;cases e:F U with
  | val d =>
   intro v H1 s1 h1;refine⟨_,rfl,?_⟩;have z:tst (una (λd=>.val (l7 d)) F) U=.val (decide (v=.non)):=by
    unfold tst una;rw[e];show asB (l7 d)=_;rw[(h1.isN).1];rfl
   rw[z]at q;exact q H1 s1
  | exc c =>
   have z:tst (una (λd=>.val (l7 d)) F) U=.exc c:=by unfold tst una;rw[e];rfl
   rw[z]at q;exact q
  | bad =>
   have z:tst (una (λd=>.val (l7 d)) F) U=.bad:=by unfold tst una;rw[e];rfl
   rw[z]at q;exact q
theorem zE {j pos pos'} (h:EB C X a F):TD C X (.Compare a [.IsNot] [.Constant .none j pos'] pos) (tst (una (λd=>.val (cT d)) F)) :=
 dw (xu (Ap h)) λO H Q zz1=>by
  obtain⟨U,r0,q⟩:=zz1;refine⟨U,r0,?_⟩;cases e:F U with
  | val d =>
   intro v H1 s1 h1;refine⟨_,rfl,?_⟩;have z:tst (una (λd=>.val (cT d)) F) U=.val (!decide (v=.non)):=by
    unfold tst una;rw[e];show asB (cT d)=_;rw[(h1.isN).2];rfl
   rw[z]at q;exact q H1 s1
  | exc c =>
   have z:tst (una (λd=>.val (cT d)) F) U=.exc c:=by unfold tst una;rw[e];rfl
   rw[z]at q;exact q
  | bad =>
   have z:tst (una (λd=>.val (cT d)) F) U=.bad:=by unfold tst una;rw[e];rfl
   rw[z]at q;exact q
def chn (f g:Int->Int->Bool) (a b c:Rho->R D):Rho->R D:=λU=>(a U).bind λx=>(b U).bind λy=>match x,y with
 | .int i,.int j=>if f i j=true then(c U).bind λz=>match z with
   | .int k=>.val (.bl (g j k))
   | _=>.bad
  else .val (.bl false)
 | _,_=>.bad
end
variable {g:Int->Int->Bool} {k:Nat} {p:Pos} {Fc:Rho->R D} {st:Stmt} {H0:Hp}
section
variable {C:Addr} {X:Cx} {U:RB} {O:St} {H H':Hp}
theorem nl {f:Int->Int->Bool} {O:St} {H:Hp} {Q:VK} (h:teC C X (chn f g Fa Fb Fc) O H Q) :
  sg (rI0 λi j=>.bl (f i j)) (rI0 λi j=>.bl (g i j)) (teB C X Fa) (teB C X Fb) (teB C X Fc) O H Q:=by
 obtain⟨U,⟨H0,r0⟩,q⟩:=h;refine⟨U,⟨H0,r0⟩,au (P:=λz H=>pV X (bS C X U O) z O H Q) (λ_ h=>h) (λh=>h) q λx v H1 s1 h1 q1=>?_⟩;refine⟨U,⟨H0,r0.mono s1⟩,au (P:=λz H=>pV X (bS C X U O) z O H Q) (λ_ h=>h) (λh=>h) (q1.mono s1) λy w H2 s2 h2 q2=>?_⟩;cases x with
 | int i =>
  cases y with
  | int j =>
   refine⟨i,j,h1.int,h2.int,f i j,rfl,?_⟩;cases e:f i j with
   | false =>
    simp only[e,Ζ,if_false]at q2 ⊢;exact q2 _ H2 s2 (.bl false)
   | true =>
    simp only[e,if_true]at q2 ⊢;refine⟨U,⟨H0,(r0.mono s1).mono s2⟩,au (P:=λz H=>pV X (bS C X U O) z O H Q) (λ_ h=>h) (λh=>h) (q2.mono s2) λz w' H3 s3 h3 q3=>?_⟩;cases z with
    | int k=>exact⟨j,k,h2.int,h3.int,q3 _ H3 s3 (.bl _)⟩
    | _=>exact q3.elim
  | _=>exact q2.elim
 | _=>exact q2.elim
theorem y9 {c:Expr} {op':CmpOp} {f:Int->Int->Bool} (ho:OpR X (compareOp op) (rI0 λi j=>.bl (f i j))) (ho':OpR X (compareOp op') (rI0 λi j=>.bl (g i j)))
  (ha:EB C X a Fa) (hb:EB C X b Fb) (hc:EB C X c Fc) (hm:lastMarks [op,op'] [b,c]=false:=by with_unfolding_all rfl):ED C X (.Compare a [op,op'] [b,c] pos) (chn f g Fa Fb Fc) :=
 ao (xN ho ho' ha hb hc hm) λO H Q q=>nl q
theorem qd {c:Expr} {op':CmpOp} {f:Int->Int->Bool} (ho:OpR X (compareOp op) (rI0 λi j=>.bl (f i j))) (ho':OpR X (compareOp op') (rI0 λi j=>.bl (g i j)))
  (ha:EB C X a Fa) (hb:EB C X b Fb) (hc:EB C X c Fc) (hm:lastMarks [op,op'] [b,c]=false:=by with_unfolding_all rfl):TD C X (.Compare a [op,op'] [b,c] pos) (tst (chn f g Fa Fb Fc)) :=
 dw (xv ho ho' ha hb hc hm) λO H Q q=>by
  obtain⟨U,r0,q⟩:=q;refine nl ⟨U,r0,?_⟩;exact au (P:=λz H=>pB X z O H Q) (λ_ h=>h) (λh=>h) q λx v H1 s1 h1 q1=>by
   cases x with
   | bl b=>exact⟨b,Has.bl' h1,q1 H1 s1⟩
   | _=>exact q1.elim
def ci (f:Nat):D->R D
 | .ob e r t=>match f with
  | 0=>.val e
  | 1=>.val r
  | _=>.val t
 | _=>.bad
theorem EW {e:Expr} {f:Str} (h:EB C X e F) (c:Cls X.K C) (n:NoAttr X.K C f) (hb:attributeBase e f X.env (eval e X.env)=eval e X.env)
    (hk:∀ve vr vt,(GB ve vr vt).lookup f=some (match k with|0=>ve|1=>vr|_=>vt)):ED C X (.Attribute e f pos) (una (ci k) F) :=
  ao (DH h hb) λO H Q yy0=>by
   obtain⟨U,r0,q⟩:=yy0;exact⟨U,r0,au (P:=λz H=>pV X (bS C X U O) z O H Q) (λ_ h=>h) (λh=>h) q λx v H1 s1 h1 q1=>by
    cases x with
    | ob de dr dt =>
      cases h1 with
      | cl h1 =>
        cases h1 with
        | @ob a dx ve vr vt _ _ _ e1 g1 g2 g3 =>
          refine⟨a,C,dx,_,_,rfl,msk_sub _ _ e1,c,n,hk ve vr vt,?_⟩
          match k with
          | 0=>exact q1 _ H1 s1 g1
          | 1=>exact q1 _ H1 s1 g2
          | _+2=>exact q1 _ H1 s1 g3
    | _=>exact q1.elim⟩
def aj:D->R D
 | .lst xs=>.val (.int xs.length)
 | .tup xs=>.val (.int xs.length)
 | .scr ns=>.val (.int ns.length)
 | _=>.bad
def A_:List D->R D
 | [.int i,.int j]=>.val (.int (if j>i then j else i))
 | _=>.bad
def y_ (F:Rho->R (List D)):Rho->R D:=λU=>(F U).bind A_
theorem EM {F : Rho -> R (List D)} (hc : X.calm = true) (h : AD C X [a, b] F) (hg : Gl X "max") (hm : X.mg "max" = none)
    (hs : ∀ t : TA, PA X [a, b] t -> PE X (.Call (.Name "max" p) [a, b] [] pos) (tCB (fun xs H Q => ∃ i j, xs = [.int i, .int j] /\ Q (.int (if j > i then j else i)) H) t) := by
      exact fun t ha => dW (nU (by assumption)) (by assumption) (by assumption) PySem.boot_max ha) : ED C X (.Call (.Name "max" p) [a, b] [] pos) (y_ F) :=
  ao (hs _ h) fun O H Q yy2 => by
   obtain ⟨U, r0, q⟩ := yy2
   exact ⟨U, r0, bQ (P := fun z H => pV X (bS C X U O) z O H Q) (fun _ h => h) (fun h => h) q fun xs vs H1 s1 h1 q1 => by
    unfold A_ at q1
    split at q1
    · rename_i i j
      cases h1 with
      | cons a1 b1 => cases b1 with
        | cons a2 b2 => cases b2; cases a1; cases a2; exact ⟨i, j, rfl, q1 _ H1 s1 (.int _)⟩
    · exact q1.elim⟩
def pF (Rl:Hp->List V->List D->Prop) (r:R (List D)) (O:St) (H:Hp) (Q:VK):Prop:=match r with
 | .val xs=>∀a vs H1,Same H H1->H1 a=none->Rl H1 vs xs->Q (.ref a) (upd H1 a (.lst vs))
 | .exc c=>XE X c O H
 | .bad=>False
variable (C X) in
def teF (F:Rho->R (List D)):TE:=λO H Q=>∃U:RB,(∃H0,b_ C X H0 U O H)/\pF (X:=X) (eW C X U O) (F U) O H Q
variable (C X) in
def FD (e:Expr) (F:Rho->R (List D)):Prop:=PE X e (teF C X F)
def D6 (r:R (List D)):R D:=r.bind λxs=>.val (.lst xs)
def eLs (F:Rho->R (List D)):Rho->R D:=λU=>D6 (F U)
theorem Ci {e:Expr} {F:Rho->R (List D)} (h:FD C X e F):ED C X e (eLs F):=ao h λO H Q yy3=>by
 obtain⟨U,⟨H0,r0⟩,q⟩:=yy3;exact⟨U,⟨H0,r0⟩,by
  unfold eLs at q;cases e:F U with
  | val xs =>
    rw[e]at q;exact λa vs H1 s1 hn h1=>q _ _ (s1.trans (aq hn)) (.lst ((r0.mono s1).new hn) (h1.mono (az (aq hn))))
  | exc c=>rw[e]at q;exact q
  | bad=>rw[e]at q;exact q⟩
def lim (r:R (List D)):R (List D):=r.bind λxs=>if xs.length<=LIM then .val xs else .bad
def iQ (F:Rho->R (List D)):Rho->R (List D):=λU=>lim (F U)
theorem Er {F : Rho -> R (List D)} (h : AD C X es F) : FD C X (.List es pos) (iQ F) :=
  ao (xK h) fun O H Q yy4 => by
   obtain ⟨U, ⟨H0, r0⟩, q⟩ := yy4
   exact ⟨U, ⟨H0, r0⟩, bQ (P := fun z H => pF (X := X) (eW C X U O) z O H Q) (fun _ h => h) (fun h => h) q fun xs vs H1 s1 h1 q1 => by
    split at q1
    · rename_i hl
      exact ⟨by rw [h1.len]; exact oZ hl, fun p hp => q1 p vs H1 s1 hp h1⟩
    · exact q1.elim⟩
def itD:D->R (List D)
 | .lst xs=>.val xs
 | .tup xs=>.val xs
 | .scr ns=>.val (ns.map .int)
 | _=>.bad
def fIt (F:Rho->R D):Rho->R (List D):=λU=>(F U).bind itD
theorem Be {e:Expr} (h:EB C X e F) (hg:Gl X "list") (hm:X.mg "list"=none) (hst:starEach [e] X.env=(false,eval e X.env)::starEach [] X.env:=by rfl)
    (hs:∀t:TA,PA X [e] t->PE X (.Call (.Name "list" p) [e] [] pos) (tCB (λxs H Q=>∃p ys,xs=[.ref p]/\(SqL X.K H p ys\/SqT X.K H p ys)/\∀l,H l=none->Q (.ref l) (upd H l (.lst ys))) t):=by
      exact λt ha=>df jx (by assumption) (by assumption) PySem.boot_list ha):FD C X (.Call (.Name "list" p) [e] [] pos) (fIt F) :=
  ao (hs _ (aQ h bH hst)) λO H Q yy5=>by
   obtain⟨U,r0,q⟩:=yy5;exact⟨U,r0,au (P:=λz H=>pF (X:=X) (eW C X U O) z O H Q) (λ_ h=>h) (λh=>h) q λx v H1 s1 h1 q1=>by
    cases x with
    | lst xs =>
      obtain⟨a,vs,rfl,e1,h2⟩:=h1.lst msk_sub;exact⟨a,vs,rfl,.inl (SqL.of e1),λl hl=>q1 l vs H1 s1 hl h2⟩
    | tup xs =>
      obtain⟨a,vs,rfl,e1,h2⟩:=h1.tup msk_sub;exact⟨a,vs,rfl,.inr (SqT.of e1),λl hl=>q1 l vs H1 s1 hl h2⟩
    | scr ns =>
      obtain⟨a,rfl,e1⟩:=h1.scr msk_sub;exact⟨a,_,rfl,.inl e1,λl hl=>q1 l _ H1 s1 hl (HasL.ints ns)⟩
    | _=>exact q1.elim⟩
def gH:D->R D
 | .lst xs=>.val (.tup xs)
 | .tup xs=>.val (.tup xs)
 | _=>.bad
theorem yY {e:Expr} (h:EB C X e F) (hg:Gl X "tuple") (hm:X.mg "tuple"=none) (hst:starEach [e] X.env=(false,eval e X.env)::starEach [] X.env:=by rfl)
    (hs:∀t:TA,PA X [e] t->PE X (.Call (.Name "tuple" p) [e] [] pos) (tCB (λxs H Q=>∃p ys,xs=[.ref p]/\((SqL X.K H p ys/\∀l,H l=none->Q (.ref l) (upd H l (.tup ys)))\/(SqT X.K H p ys/\Q (.ref p) H))) t):=by
      exact λt ha=>df iH (by assumption) (by assumption) PySem.boot_tuple ha):ED C X (.Call (.Name "tuple" p) [e] [] pos) (una gH F) :=
  ao (hs _ (aQ h bH hst)) λO H Q yy6=>by
   obtain⟨U,⟨H0,r0⟩,q⟩:=yy6;exact⟨U,⟨H0,r0⟩,au (P:=λz H=>pV X (bS C X U O) z O H Q) (λ_ h=>h) (λh=>h) q λx v H1 s1 h1 q1=>by
    cases x with
    | lst xs =>
      obtain⟨a,vs,rfl,e1,h2⟩:=h1.lst msk_sub;exact⟨a,vs,rfl,.inl ⟨SqL.of e1,λl hl=>q1 _ _ (s1.trans (aq hl)) (.tup ((r0.mono s1).new hl) (h2.mono (az (aq hl))))⟩⟩
    | tup xs =>
      cases h1 with
      | cl h1 =>
        cases h1 with
        | tup e1 h2=>exact⟨_,_,rfl,.inr ⟨SqT.of (msk_sub _ _ e1),q1 _ H1 s1 (.tup e1 h2)⟩⟩
    | _=>exact q1.elim⟩
def sq (a b:Rho->R Out):Rho->R Out:=λU=>(a U).bind λo=>match o with
 | .nx ρ'=>b ρ'
 | o=>.val o
def nxt:Rho->R Out:=λU=>.val (.nx U)
def asg (i:Nat) (e:Rho->R D):Rho->R Out:=λU=>(e U).bind λd=>.val (.nx (U.set i (some (.shr d))))
def own (i:Nat) (e:Rho->R (List D)):Rho->R Out:=λU=>(e U).bind λxs=>.val (.nx (U.set i (some (.own xs))))
def ret (e:Rho->R D):Rho->R Out:=λU=>(e U).bind λd=>.val (.rt d)
def drp (e:Rho->R D):Rho->R Out:=λU=>(e U).bind λ_=>.val (.nx U)
def iff (t:Rho->R Bool) (a b:Rho->R Out):Rho->R Out:=λU=>(t U).bind λc=>if c=true then a U else b U
def bad:Rho->R Out:=λ_=>.bad
theorem zS:SDs C X [] nxt:=cg uz λD O H yy7=>by
 obtain⟨_,H0,⟨U,rfl,r⟩,q⟩:=yy7;exact q O H r.e
theorem wV {rest:List Stmt} {F G:Rho->R Out} (h1:SD C X st F) (h2:SDs C X rest G):SDs C X (st::rest) (sq F G) :=
 cg (fk h1 h2) λD O H zz0=>by
  obtain⟨_,H0,⟨U,rfl,r⟩,q⟩:=zz0;refine⟨U,H0,r.e,?_⟩;unfold sq at q;cases e:F U with
  | val o =>
   rw[e]at q;cases o with
   | nx ρ'=>exact λσ' H' r'=>⟨ρ',H0,r',q⟩
   | rt d=>exact q
   | bk ρ'=>exact q
   | ct ρ'=>exact q
  | exc c=>rw[e]at q;exact q
  | bad=>rw[e]at q;exact q
theorem zR {F:Rho->R Out} (h:SD C X st F):SDs C X [st] F:=eI h
theorem bN {Dn:gt} {U:RB} {O:St} {H:Hp} (r:b_ C X H0 U O H) (h:pS C X (.exc c) H0 Dn):XE X c O H:=XS.xe (r.keep.trans msk_sub) h
theorem C8 {e:Expr} {pos':Pos} (hN:X.N.Nodup) (hi:X.N[i]?=some x) (hx:Loc X.env.scope x) (he:ED C X e F) (hs:swapsWith e (some (.Name x pos')) pos.line X.env=pure false:=by rfl)
    (hf:X.fn x=true\/X.env.scope.names.lookup x=some .local:=by first|exact .inl rfl|exact .inr rfl|assumption):SD C X (.Assign [.Name x pos'] e pos) (asg i F) :=
  aH (lz hN hi hx he hs hf) λD O H yy8=>by
   obtain⟨_,H0,⟨U,rfl,r⟩,q⟩:=yy8;exact⟨U,⟨H0,r⟩,au (P:=λz _=>pS C X z H0 D) (λc h=>bN r h) (λh=>h) q λd v H1 s1 h1 q1=>q1 _ _ ⟨_,rfl,(r.mono s1).setShr h1⟩⟩
theorem Da {e:Expr} {pos':Pos} {F:Rho->R (List D)} (hN:X.N.Nodup) (hi:X.N[i]?=some x) (hx:Loc X.env.scope x) (he:FD C X e F) (hs:swapsWith e (some (.Name x pos')) pos.line X.env=pure false:=by rfl)
    (hf:X.fn x=true\/X.env.scope.names.lookup x=some .local:=by first|exact .inl rfl|exact .inr rfl|assumption):SD C X (.Assign [.Name x pos'] e pos) (own i F) :=
  aH (lz hN hi hx he hs hf) λD O H yy9=>by
   obtain⟨_,H0,⟨U,rfl,r⟩,q⟩:=yy9;exact⟨U,⟨H0,r⟩,by
    unfold own at q;cases e:F U with
    | val xs =>
      rw[e]at q;exact λa vs H1 s1 hn h1=>q _ _ ⟨_,rfl,(r.mono s1).setOwn hn h1⟩
    | exc c=>rw[e]at q;exact bN r q
    | bad=>rw[e]at q;exact q⟩
theorem C9 {e:Expr} (he:ED C X e F):SD C X (.Return (some e) pos) (ret F) :=
  aH (oG he) λD O H yy10=>by
   obtain⟨_,H0,⟨U,rfl,r⟩,q⟩:=yy10;exact⟨U,⟨H0,r⟩,au (P:=λz _=>pS C X z H0 D) (λc h=>bN r h) (λh=>h) q λd v H1 s1 h1 q1=>q1 v H1 ((r.mono s1).keep.trans msk_sub) (h1.mono msk_sub)⟩
theorem z4 {e:Expr} (he:EB C X e F) (hs:swapsWith e none pos.line X.env=pure false:=by rfl):SD C X (.Expr e pos) (drp F) :=
  aH (fR he hs) λD O H yy11=>by
   obtain⟨_,H0,⟨U,rfl,r⟩,q⟩:=yy11;exact⟨U,⟨H0,r⟩,au (P:=λz _=>pS C X z H0 D) (λc h=>bN r h) (λh=>h) q λd v H1 s1 h1 q1=>q1 _ _ (r.mono s1).e⟩
theorem FJ {c:Expr} {a b:List Stmt} {Ft:Rho->R Bool} {Fa Fb:Rho->R Out} (hc:TD C X c Ft) (ha:SDs C X a Fa) (hb:SDs C X b Fb):SD C X (.If c a b pos) (iff Ft Fa Fb) :=
  aH (xz hc ha hb) λD O H yy12=>by
   obtain⟨_,H0,⟨U,rfl,r⟩,q⟩:=yy12;exact⟨U,⟨H0,r⟩,iY (P:=λz _=>pS C X z H0 D) (λc h=>bN r h) (λh=>h) q λc H1 s1 q1=>by
    cases c with
    | true=>exact sU ⟨U,H0,(r.mono s1).e,q1⟩
    | false=>exact sV ⟨U,H0,(r.mono s1).e,q1⟩⟩
theorem Df:SD C X st bad:=aH xy λD O H yy13=>by
 obtain⟨_,H0,⟨U,rfl,r⟩,q⟩:=yy13;exact q
theorem zU {st:List Stmt}:SDs C X st bad:=cg vN λD O H yy14=>by
 obtain⟨_,H0,⟨U,rfl,r⟩,q⟩:=yy14;exact q
def frz (i:Nat) (U:Rho):Rho:=match U[i]? with
 | some (some (.own xs))=>U.set i (some (.shr (.lst xs)))
 | some (some (.tre _ d))=>U.set i (some (.shr d))
 | _=>U
theorem Rel.frz {K:Frag} {H0:Hp} {U:Rho} (r:tR K C H0 U O H) (i:Nat):tR K C H0 (DL.frz i U) O H:=by
 obtain⟨U,rfl,r⟩:=r;unfold DL.frz;split
 ·exact⟨_,rfl,r.freeze ‹_›⟩
 ·exact⟨_,rfl,r.thaw ‹_›⟩
 ·exact r.e
theorem zT {sts:List Stmt} {F:Rho->R Out} (i:Nat) (h:SDs C X sts F):SDs C X sts (λU=>F (frz i U)):=cg h λD O H yy16=>by
 obtain⟨U,H0,r,q⟩:=yy16;exact⟨frz i U,H0,Rel.frz r i,q⟩
def app (i:Nat) (e:Rho->R D):Rho->R Out:=λU=>match U[i]? with
 | some (some (.own xs))=>(e U).bind λd=>if xs.length<LIM then .val (.nx (U.set i (some (.own (xs++[d])))))else .bad
 | _=>.bad
theorem Dh {e:Expr} {ap cp:Pos} (hv:PE X (.Name x p) (c8 i)) (he:ED C X e F)
  (hs:∀{to:TE} {t:TA},PE X (.Name x p) to->PA X [e] t->PS X (.Expr (.Call (.Attribute (.Name x p) "append" ap) [e] [] cp) pos) (j4 (tBM X.K "list" oC to t)):=by
   exact λho ha=>fR (iX ϴ PySem.F.slot_list_append PySem.F.type_list_append jJ ho ha))
  (hst:starEach [e] X.env=(false,eval e X.env)::starEach [] X.env:=by rfl) :
  SD C X (.Expr (.Call (.Attribute (.Name x p) "append" ap) [e] [] cp) pos) (app i F) :=
 aH (hs hv (aQ he bH hst)) λD O H zz1=>by
  obtain⟨_,H0,⟨U,rfl,r⟩,q⟩:=zz1;unfold app at q;split at q
  ·rename_i xs e0;obtain⟨a,vs,e1,_,h1,h2⟩:=r.at_ i _ e0;refine⟨_,e1,.inl ⟨rfl,_,SqL.of h1⟩,U,⟨H0,r⟩,au (P:=λz _=>pS C X z H0 D) (λc h=>bN r h) (λh=>h) q λd v H1 s1 h3 q1=>?_⟩;split at q1
   ·rename_i hl;have h2':=h2.mono (az (U:=U) (O:=O) s1);refine⟨a,vs,v,rfl,rfl,s1 _ _ h1,by rw[h2.len];exact Ϛ hl (by decide),?_⟩;exact q1 _ _ ⟨_,rfl,(r.mono s1).write e0 e1 (h2'.app (.cons h3 .nil))⟩
   ·exact q1.elim
  ·exact q.elim
end
def Ej:HO->Bool
 | .lst _=>true
 | .ins _ _ _=>true
 | .own _=>true
 | .ext _=>true
 | _=>false
structure Hid (H:Hp) (h:Heap) (zs:List Addr):Prop where
 kind:∀z∈zs,∃o,H z=some o/\Ej o=true
 insd:∀z∈zs,∀c dx fs,H z=some (.ins c dx fs)->dx∈zs
 own:∀z∈zs,∀a,H z=some (.own a)->a∈zs
 obj:∀z∈zs,∃o,h.get? z=some o/\∀v,o.data ≠ .cell v
def cut (zs:List Addr) (H:Hp):Hp:=λb=>if b∈zs then none else H b
def jn (zs:List Addr) (H M:Hp):Hp:=λb=>if b∈zs then H b else M b
variable {zs:List Addr}
theorem cut_some {b:Addr}:cut zs H b=some o↔b∉zs/\H b=some o:=by
 unfold cut;by_cases h:b∈zs
 ·rw[if_pos h];exact⟨λe=>(by cases e),λe=>absurd h e.1⟩
 ·rw[if_neg h];exact⟨λe=>⟨h,e⟩,λe=>e.2⟩
theorem dm {b:Addr} (h:b∈zs):cut zs H b=none:=by unfold cut;rw[if_pos h]
theorem ge {b:Addr} (h:b∈zs):jn zs H M b=H b:=by unfold jn;rw[if_pos h]
theorem a_ {b:Addr} (h:b∉zs):jn zs H M b=M b:=by unfold jn;rw[if_neg h]
section
variable {X:Cx} {pins:List (Addr×Obj)} {O:St} {H M:Hp} {s s':Shared} {zs:List Addr}
theorem _root_.L2.Inv.hide (I:Inv X pins O H s) (Z:Hid H s.heap zs):Inv X (pins++bY zs s.heap) O (cut zs H) s:=by
 have nk:∀b o,H b=some o->Ej o=false->b∉zs:=λb o e k hb=>by
  obtain⟨o',e',k'⟩:=Z.kind b hb;rw[e]at e';cases e';rw[k]at k';cases k'
 have nz:∀b,H b=none->b∉zs:=λb e hb=>by
  obtain⟨o',e',k'⟩:=Z.kind b hb;rw[e]at e';cases e'
 have none':∀b,H b=none->cut zs H b=none:=λb e=>by unfold cut;split<;>first|rfl|exact e
 have I1:Inv X pins O (cut zs H) s:=by
  refine⟨I.ok,I.os,I.bare,⟨I.base.keep,I.base.slot,λb o q n hx=>none' b (I.base.free b o q n hx),I.base.there,λb xs e=>?_,λb o u e=>?_,λb ps e=>?_⟩,I.loc,I.cell,none' _ I.free,λx c e=>none' _ (I.freeC x c e),λp hp=>?_,λa o e=>?_,I.len⟩
  ·have e1:=I.base.tups b xs e;exact cut_some.mpr ⟨nk b _ e1 rfl,e1⟩
  ·have e1:=I.base.frzs b o u e;exact cut_some.mpr ⟨nk b _ e1 rfl,e1⟩
  ·obtain⟨more,e1⟩:=I.base.tbls b ps e;exact⟨more,cut_some.mpr ⟨nk b _ e1 rfl,e1⟩⟩
  ·obtain⟨h1,h2,h3⟩:=I.pin p hp;exact⟨h1,none' _ h2,h3⟩
  ·obtain⟨h1,h2⟩:=cut_some.mp e;refine(I.hok a o h2).stay (λb u _ q=>q) (λb q=>cut_some.mpr ⟨λhb=>h1 (Z.own b hb a q),q⟩) λb xs q=>cut_some.mpr ⟨nk b _ q rfl,q⟩
 refine I1.pins_of λp hp=>?_;rcases Ϩ.mp hp with hp|hp
 ·exact I1.pin p (ϐ _ hp)
 ·obtain⟨h1,h2⟩:=h_ hp;obtain⟨o',e',k'⟩:=Z.kind p.1 h1;obtain⟨o,e,d⟩:=Z.obj p.1 h1;rw[h2]at e;cases e;refine⟨h2,dm h1,λz=>?_,λz=>?_,d⟩
  ·rw[z,I.free]at e';cases e'
  ·rw[I.frn _ z]at e';cases e'
theorem _root_.L2.Inv.showG {pins' pins'':List (Addr×Obj)} (I:Inv X pins O H s) (Z:Hid H s.heap zs) (J:Inv X pins' σ' M s') (h1:∀p∈bY zs s.heap,p∈pins') (h2:∀p∈pins'',p∈pins'/\H p.1=none):Inv X pins'' σ' (jn zs H M) s'/\∀z∈zs,M z=none:=by
 have nk:∀b o,H b=some o->Ej o=false->b∉zs:=λb o e k hb=>by
  obtain⟨o',e',k'⟩:=Z.kind b hb;rw[e]at e';cases e';rw[k]at k';cases k'
 have nz:∀b,H b=none->b∉zs:=λb e hb=>by
  obtain⟨o',e',k'⟩:=Z.kind b hb;rw[e]at e';cases e'
 have pin:∀z∈zs,∀o,s.heap.get? z=some o->s'.heap.get? z=some o/\M z=none:=λz hz o e=>by
  have q:=J.pin (z,o) (ϐ _ (h1 _ (dY hz e)));exact⟨q.1,q.2.1⟩
 have mz:∀z∈zs,M z=none:=λz hz=>by
  obtain⟨o,e,_⟩:=Z.obj z hz;exact(pin z hz o e).2
 have none':∀b,H b=none->M b=none->jn zs H M b=none:=λb e e'=>by rw[a_ (nz b e)];exact e'
 refine⟨⟨J.ok,J.os,J.bare,⟨J.base.keep,J.base.slot,λb o q n hx=>none' b (I.base.free b o q n hx) (J.base.free b o q n hx),J.base.there,λb xs e=>?_,λb o u e=>?_,λb ps e=>?_⟩,J.loc,J.cell,none' _ I.free J.free,λx c e=>none' _ (I.freeC x c e) (J.freeC x c e),λp hp=>?_,λa o e=>?_,J.len⟩,mz⟩
 ·rw[a_ (nk b _ (I.base.tups b xs e) rfl)];exact J.base.tups b xs e
 ·rw[a_ (nk b _ (I.base.frzs b o u e) rfl)];exact J.base.frzs b o u e
 ·obtain⟨more,e1⟩:=I.base.tbls b ps e;rw[a_ (nk b _ e1 rfl)];exact J.base.tbls b ps e
 ·rcases Ϩ.mp hp with hp|hp
  ·obtain⟨q1,q2,q3⟩:=J.pin p (ϟ _ hp);exact⟨q1,none' _ (I.pin p (ϟ _ hp)).2.1 q2,q3⟩
  ·obtain⟨q1,q2,q3⟩:=J.pin p (ϐ _ (h2 p hp).1);exact⟨q1,none' _ (h2 p hp).2 q2,q3⟩
 ·by_cases ha:a∈zs
  ·rw[ge ha]at e;obtain⟨o',e',k'⟩:=Z.kind a ha;rw[e]at e';cases e';have ok:=I.hok a o e;have same:∀u,s.heap.get? a=some u->s'.heap.get? a=some u:=λu q=>(pin a ha u q).1;cases o with
   | lst xs=>obtain⟨z,its,n,r,e1⟩:=ok;exact⟨z,its,n,r,same _ e1⟩
   | own y=>obtain⟨u,e1⟩:=ok;exact⟨u,same _ e1⟩
   | ext φ=>obtain⟨p,⟨u,e1⟩,st⟩:=ok;exact⟨st _ _ p λo q=>same o q,⟨u,same _ e1⟩,st⟩
   | ins c dx fs =>
    obtain⟨d,z,ne,e1,mA,⟨od,es,ep,e2,rest⟩,r⟩:=ok;have hd:dx∈zs:=Z.insd a ha c dx fs e;exact⟨by rw[ge hd];exact d,z,ne,same _ e1,mA,⟨od,es,ep,(pin dx hd _ e2).1,rest⟩,r⟩
   | _=>cases k'
  ·rw[a_ ha]at e;refine(J.hok a o e).stay (λb u _ q=>q) (λb q=>?_) λb xs q=>?_
   ·rw[a_ λhb=>by rw[mz b hb]at q;cases q];exact q
   ·rw[a_ λhb=>by rw[mz b hb]at q;cases q];exact q
theorem _root_.L2.Inv.show' (I:Inv X pins O H s) (Z:Hid H s.heap zs) (J:Inv X (pins++bY zs s.heap) O M s'):Inv X pins O (jn zs H M) s'/\∀z∈zs,M z=none :=
 I.showG Z J (λp hp=>ϐ _ hp) λp hp=>⟨ϟ _ hp,(I.pin p (ϐ _ hp)).2.1⟩
end
def br (U:RB) (O:St):List Addr:=(List.range U.rho.length).flatMap U.ad
variable {U:RB}
theorem dZ {b:Addr} (hb:∀(i:Nat) a,a∈U.ad i->i<U.rho.length):b∈br U O↔Own U O b:=by
 unfold br;rw[Τ];exact⟨λ⟨i,_,h⟩=>⟨i,h⟩,λ⟨i,h⟩=>⟨i,ό.mpr (hb i b h),h⟩⟩
theorem cu (hb:∀(i:Nat) a,a∈U.ad i->i<U.rho.length):msk U O H=cut (br U O) H:=by
 funext b
 unfold msk cut;by_cases h:Own U O b
 ·rw[if_pos h,if_pos ((dZ hb).mpr h)]
 ·rw[if_neg h,if_neg λz=>h ((dZ hb).mp z)]
theorem Rel.hid {pins:List (Addr×Obj)} (r:b_ C X H0 U O H) (I:Inv X pins O H s):Hid H s.heap (br U O):=by
 have key:∀z∈br U O,(∃vs,H z=some (.lst vs))\/∃xs,H z=some (jw z xs):=λz hz=>by
  obtain⟨i,h⟩:=(dZ r.bnd).mp hz;exact r.kin i z h
 refine⟨λz hz=>?_,λz hz c dx fs e=>?_,λz hz a e=>?_,λz hz=>?_⟩
 ·rcases key z hz with⟨vs,e⟩|⟨vs,e⟩<;>exact⟨_,e,rfl⟩
 ·rcases key z hz with⟨vs,e'⟩|⟨vs,e'⟩<;>(rw[e]at e';cases e')
 ·rcases key z hz with⟨vs,e'⟩|⟨vs,e'⟩<;>(rw[e]at e';cases e')
 ·rcases key z hz with⟨vs,e'⟩|⟨vs,e'⟩
  ·obtain⟨_,its,n,_,e1⟩:=I.hok z _ e';exact⟨_,e1,λv q=>by cases q⟩
  ·obtain⟨⟨_,_,o,es,ep,e1,_,e2,_⟩,_⟩:=I.hok z _ e';exact⟨o,e1,λv q=>by rw[e2]at q;cases q⟩
def spD (K:Frag) (C:Addr) (n:Nat) (den:List D->R D):Sp:=λvs H Q _=>vs.length=n/\∃ds,HasL K C H vs ds/\match den ds with
 | .val d=>∀v H',Same H H'->Has K C H' v d->Q v H'
 | _=>False
section
variable {C:Addr} {X:Cx}
def noex:R D->R D
 | .val d=>.val d
 | _=>.bad
def cal (n:Nat) (den:List D->R D) (a:Rho->R (List D)):Rho->R D:=λU=>(a U).bind λds=>if ds.length=n then noex (den ds)else .bad
theorem BD {CX:CXT} {f:Addr} {fd:FuncData} {ps:List Str} {den:List D->R D} {e:Expr} {Fa:Rho->R (List D)}
  (F:FnOk X.prog X.w X.K X.mg X.base CX k f fd ps (spD X.K C n den)) (hr:Room k X.A) (hg:Gl X x) (hm:X.mg x=some (.ref f)) (hk:keepIn X.K (.ref f)=true) (hb:Binds X.K fd ps []) (hx:pX CX X E0)
  (ha:AD C X (e::es) Fa) (hdb:(x==("__debug__":Str))=false:=by decide) (he:starEach (e::es) X.env=(false,eval e X.env)::starEach es X.env:=by rfl) (hpl:(backTo pos (starEach es X.env)).any (·.1)=false:=by rfl) :
  ED C X (.Call (.Name x p) (e::es) [] pos) (cal n den Fa):=by
 rintro pins s O H Q I ⟨U,⟨H0,r0⟩,q⟩;refine wpAny_Call_Name_kw (cP I hg hm ?_ hdb);refine callWith_K (h₀:=X.base) I.ok.mod.kin hk (thn (ha pos pins s O H (λvs H1=>∃ds d,ds.length=n/\Same H H1/\eW C X U O H1 vs ds/\den ds=.val d/\∀v H',Same H H'->bS C X U O H' v d->Q v H') I
  ⟨U,⟨H0,r0⟩,bQ (P:=λz H=>pV X (bS C X U O) z O H Q) (λ_ h=>h) (λh=>h) q λds vs H1 s1 h1 q1=>?_⟩) λus s1 ⟨vs,H1,I1,rv,ds,d,hl,s1',h1,e1,q1⟩=>⟨I1.kIn,?_⟩) he hpl
 ·split at q1
  ·rename_i hl;cases e1:den ds with
   | val d=>rw[e1]at q1;exact⟨ds,d,hl,s1,h1,e1,q1⟩
   | exc c=>rw[e1]at q1;exact q1.elim
   | bad=>rw[e1]at q1;exact q1.elim
  ·exact q1.elim
 ·have r1:=r0.mono s1';have Z:=Rel.hid r1 I1;have J:=I1.hide Z;refine thn (lx (E:=E0) (Q:=λv M'=>Same (cut (br U O) H1) M'/\Has X.K C M' v d) F hr hb .nil hx J rv ?_) λu s2 ⟨v,M',J2,ru,sm,hv⟩=>?_
  ·rw[Ϫ];refine⟨h1.len.trans hl,ds,by rw[<- cu r0.bnd];exact h1,?_⟩;rw[e1];exact λv H' s2 h2=>⟨s2,h2⟩
  ·obtain⟨I2,mz⟩:=I1.show' Z J2;have sj:Same H1 (jn (br U O) H1 M'):=λb o eb=>by
    by_cases hb:b∈br U O
    ·rw[ge hb];exact eb
    ·rw[a_ hb];exact sm b o (cut_some.mpr ⟨hb,eb⟩)
   have em:msk U O (jn (br U O) H1 M')=M':=by
    rw[cu r0.bnd]
    funext b
    by_cases hb:b∈br U O
    ·rw[dm hb,mz b hb]
    ·unfold cut;rw[if_neg hb,a_ hb]
   exact⟨v,_,I2,ru,q1 v _ (s1'.trans sj) (by show Has _ _ (msk U O _) v d;rw[em];exact hv)⟩
end
def tgN (i:Nat):D->Rho->Option Rho:=λx U=>some (U.set i (some (.shr x)))
def tg2 (i j:Nat):D->Rho->Option Rho:=λx U=>match x with
 | .tup [a,b]=>some ((U.set i (some (.shr a))).set j (some (.shr b)))
 | _=>none
def tg3 (i j k:Nat):D->Rho->Option Rho:=λx U=>match x with
 | .tup [a,b,c]=>some (((U.set i (some (.shr a))).set j (some (.shr b))).set k (some (.shr c)))
 | _=>none
variable {tg:Expr} {T:D->Rho->Option Rho}
section
variable {C:Addr} {X:Cx}
variable (C X) in
def gtD (ix:List Nat) (T:D->Rho->Option Rho):TG:=λv O H Q=>∃(U:RB) (H0:Hp) (x:D) (ρ':Rho),b_ C X H0 U O H/\bS C X U O H v x/\T x U=some ρ'/\∀(σ':St) (β:RB),β.rho=ρ'->(∀j:Nat,β.ad j=if j∈ix then[]else U.ad j)->b_ C X H0 β σ' H->(∀j:Nat,j∉ix->σ'[j]?=O[j]?)->Q σ' H
variable (C X) in
def GD (tg:Expr) (ix:List Nat) (T:D->Rho->Option Rho):Prop:=PG X tg (gtD C X ix T)
theorem oI {t t':TG} (h:PG X tg t) (hw:∀v O H Q,t' v O H Q->t v O H Q):PG X tg t':=λpins s O H v u Q I r q=>h pins s O H v u Q I r (hw v O H Q q)
theorem h8 (j:Nat):(U.put i (.shr d) []).ad j=if j=i then[]else U.ad j:=by
 unfold RB.put;dsimp only;split
 ·split<;>rfl
 ·rfl
theorem ia:Same (msk U O H) (msk (U.put i (.shr d) []) σ' H):=λb o eb=>by
 obtain⟨h1,h2⟩:=msk_some.mp eb;refine msk_some.mpr ⟨λ⟨j,z⟩=>?_,h2⟩;rcases dU z with⟨_,_,z⟩|⟨_,z⟩
 ·cases z
 ·exact h1 ⟨j,z⟩
theorem A8 (hN:X.N.Nodup) (hi:X.N[i]?=some x) (hx:Loc X.env.scope x) (hf:X.fn x=true\/X.env.scope.names.lookup x=some .local:=by first|exact .inl rfl|exact .inr rfl|assumption) :
  GD C X (.Name x pos) [i] (tgN i):=oI (kT hN hi hx hf) λv O H Q zz0=>by
 obtain⟨U,H0,x,ρ',r,h,e,k⟩:=zz0;cases e;exact k _ _ rfl (λj=>by rw[h8];by_cases e1:j=i<;>simp[e1]) (r.setShr h) λj hj=>ϖ λz=>hj (by simp[z])
theorem Ek {y:Str} {px py:Pos} (hc:X.calm=true) (h1:PG X (.Name x px) (cR i)) (h2:PG X (.Name y py) (cR j))
  (hs1:(assignEach [.Name x px,.Name y py] X.env).map (·.2)=assign (.Name x px) X.env::(assignEach [.Name y py] X.env).map (·.2):=by rfl)
  (hs2:(assignEach [.Name y py] X.env).map (·.2)=assign (.Name y py) X.env::(assignEach [] X.env).map (·.2):=by rfl)
  (hn:(assignEach [.Name x px,.Name y py] X.env).length=2:=by rfl) (hst:(assignEach [.Name x px,.Name y py] X.env).findIdx? (·.1)=none:=by rfl) :
  GD C X (.Tuple [.Name x px,.Name y py] n pos) [i,j] (tg2 i j):=oI (xG hc (gz h1 (gz h2 uD hs2) hs1) hn hst) λv O H Q zz1=>by
 obtain⟨U,H0,d,ρ',r,h,e,k⟩:=zz1;unfold tg2 at e;split at e
 ·rename_i a b;cases e;cases h with
  | tup q hl =>
   cases hl with
   | @cons va _ _ _ ha hl =>
    cases hl with
    | @cons vb _ _ _ hb hl =>
     cases hl;refine⟨_,_,rfl,SqT.of (msk_sub _ _ q),rfl,va,_,rfl,vb,_,rfl,rfl,?_⟩;have r1:=r.setShr (i:=i) ha;refine k _ _ rfl (λm=>?_) (r1.setShr (i:=j) (hb.mono ia)) λm hm=>?_
     ·rw[h8,h8];by_cases e1:m=i<;>by_cases e2:m=j<;>simp[e1,e2]
     ·rw[ϖ λz=>hm (by simp[z]),ϖ λz=>hm (by simp[z])]
 ·cases e
theorem yo {l:Nat} {y w:Str} {px py pw:Pos} (hc:X.calm=true) (h1:PG X (.Name x px) (cR i)) (h2:PG X (.Name y py) (cR j)) (h3:PG X (.Name w pw) (cR l))
  (hs1:(assignEach [.Name x px,.Name y py,.Name w pw] X.env).map (·.2)=assign (.Name x px) X.env::(assignEach [.Name y py,.Name w pw] X.env).map (·.2):=by rfl)
  (hs2:(assignEach [.Name y py,.Name w pw] X.env).map (·.2)=assign (.Name y py) X.env::(assignEach [.Name w pw] X.env).map (·.2):=by rfl)
  (hs3:(assignEach [.Name w pw] X.env).map (·.2)=assign (.Name w pw) X.env::(assignEach [] X.env).map (·.2):=by rfl)
  (hn:(assignEach [.Name x px,.Name y py,.Name w pw] X.env).length=3:=by rfl) (hst:(assignEach [.Name x px,.Name y py,.Name w pw] X.env).findIdx? (·.1)=none:=by rfl) :
  GD C X (.Tuple [.Name x px,.Name y py,.Name w pw] n pos) [i,j,l] (tg3 i j l):=oI (xG hc (gz h1 (gz h2 (gz h3 uD hs3) hs2) hs1) hn hst) λv O H Q zz2=>by
 obtain⟨U,H0,d,ρ',r,h,e,k⟩:=zz2;unfold tg3 at e;split at e
 ·rename_i a b c;cases e;cases h with
  | tup q hl =>
   cases hl with
   | @cons va _ _ _ ha hl =>
    cases hl with
    | @cons vb _ _ _ hb hl =>
     cases hl with
     | @cons vc _ _ _ hc' hl =>
      cases hl;refine⟨_,_,rfl,SqT.of (msk_sub _ _ q),rfl,va,_,rfl,vb,_,rfl,vc,_,rfl,rfl,?_⟩;have r1:=r.setShr (i:=i) ha;have r2:=r1.setShr (i:=j) (hb.mono ia);refine k _ _ rfl (λm=>?_) (r2.setShr (i:=l) ((hc'.mono (ia (σ':=O.set i (some va)))).mono ia)) λm hm=>?_
      ·rw[h8,h8,h8];by_cases e1:m=i<;>by_cases e2:m=j<;>by_cases e3:m=l<;>simp[e1,e2,e3]
      rw[ϖ λz=>hm (by simp[z]),ϖ λz=>hm (by simp[z]),ϖ λz=>hm (by simp[z])]
 ·cases e
def asT (T:D->Rho->Option Rho) (e:Rho->R D):Rho->R Out:=λU=>(e U).bind λd=>match T d U with
 | some ρ'=>.val (.nx ρ')
 | none=>.bad
theorem Dg {e : Expr} {ix : List Nat} (he : ED C X e F) (hg : GD C X tg ix T) (hs : swapsWithSole [tg] e pos.line X.env = pure false := by rfl) (hw : swappedStores [tg] e X.env = pure none := by rfl)
    (h1 : (assignEach [tg] X.env).map (·.2) = [assign tg X.env] := by rfl) : SD C X (.Assign [tg] e pos) (asT T F) :=
  aH (oH he hg hs hw h1) fun D O H yy0 => by
   obtain ⟨_, H0, ⟨U, rfl, r⟩, q⟩ := yy0
   exact ⟨U, ⟨H0, r⟩, au (P := fun z _ => pS C X z H0 D) (fun c h => bN r h) (fun h => h) q fun d v H1 s1 h1 q1 => by
    split at q1
    · rename_i ρ' e1
      exact ⟨U, H0, d, ρ', r.mono s1, h1, e1, fun σ' β eb _ r' _ => q1 σ' H1 ⟨β, eb, r'⟩⟩
    · exact q1.elim⟩
def par (i j:Nat) (a:Rho->R (List D)):Rho->R Out:=λU=>(a U).bind λds=>match ds with
 | [x,y]=>.val (.nx ((U.set i (some (.shr x))).set j (some (.shr y))))
 | _=>.bad
theorem C_ {F : Rho -> R (List D)} (ha : AD C X es F) (h : ∀ {t : TA}, PA X es t -> PS X st (zJ i j t)) : SD C X st (par i j F) :=
  aH (h ha) fun D O H yy1 => by
   obtain ⟨_, H0, ⟨U, rfl, r⟩, q⟩ := yy1
   exact ⟨U, ⟨H0, r⟩, bQ (P := fun z _ => pS C X z H0 D) (fun c h => bN r h) (fun h => h) q fun ds vs H1 s1 h1 q1 => by
    split at q1
    · rename_i x y
      cases h1 with
      | @cons va _ _ _ ha hl =>
        cases hl with
        | @cons vb _ _ _ hb hl =>
          cases hl
          refine ⟨va, vb, rfl, q1 _ _ ?_⟩
          exact ⟨_, rfl, ((r.mono s1).setShr (i := i) ha).setShr (i := j) (hb.mono ia)⟩
    · exact q1.elim⟩
structure pW (K:Frag) (C:Addr) (J:It) (xs:List D) (M:Hp):Prop where
 go:∀(i:Nat) x H2,Same M H2->xs[i]?=some x->J.go i H2/\∀v H3,J.yld i H2 v H3->Same H2 H3/\∀U O,(∀b,Own U O b->H2 b≠none)->Same M (msk U O H2)->Has K C (msk U O H3) v x
 stop:∀H2,Same M H2->J.stop xs.length H2
variable (C X) in
def itI (F:Rho->R (List D)):TI:=λO H Rk=>∃U:RB,(∃H0,b_ C X H0 U O H)/\match F U with
 | .val xs=>∀J H',Same H H'->pW X.K C J xs (msk U O H')->Rk J H'
 | .exc c=>XE X c O H
 | .bad=>False
variable (C X) in
def ID (tg iter:Expr) (F:Rho->R (List D)):Prop:=PI X tg iter (itI C X F)
theorem kS {e:Expr} {t t':TI} (h:PI X tg e t) (hw:∀O H Q,t' O H Q->t O H Q):PI X tg e t':=λpins s O H R I q=>h pins s O H R I (hw O H R q)
theorem vx {a:Addr} (e:M a=some (.lst vs)) (h:HasL K C M vs xs):pW K C (Itl K a) xs M where
 go:=λi x H2 s hx=>by
  obtain⟨v,e1,h1⟩:=h.get hx;refine⟨⟨vs,v,SqL.of (s _ _ e),e1⟩,λv' H3 y=>?_⟩;obtain⟨rfl,y⟩:=y;have e2:=y vs (SqL.of (s _ _ e));rw[e1]at e2;cases e2;exact⟨Same.refl _,λU O _ m=>h1.mono m⟩
 stop:=λH2 s=>⟨vs,SqL.of (s _ _ e),by rw[h.len];exact ϗ _⟩
theorem wE {a:Addr} (e:M a=some (.tup vs)) (h:HasL K C M vs xs):pW K C (Itt K a) xs M where
 go:=λi x H2 s hx=>by
  obtain⟨v,e1,h1⟩:=h.get hx;refine⟨⟨vs,v,SqT.of (s _ _ e),e1⟩,λv' H3 y=>?_⟩;obtain⟨rfl,y⟩:=y;have e2:=y vs (SqT.of (s _ _ e));rw[e1]at e2;cases e2;exact⟨Same.refl _,λU O _ m=>h1.mono m⟩
 stop:=λH2 s=>⟨vs,SqT.of (s _ _ e),by rw[h.len];exact ϗ _⟩
theorem wF {a:Addr} {ns:List Int} (e:SqL K M a (ns.map V.int)):pW K C (Itl K a) (ns.map D.int) M where
 go:=λi x H2 s hx=>by
  obtain⟨v,e1,h1⟩:=(HasL.ints (K:=K) (C:=C) (H:=M) ns).get hx;refine⟨⟨_,v,s.seq e,e1⟩,λv' H3 y=>?_⟩;obtain⟨rfl,y⟩:=y;have e2:=y _ (s.seq e);rw[e1]at e2;cases e2;exact⟨Same.refl _,λU O _ m=>h1.mono m⟩
 stop:=λH2 s=>⟨_,s.seq e,by simp⟩
def rng (lo:Int) (n:Nat):List D:=(List.range n).map λ(k:Nat)=>D.int (lo+(k:Int))
theorem wG {lo:Int}:pW K C (Itr lo n) (rng lo n) M where
 go:=λi x H2 s hx=>by
  have hi:i<n:=by have:=(ώ.mp hx).1;simpa[rng]using this
  refine⟨hi,λv H3 y=>?_⟩;obtain⟨rfl,rfl⟩:=y;refine⟨Same.refl _,λU O _ m=>?_⟩;have:x=.int (lo+(i:Int)):=by
   unfold rng at hx;rw[ϥ,List.getElem?_range hi]at hx;exact(Ϥ hx).symm
  rw[this];exact .int _
 stop:=λH2 s=>by simp[rng,Itr]
theorem DA {l:Expr} {tl:TE} (hl:PE X l tl):PI X tg l (λO H R=>tl O H λx H1=>∃a,x=.ref a/\(((∃xs,SqL X.K H1 a xs)/\R (Itl X.K a) H1)\/((∃xs,SqT X.K H1 a xs)/\R (Itt X.K a) H1))):=by
 intro pins s O H R I h;refine thn (hl pins s O H _ I h) λv s1 zz3=>?_;obtain⟨x,H1,I1,r1,q1⟩:=zz3;obtain⟨a,e,q1⟩:=q1;subst e;cases r1;rcases q1 with⟨⟨xs,hq⟩,q⟩|⟨⟨xs,hq⟩,q⟩
 ·obtain⟨its,rv,p,hz⟩:=I1.list hq;refine wpAny_pyIter_list p.isList ?_;refine⟨s1.heap.objs.size,[s1.heap.objs.size],_,_,H1,rfl,I1.kept (t':=s1.toks) λb o e=>ϒ _ e,nj a _,⟨_,ϧ _ rfl,rfl,rfl⟩,λb hb=>?_,q⟩;have e:b=s1.heap.objs.size:=by simpa using hb
  subst e;exact I1.fpOk (ϗ _) (I1.hok.fresh (ϗ _))
 ·obtain⟨its,rv,p,hz⟩:=I1.tuple hq;refine wpAny_pyIter_tuple (show s1.heap.IsTuple a its.toArray from p) ?_;refine⟨s1.heap.objs.size,[s1.heap.objs.size],_,_,H1,rfl,I1.kept (t':=s1.toks) λb o e=>ϒ _ e,rW a _,⟨_,ϧ _ rfl,rfl,rfl⟩,λb hb=>?_,q⟩;have e:b=s1.heap.objs.size:=by simpa using hb
  subst e;exact I1.fpOk (ϗ _) (I1.hok.fresh (ϗ _))
theorem Ei {e:Expr} (h:ED C X e F):ID C X tg e (fIt F):=kS (DA h) λO H R yy2=>by
 obtain⟨U,⟨H0,r⟩,q⟩:=yy2;exact⟨U,⟨H0,r⟩,by
  unfold fIt at q;cases e:F U with
  | val d =>
    rw[e]at q;intro v H1 s1 h1;cases h1 with
    | lst e1 h1=>exact⟨_,rfl,.inl ⟨⟨_,SqL.of (msk_sub _ _ e1)⟩,q _ H1 s1 (vx e1 h1)⟩⟩
    | tup e1 h1=>exact⟨_,rfl,.inr ⟨⟨_,SqT.of (msk_sub _ _ e1)⟩,q _ H1 s1 (wE e1 h1)⟩⟩
    | scr e1=>exact⟨_,rfl,.inl ⟨⟨_,msk_sub.seq e1⟩,q _ H1 s1 (wF e1)⟩⟩
    | _=>exact q.elim
  | exc c=>rw[e]at q;exact q
  | bad=>rw[e]at q;exact q⟩
def mI:List D->R (List D)
 | [.int j]=>if -(2 ^ 62)<=j/\j<2 ^ 62 then .val (rng 0 j.toNat)else .bad
 | _=>.bad
def aK (F:Rho->R (List D)):Rho->R (List D):=λU=>(F U).bind mI
theorem yk {F : Rho -> R (List D)} (hg : Gl X "range") (hm : X.mg "range" = none) (ha : AD C X [a] F) (hs : starEach [a] X.env = [(false, eval a X.env)] := by rfl) :
    ID C X tg (.Call (.Name "range" p) [a] [] pos) (aK F) := kS (vP hg hm ha hs) fun O H R yy3 => by
     obtain ⟨U, ⟨H0, r⟩, q⟩ := yy3
     exact ⟨U, ⟨H0, r⟩, by
  unfold aK at q
  cases e : F U with
  | val ds =>
    rw [e] at q
    dsimp only [DL.R.bind] at q
    intro vs H1 s1 h1
    unfold mI at q
    split at q
    · rename_i e0
      split at e0
      · rename_i j
        split at e0
        · rename_i hj
          cases e0
          cases h1 with
          | cons a b => cases a; cases b; exact ⟨j, rfl, hj.1, hj.2, q _ H1 s1 wG⟩
        · cases e0
      · cases e0
    · rename_i e0
      split at e0
      · split at e0 <;> cases e0
      · cases e0
    · exact q.elim
  | exc c => rw [e] at q; exact q
  | bad => rw [e] at q; exact q⟩
def aX (T:D->Rho->Option Rho) (F:Rho->R Out):List D->Rho->R Out
 | [],U=>.val (.nx U)
 | x::xs,U=>match T x U with
  | some U1=>(F U1).bind λo=>match o with
   | .nx U2=>aX T F xs U2
   | .ct U2=>aX T F xs U2
   | .bk U2=>.val (.nx U2)
   | .rt d=>.val (.rt d)
  | none=>.bad
def aE (src:Rho->R (List D)) (T:D->Rho->Option Rho) (F:Rho->R Out):Rho->R Out:=λU=>(src U).bind λxs=>aX T F xs U
theorem yt {ix:List Nat} {src:Rho->R (List D)} {F:Rho->R Out} {D:gt} (h:tsD C X (aE src T F) D O H):FB (itI C X src) (gtD C X ix T) (tsD C X F) D O H:=by
 obtain⟨_,H0,⟨U,rfl,r⟩,q⟩:=h;refine⟨U,⟨H0,r⟩,?_⟩;unfold aE at q;cases e:src U with
 | exc c=>rw[e]at q;exact bN r q
 | bad=>rw[e]at q;exact q
 | val xs =>
  rw[e]at q;intro J H1 s1 wk;have r1:=r.mono s1;have hM:Same H0 (msk U O H1):=r1.keep;refine⟨λi m σ' H'=>m=xs.length-i/\i<=xs.length/\∃ρ':RB,b_ C X (msk U O H1) ρ' σ' H'/\pS C X (aX T F (xs.drop i) ρ') H0 D,⟨xs.length,rfl,Ρ _,U,r1.rebase,q⟩,?_⟩;rintro i m σ' H' ⟨rfl,hi,ρ',r',q'⟩;have sm:Same (msk U O H1) H':=r'.keep.trans msk_sub;by_cases hlt:i<xs.length
  ·have ex:xs[i]?=some xs[i]:=by simp[hlt]
   have ed:xs.drop i=xs[i]::xs.drop (i+1):=μ hlt;rw[ed]at q';obtain⟨go,yld⟩:=wk.go i _ H' sm ex;refine .inr ⟨go,λO2 H2=>∃U2:RB,b_ C X (msk U O H1) U2 O2 H2/\pS C X (aX T F (xs.drop (i+1)) U2) H0 D,λO2 H2 ⟨U2,r2,q2⟩=>⟨xs.length-(i+1),by omega,rfl,hlt,U2,r2,q2⟩,λv H3 y=>?_⟩;obtain⟨s3,hv⟩:=yld v H3 y;have hv':=hv ρ' σ' (λb ob=>r'.ownAt ob) r'.keep;unfold aX at q';split at q'
   ·rename_i U1 e1;refine⟨ρ',_,xs[i],U1,r'.mono s3,hv',e1,λO2 β eb _ r2 _=>⟨U1,_,⟨β,eb,r2⟩,?_⟩⟩;cases eF:F U1 with
    | val o =>
     rw[eF]at q';cases o with
     | nx U2=>exact λO4 H4 ⟨β4,e4,r4⟩=>⟨β4,r4,by rw[e4];exact q'⟩
     | ct U2=>exact λO4 H4 ⟨β4,e4,r4⟩=>⟨β4,r4,by rw[e4];exact q'⟩
     | bk U2=>exact λO4 H4 ⟨β4,e4,r4⟩=>q' O4 H4 ⟨β4,e4,r4.base hM⟩
     | rt d=>exact λv4 H4 s4 h4=>q' v4 H4 (hM.trans s4) h4
    | exc c=>rw[eF]at q';exact XS.mono hM q'
    | bad=>rw[eF]at q';exact q'
   ·exact q'.elim
  ·have ei:i=xs.length:=by omega
   subst ei;rw[List.drop_length]at q';exact .inl ⟨wk.stop H' sm,q' σ' H' (r'.base hM).e⟩
theorem Dd {iter:Expr} {body:List Stmt} {ix:List Nat} {src:Rho->R (List D)} {F:Rho->R Out} (hp:PassesOwn (model X.prog X.w) X.A X.env X.xe) (hc:X.calm=true) (hi:ID C X tg iter src) (hg:GD C X tg ix T) (hb:SDs C X body F)
  (hs:∀x,foldedSetIterable iter X.env x=pure x:=by intro _;rfl):SD C X (.For tg iter body [] pos) (aE src T F) :=
 aH (xA hp hc hi hg hb hs) λD O H h=>yt h
end
def st0 (N:List Str) (ds:List D):Rho:=ds.map (λd=>some (.shr d))++List.replicate (N.length-ds.length) none
def fin:R Out->R D
 | .val (.nx _)=>.val .non
 | .val (.rt d)=>.val d
 | .val _=>.bad
 | .exc c=>.exc c
 | .bad=>.bad
variable {N:List Str}
theorem zO {ds:List D} (h:(st0 N ds)[i]?=some (some sl)):∃d,sl=.shr d/\ds[i]?=some d:=by
 unfold st0 at h;by_cases hi:i<ds.length
 ·rw[ϡ (by simpa using hi),ϥ]at h;cases e:ds[i]? with
  | none=>rw[e]at h;cases h
  | some d=>rw[e]at h;cases h;exact⟨d,rfl,rfl⟩
 ·rw[Ϸ (by simpa using hi),Ι]at h;split at h<;>cases h
theorem hW {ds:List D} (h:HasL K C H vs ds):tR K C H (st0 N ds) (L2.start N vs) H:=by
 have sub:Same H (msk ⟨st0 N ds,λ_=>[]⟩ (L2.start N vs) H):=λb o e=>msk_some.mpr ⟨λ⟨_,z⟩=>(Ϡ z).elim,e⟩;refine⟨⟨st0 N ds,λ_=>[]⟩,rfl,?_,sub,λi sl e=>?_,λi j a z=>(Ϡ z).elim,λi a z=>(Ϡ z).elim,λi a z=>(Ϡ z).elim⟩
 ·show(st0 N ds).length=_;unfold st0 L2.start;simp[h.len]
 ·obtain⟨d,rfl,e1⟩:=zO e;obtain⟨v,e2,h2⟩:=h.get e1;refine⟨v,?_,h2.mono sub⟩;have hi:i<vs.length:=(ώ.mp e2).1;unfold L2.start;rw[ϡ (by simpa using hi),ϥ,e2];rfl
section
variable {P:Program} {w:World} {K:Frag} {mg:Str->Option Value} {base:Heap} {C:Addr}
theorem zc {qual:Str} {f:Addr} {fd:FuncData} {ps:List Str} {den:Rho->R Out} (F:Fun K x qual st f fd) (sc:cA N ps (ak st))
  (hb:∀(cdv:Value) (A:Around) (outer:List Env) (s:Shared) (H:Hp) (E:XK),Room k (A.deeper (envOfC qual (ak st) s.heap.objs.size f cdv)) ->
   SDs C (fh CX0 P w K mg base N qual (ak st) f cdv A outer s H E).nox (bj st) den) :
  FnOk P w K mg base CX0 (k+1) f fd ps (spD K C ps.length λds=>fin (den (st0 N ds))):=by
 refine F.ok sc (λvs H Q E h=>h.1) (λcdv A outer s H vs Q E hr h=>⟨_,hb cdv A outer s H E hr,?_⟩);obtain⟨_,ds,h,q⟩:=h;refine⟨st0 N ds,H,hW h,?_⟩;dsimp only at q;cases e:den (st0 N ds)with
 | val o =>
  rw[e]at q;cases o with
  | nx ρ'=>exact λσ' H' ⟨_,_,r⟩=>q _ H' (r.keep.trans msk_sub) .non
  | rt d=>exact λv H' s' h'=>q v H' s' h'
  | bk ρ'=>exact q.elim
  | ct ρ'=>exact q.elim
 | exc c=>rw[e]at q;exact q.elim
 | bad=>rw[e]at q;exact q.elim
end
def GI (scope:Scope) (env:Env) (L:Addr) (cs:List (Str×Addr)):Env :=
 {scope:=relabel scope env,locals:=L,globals:=env.globals,cells:=cs,qual:=env.qual,func:=none,code:=env.code,frame:=env.frame,builtins:=env.builtins }
def Ed (o:Option NameKind):Bool:=match o with
 | some .cell=>true
 | _=>false
def kc (o:Option NameKind):Bool:=match o with
 | some .cell=>true
 | some .free=>true
 | _=>false
def cxC (X:Cx) (N':List Str) (scope:Scope) (L:Addr) (cs:List (Str×Addr)) (s:Shared) (H:Hp) (fp:List Addr):Cx :=
 {prog:=X.prog,w:=X.w,K:=X.K,mg:=X.mg,base:=X.base,A:=X.A,N:=N',s₀:=s,H₀:=H,env:=GI scope X.env L cs,outer:=X.stack,stack:=X.stack,ex:=fp,
  fn:=λx=>Ed (scope.names.lookup x),calm:=X.calm,pn:=[],xe:=λ_ _=>False }
def zi (N:List Str) (env:Env) (sc:Scope):List Str->Nat->Bool
 | [],_=>true
 | x::r,i=>(match sc.names.lookup x with
   | some .free=>(match N[i]? with|some y=>y==x|none=>false)&&kc (env.kindOf x)
   | some .local=>Nat.ble N.length i
   | some .cell=>Nat.ble N.length i
   | _=>true)&&zi N env sc r (i+1)
def fK (env:Env) (x:Str) (k:NameKind):Bool:=match k with
 | .free=>kc (env.kindOf x)
 | _=>true
def BO (env:Env):List (Str×NameKind)->Bool
 | []=>true
 | p::r=>fK env p.1 p.2&&BO env r
def lK (k:NameKind) (o:Option NameKind):Bool:=match k,o with
 | .local,some .local=>true
 | .local,_=>false
 | .free,some .free=>true
 | .free,_=>false
 | .cell,some .cell=>true
 | .cell,_=>false
 | _,_=>true
def BN (names:List (Str×NameKind)):List (Str×NameKind)->Bool
 | []=>true
 | p::r=>lK p.2 (names.lookup p.1)&&BN names r
theorem Gr {k:NameKind} {o:Option NameKind} (h:lK k o=true) (hk:k=.local\/k=.free\/k=.cell):o=some k:=by
 rcases hk with rfl|rfl|rfl
 ·cases o with
  | none=>cases h
  | some j=>cases j<;>first|rfl|cases h
 ·cases o with
  | none=>cases h
  | some j=>cases j<;>first|rfl|cases h
 ·cases o with
  | none=>cases h
  | some j=>cases j<;>first|rfl|cases h
def mB (N N':List Str) (env:Env) (sc:Scope):Bool:=zi N env sc N' 0&&(BO env sc.names&&(BN sc.names sc.names&&(Nat.ble N.length N'.length&&(match sc.kind with | .function=>true|_=>false))))
theorem o3 {o:Option NameKind} (h:kc o=true):o=some .cell\/o=some .free:=by
 unfold kc at h;split at h<;>simp_all
theorem vq {N:List Str} {env:Env} {sc:Scope}:∀{l:List Str} {k i:Nat} {x:Str},zi N env sc l k=true->l[i]?=some x ->
  (sc.names.lookup x=some .free->N[k+i]?=some x/\kc (env.kindOf x)=true)/\((sc.names.lookup x=some .local\/sc.names.lookup x=some .cell)->N.length<=k+i)
 | [],_,_,_,_,e=>by simp at e
 | y::r,k,0,x,h,e=>by
  simp at e;subst e;rw[zi,ϝ]at h;obtain⟨h,_⟩:=h;refine⟨λz=>?_,λz=>?_⟩
  ·rw[z]at h;simp only[ϝ]at h;obtain⟨h1,h2⟩:=h;refine⟨?_,h2⟩;split at h1
   ·rename_i w e1;rw[Nat.add_zero,e1,beq_iff_eq.mp h1]
   ·cases h1
  ·rcases z with z|z<;>(rw[z]at h;exact Nat.le_of_ble_eq_true h)
 | y::r,k,i+1,x,h,e=>by
  rw[zi,ϝ]at h;have q:=vq (k:=k+1) (i:=i) (x:=x) h.2 (by simpa using e);rw[show k+(i+1)=k+1+i by omega];exact q
theorem pA {env:Env}:∀{l:List (Str×NameKind)} {x:Str},BO env l=true->(x,NameKind.free)∈l->kc (env.kindOf x)=true
 | [],_,_,h=>by cases h
 | p::r,x,h,m=>by
  have h:fK env p.1 p.2=true/\BO env r=true:=ϳ.mp h;rcases Ϣ.mp m with e|m
  ·subst e;exact h.1
  ·exact pA h.2 m
theorem k_ {names:List (Str×NameKind)}:∀{l:List (Str×NameKind)} {x:Str} {k:NameKind},BN names l=true->(x,k)∈l->(k=.local\/k=.free\/k=.cell)->names.lookup x=some k
 | [],_,_,_,h,_=>by cases h
 | p::r,x,k,h,m,hk=>by
  have h:lK p.2 (names.lookup p.1)=true/\BN names r=true:=ϳ.mp h;rcases Ϣ.mp m with e|m
  ·subst e;exact Gr h.1 hk
  ·exact k_ h.2 m hk
def cSt (x:Str) (k:NameKind) (o:Option Addr) (acc:List (Str×Addr)):List (Str×Addr):=match k,o with
 | .free,some c=>(x,c)::acc
 | _,_=>acc
def cJ (env:Env):List (Str×NameKind)->List (Str×Addr)->List (Str×Addr)
 | [],acc=>acc
 | p::r,acc=>cJ env r (cSt p.1 p.2 (env.cells.lookup p.1) acc)
theorem pO {k:NameKind} {o:Option Addr} {acc:List (Str×Addr)} (h:k ≠ .free):cSt x k o acc=acc:=by
 cases k with
 | free=>exact absurd rfl h
 | _=>rfl
theorem mC {k:NameKind} {acc:List (Str×Addr)}:cSt x k none acc=acc:=by cases k<;>rfl
theorem vo {scope:Scope} (h:∀x,(x,NameKind.free)∈scope.names->∃c,env.cells.lookup x=some c):closureFor scope env=pure (cJ env scope.names []):=by
 unfold closureFor;have gen:∀(l:List (Str×NameKind)) (acc:List (Str×Addr)) (f:Str×NameKind->List (Str×Addr)->Sem (ForInStep (List (Str×Addr)))),(∀x,(x,NameKind.free)∈l->∃c,env.cells.lookup x=some c) ->
   (∀n k cs,f (n,k) cs=if(k==NameKind.free)=true then(do let a <- cellOf env n;pure (ForInStep.yield ((n,a)::cs)))else pure (ForInStep.yield cs))->forIn l acc f=pure (cJ env l acc):=by
  intro l
  induction l with
  | nil=>intro acc f _ _;rfl
  | cons y r ih =>
   intro acc f hc hf;obtain⟨n,k⟩:=y;rw[List.forIn_cons,hf];have ih':=λacc=>ih acc f (λx hx=>hc x (ϑ _ hx)) hf;by_cases hk:k=.free
   ·subst hk;obtain⟨c,e⟩:=hc n ϛ;rw[if_pos (by rfl)];unfold cellOf;rw[e];simp only[pure_bind];rw[ih'];show pure (cJ env r ((n,c)::acc))=pure (cJ env r (cSt n .free (env.cells.lookup n) acc));rw[e];rfl
   ·have hb:(k==NameKind.free)=false:=by simpa using hk
    rw[hb,if_neg ϙ,pure_bind];show forIn r acc f=_;rw[ih'];show _=pure (cJ env r (cSt n k (env.cells.lookup n) acc));rw[pO hk]
 dsimp only;rw[gen scope.names [] _ h]
 ·rfl
 ·intro n k cs;cases hb:k==NameKind.free<;>simp[hb]
theorem my {env:Env}:∀{l:List (Str×NameKind)} {acc:List (Str×Addr)} {x:Str} {c:Addr},(cJ env l acc).lookup x=some c->(∀c',acc.lookup x=some c'->env.cells.lookup x=some c')->env.cells.lookup x=some c
 | [],acc,x,c,e,h=>h c e
 | (y,k)::r,acc,x,c,e,h=>by
  have e:(cJ env r (cSt y k (env.cells.lookup y) acc)).lookup x=some c:=e;refine my e λc' e'=>?_;by_cases hk:k=.free
  ·subst hk;cases e0:env.cells.lookup y with
   | none=>rw[e0,mC]at e';exact h c' e'
   | some c0 =>
    rw[e0]at e';have e':((y,c0)::acc).lookup x=some c':=e';rw[Γ]at e';cases hb:x==y with
    | true=>rw[hb]at e';cases e';rw[beq_iff_eq.mp hb];exact e0
    | false=>rw[hb]at e';exact h c' e'
  ·rw[pO hk]at e';exact h c' e'
theorem jV {env:Env} {x:Str} {c:Addr} (hc:env.cells.lookup x=some c):∀{l:List (Str×NameKind)} {acc:List (Str×Addr)},((x,NameKind.free)∈l\/acc.lookup x=some c)->(cJ env l acc).lookup x=some c
 | [],acc,h=>h.elim (λz=>by cases z) id
 | (y,k)::r,acc,h=>by
  show(cJ env r (cSt y k (env.cells.lookup y) acc)).lookup x=some c;refine jV hc ?_;rcases h with h|h
  ·rcases Ϣ.mp h with e|h
   ·cases e;right;rw[hc];show((x,c)::acc).lookup x=some c;rw[Γ,beq_self_eq_true]
   ·exact .inl h
  ·right;by_cases hk:k=.free
   ·subst hk;cases e0:env.cells.lookup y with
    | none=>rw[mC];exact h
    | some c0 =>
     show((y,c0)::acc).lookup x=some c;rw[Γ];cases hb:x==y with
     | true=>rw[<- beq_iff_eq.mp hb,hc]at e0;exact e0.symm
     | false=>exact h
   ·rw[pO hk];exact h
theorem lf:∀{names:List (Str×NameKind)} {n:Nat} {acc:List (Str×Addr)} {x:Str} {c:Addr},(cellsFrom n names acc).lookup x=some c->acc.lookup x=some c\/(n<=c/\(x,NameKind.cell)∈names)
 | [],_,_,_,_,e=>.inl e
 | (y,k)::r,n,acc,x,c,e=>by
  unfold cellsFrom at e;split at e
  ·rename_i hk;rcases lf e with q|⟨q,m⟩
   ·rw[Γ]at q;cases hb:x==y with
    | true=>rw[hb]at q;cases q;rw[beq_iff_eq.mp hb,beq_iff_eq.mp hk];exact .inr ⟨ϗ _,ϛ⟩
    | false=>rw[hb]at q;exact .inl q
   ·exact .inr ⟨Nat.le_of_succ_le q,ϑ _ m⟩
  ·rcases lf e with q|⟨q,m⟩
   ·exact .inl q
   ·exact .inr ⟨q,ϑ _ m⟩
theorem pC:∀{names:List (Str×NameKind)} {n:Nat} {acc:List (Str×Addr)} {x:Str},(x,NameKind.cell)∉names->(cellsFrom n names acc).lookup x=acc.lookup x
 | [],_,_,_,_=>rfl
 | (y,k)::r,n,acc,x,h=>by
  unfold cellsFrom;split
  ·rename_i hk;rw[pC λm=>h (ϑ _ m),Γ];cases hb:x==y with
   | true=>exact absurd (by rw[beq_iff_eq.mp hb,beq_iff_eq.mp hk];exact ϛ) h
   | false=>rfl
  ·exact pC λm=>h (ϑ _ m)
theorem zy {M:Model} {A:Around} {E:Value->Shared->Prop} {scope:Scope} {cl:List (Str×Addr)} {Q:Env->Shared->Prop}
  (h:Q { scope:=scope,locals:=s.heap.objs.size,globals:=env.globals,cells:=cellsFrom (s.heap.objs.size+1) scope.names cl,qual:=env.qual,func:=none,code:=env.code,frame:=env.frame,builtins:=env.builtins }
   {s with heap:=pushCells (s.heap.push { cls:=.type "dict",data:=.dict #[] }) scope.names }):wpAny M A (newFunctionEnv scope env.globals cl [] env.qual none .none (some env)) Q E s:=by
 simp only[newFunctionEnv,Option.isSome_some,if_true];refine wpAny_bind (wpAny_alloc ?_);refine wpAny_bind (wpAny_layCells _ (λname kind cells=>by cases hkc:kind==NameKind.cell<;>simp[hkc]) _ _ _ _ ?_);rw[show({ s with heap:=s.heap.push { cls:=.type "dict",data:=.dict #[] } }:Shared).heap.objs.size=s.heap.objs.size+1 from χ ..];exact wpAny_pure h
structure rJ (ix:List Nat) (T:D->Rho->Option Rho):Prop where
 len:∀x U ρ',T x U=some ρ'->ρ'.length=U.length
 out:∀x U ρ',T x U=some ρ'->∀j:Nat,j∉ix->ρ'[j]?=U[j]?
 shr:∀x U ρ',T x U=some ρ'->∀(j:Nat) sl,j∈ix->ρ'[j]?=some (some sl)->yi sl=false
theorem CD:rJ [i] (tgN i) where
 len:=λx U ρ' e=>by cases e;simp
 out:=λx U ρ' e j hj=>by cases e;exact ϖ λz=>hj (by simp[z])
 shr:=λx U ρ' e j sl hj h=>by
  cases e;have:j=i:=by simpa using hj
  subst this;rw[Χ]at h;simp only[if_true]at h;split at h<;>cases h
  rfl
theorem ug {U:Rho} (h:(U.set i (some (.shr d)))[j]?=some (some sl)) (hn:i≠j->yi sl=false):yi sl=false:=by
 by_cases hj:i=j
 ·subst hj;rw[Χ]at h;simp only[if_true]at h;split at h<;>cases h
  rfl
 ·exact hn hj
theorem CF:rJ [i,j] (tg2 i j) where
 len:=λx U ρ' e=>by
  unfold tg2 at e;split at e
  ·cases e;simp
  ·cases e
 out:=λx U ρ' e k hk=>by
  unfold tg2 at e;split at e
  ·cases e;rw[ϖ λz=>hk (by simp[z]),ϖ λz=>hk (by simp[z])]
  ·cases e
 shr:=λx U ρ' e k sl hk h=>by
  unfold tg2 at e;split at e
  ·cases e;refine ug h λhj=>?_;rw[ϖ hj]at h;refine ug h λhi=>?_;simp at hk;rcases hk with rfl|rfl
   ·exact absurd rfl hi
   ·exact absurd rfl hj
  ·cases e
def noE {Y:Type}:R Y->R Y
 | .val a=>.val a
 | _=>.bad
def hE (T:D->Rho->Option Rho) (t:Rho->R Bool) (e:Rho->R D):List D->Rho->R (List D)
 | [],_=>.val []
 | x::xs,U=>match T x U with
  | some U1=>(noE (t U1)).bind λb=>if b=true then(noE (e U1)).bind λd=>(hE T t e xs U).bind λds=>.val (d::ds)else hE T t e xs U
  | none=>.bad
variable {C:Addr} {X:Cx}
variable (C X) in
def kL (ifs:List Expr) (t:Rho->R Bool):Prop:=∀(pins:List (Addr×Obj)) (s:Shared) (O:St) (H:Hp) (Q:Bool->Hp->Prop),Inv X pins O H s->ttD C X t O H Q ->
 wpAny (model X.prog X.w) X.A (forIn ifs true λc r=>if r=true then do let ok <- isTrue c X.env (eval c X.env);pure (ForInStep.yield ok)else pure (ForInStep.yield r)) (TP X pins O Q) X.xe s
def tT:Rho->R Bool:=λ_=>.val true
theorem AX:kL C X [] tT:=λpins s O H Q I zz0=>by
 obtain⟨U,r,q⟩:=zz0;rw[List.forIn_nil];exact wpAny_pure ⟨H,I,q H (Same.refl _)⟩
theorem AW {c:Expr} {t:Rho->R Bool} (h:TD C X c t):kL C X [c] t:=λpins s O H Q I q=>by
 rw[List.forIn_cons,if_pos rfl];refine wpAny_bind (wpAny_bind (thn (h pins s O H Q I q) λb s1 z=>wpAny_pure ?_));show wpAny _ _ (forIn [] b _) _ _ s1;rw[List.forIn_nil];exact wpAny_pure z
def RB.ext (U:RB) (m:Nat):RB:=⟨U.rho++List.replicate m none,U.ad⟩
theorem sE {β:RB} (h:∀j,β.ad j=U.ad j):msk β σ'=msk U O:=by
 have e:β.ad=U.ad:=funext h
 funext G b
 unfold msk Own;rw[e]
theorem Aa {m:Nat} (r:Rel K C H0 U O H) (hl:σ'.length=U.rho.length+m) (hp:∀j:Nat,j<U.rho.length->σ'[j]?=O[j]?) :
  Rel K C H0 (U.ext m) σ' H/\msk (U.ext m) σ'=msk U O:=by
 have at':∀(i:Nat) sl,(U.rho++List.replicate m none)[i]?=some (some sl)->U.rho[i]?=some (some sl)/\i<U.rho.length:=λi sl e=>by
  by_cases hi:i<U.rho.length
  ·rw[ϡ hi]at e;exact⟨e,hi⟩
  ·rw[Ϸ (by omega),Ι]at e;split at e<;>cases e
 have em:msk (U.ext m) σ'=msk U O:=sE λ_=>rfl;refine⟨⟨?_,by rw[em];exact r.keep,λi sl e=>?_,r.inj,r.kin,λi a z=>?_⟩,em⟩
 ·show(U.rho++List.replicate m none).length=_;simp[hl]
 ·obtain⟨e1,hi⟩:=at' i sl e;rw[em,hp i hi];exact r.at_ i sl e1
 ·show i<(U.rho++List.replicate m none).length;rw[Ϝ];exact Ϛ (r.bnd i a z) (η _ _)
theorem D3 {β:RB} {O1:St} {ix:List Nat} (h:∀j:Nat,β.ad j=if j∈ix then[]else U.ad j) (hix:∀j∈ix,U.ad j=[]):msk β O1=msk U O:=sE λj=>by
 rw[h j];split
 ·exact(hix j ‹_›).symm
 ·rfl
end DL
namespace DL
open PySem PySem.Spec PyProof.Rows L2
variable {scope:Scope} {pos:Pos} {env:Env}
theorem pz {prog:Program} {w:World} {A:Around} {R:Result->Shared->Prop} {s:Shared} {elt target iter:Expr} {ifs:List Expr} {it acc:Value} (I:Nat->Shared->Prop)
  (jE:∀n s,I n s->wpAny (model prog w) A (pyNext it) (λr s₁=>match r with
   | none=>R (.ok .next) s₁
   | some v=>wpAny (model prog w) A (letOwnedTupleGo target it v) (λ_ s₀=>wpAny (model prog w) A (assign target env v) (λ_ s₂ =>
     wpAny (model prog w) A (forIn ifs true λc r=>if r=true then do let ok <- isTrue c env (eval c env);pure (ForInStep.yield ok)else pure (ForInStep.yield r)) (λok s₃ =>
      if ok=true then wpAny (model prog w) A (eval elt env) (λx s₄ =>
       wpAny (model prog w) A (call (.builtin "list.append") [acc,x]) (λ_ s₅=>∃m,m<n/\I m s₅) (λ_ _=>False) s₄) (λ_ _=>False) s₃
      else ∃m,m<n/\I m s₃) (λ_ _=>False) s₂) (λ_ _=>False) s₀) (λ_ _=>False) s₁) (λ_ _=>False) s)
  (n:Nat) (h:I n s):codeAny (model prog w) A (.compLoop (.ListComp elt [⟨target,iter,ifs,0⟩] scope pos) 0 it acc env) R s:=by
 refine codeAny_loop rfl I (λn s hI=>?_) n h;show wpAny _ A ((compTurn (.ListComp elt [⟨target,iter,ifs,0⟩] scope pos) 0 it acc env).onRaise (λx=>do noteFrame x env;theTreesLotGoes x)) _ _ s;refine wpAny_noted ?_;rw[compTurn_list];refine wpAny_bind (wpAny_standAt (wpAny_bind (wpAny_mono (jE n s hI) (λr s₁ h₁=>?_) λ_ _ h'=>h'.elim)));cases r with
 | none=>exact wpAny_pure h₁
 | some v =>
  refine wpAny_bind (wpAny_mono h₁ (λ_ s₀ h₀=>?_) λ_ _ h'=>h'.elim);refine wpAny_bind (wpAny_mono h₀ (λ_ s₂ h₂=>wpAny_bind (wpAny_mono h₂ (λok s₃ h₃=>?_) λ_ _ h'=>h'.elim)) λ_ _ h'=>h'.elim);cases ok with
  | false=>exact wpAny_pure ⟨rfl,h₃⟩
  | true =>
   exact wpAny_bind (wpAny_bind (wpAny_mono h₃ (λx s₄ h₄=>wpAny_bind (wpAny_mono h₄ (λ_ s₅ h₅=>wpAny_pure (wpAny_pure ⟨rfl,h₅⟩)) λ_ _ h'=>h'.elim)) λ_ _ h'=>h'.elim))
theorem tK:∀{names:List (Str×NameKind)} {n:Nat} {acc:List (Str×Addr)},(∀x y c,acc.lookup x=some c->acc.lookup y=some c->x=y)->(∀x c,acc.lookup x=some c->c<n) ->
  ∀x y c,(cellsFrom n names acc).lookup x=some c->(cellsFrom n names acc).lookup y=some c->x=y
 | [],_,_,h,_=>h
 | (z,k)::r,n,acc,h,hb=>by
  unfold cellsFrom;split
  ·refine tK (λx y c e1 e2=>?_) (λx c e=>?_)
   ·rw[Γ]at e1 e2;cases b1:x==z with
    | true =>
     rw[b1]at e1;cases e1;cases b2:y==z with
     | true=>rw[beq_iff_eq.mp b1,beq_iff_eq.mp b2]
     | false=>rw[b2]at e2;exact absurd (hb y _ e2) (Ϻ _)
    | false =>
     rw[b1]at e1;cases b2:y==z with
     | true=>rw[b2]at e2;cases e2;exact absurd (hb x _ e1) (Ϻ _)
     | false=>rw[b2]at e2;exact h x y c e1 e2
   ·rw[Γ]at e;cases b1:x==z with
    | true=>rw[b1]at e;cases e;exact Nat.lt_succ_self _
    | false=>rw[b1]at e;exact Nat.lt_succ_of_lt (hb x c e)
  ·exact tK h hb
theorem pD:∀{names:List (Str×NameKind)} {h:Heap} {acc:List (Str×Addr)} {x:Str} {c:Addr},(cellsFrom h.objs.size names acc).lookup x=some c->acc.lookup x=some c\/(pushCells h names).IsCell c none
 | [],_,_,_,_,e=>.inl e
 | (y,k)::r,h,acc,x,c,e=>by
  unfold cellsFrom at e;unfold pushCells;split at e
  ·rename_i hk;rw[if_pos hk];have e':(cellsFrom (h.push { cls:=.type "cell",data:=.cell none }).objs.size r ((y,h.objs.size)::acc)).lookup x=some c:=by rw[χ];exact e
   rcases pD e' with q|q
   ·rw[Γ]at q;cases b1:x==y with
    | true =>
     rw[b1]at q;cases q;exact .inr ⟨_,pushCells_keeps r _ _ _ (ϧ _ rfl),rfl⟩
    | false=>rw[b1]at q;exact .inl q
   ·exact .inr q
  ·rename_i hk;rw[if_neg hk];exact pD e
theorem nQ {env:Env}:∀{l:List (Str×NameKind)} {acc:List (Str×Addr)} {x:Str} {c:Addr},(cJ env l acc).lookup x=some c->acc.lookup x=some c\/(x,NameKind.free)∈l
 | [],acc,x,c,e=>.inl e
 | (y,k)::r,acc,x,c,e=>by
  have e:(cJ env r (cSt y k (env.cells.lookup y) acc)).lookup x=some c:=e;rcases nQ e with q|q
  ·by_cases hk:k=.free
   ·subst hk;cases e0:env.cells.lookup y with
    | none=>rw[e0,mC]at q;exact .inl q
    | some c0 =>
     rw[e0]at q;have q:((y,c0)::acc).lookup x=some c:=q;rw[Γ]at q;cases hb:x==y with
     | true=>rw[beq_iff_eq.mp hb];exact .inr ϛ
     | false=>rw[hb]at q;exact .inl q
   ·rw[pO hk]at q;exact .inl q
  ·exact .inr (ϑ _ q)
def reK (env:Env) (n:Str) (k:NameKind):NameKind:=if(k == .free&&env.scope.kind == .function&&env.kindOf n==some .cell)=true then .cell else k
theorem ut {env:Env}:∀{names:List (Str×NameKind)} {x:Str},
  (names.map λ(p:Str×NameKind)=>if(p.2 == .free&&env.scope.kind == .function&&env.kindOf p.1==some .cell)=true then(p.1,NameKind.cell)else(p.1,p.2)).lookup x=(names.lookup x).map (reK env x)
 | [],_=>rfl
 | (n,k)::r,x=>by
  have ih:=ut (env:=env) (names:=r) (x:=x);rw[Ϯ];have e:(if(k == .free&&env.scope.kind == .function&&env.kindOf n==some .cell)=true then(n,NameKind.cell)else(n,k))=(n,reK env n k):=by
   unfold reK;split<;>rfl
  show List.lookup x ((if(k == .free&&env.scope.kind == .function&&env.kindOf n==some .cell)=true then(n,NameKind.cell)else(n,k))::_)=_;rw[e,Γ,Γ];cases hb:x==n with
  | true=>rw[beq_iff_eq.mp hb];rfl
  | false=>exact ih
variable {x:Str}
theorem fO:(relabel scope env).names.lookup x=(scope.names.lookup x).map (reK env x):=ut
theorem jH {k:NameKind}:(k=.free/\(reK env x k=.free\/reK env x k=.cell))\/(k ≠ .free/\reK env x k=k):=by
 unfold reK;by_cases hk:k=.free
 ·subst hk;left;refine⟨rfl,?_⟩;split<;>simp
 ·right;refine⟨hk,?_⟩;have:(k==NameKind.free)=false:=by simpa using hk
  rw[this];rfl
variable {H:Hp}
theorem BK:cut [] H=H:=by
 funext b
 unfold cut;rw[if_neg Ϡ]
variable {U:RB} {O:St}
theorem i0 {zs:List Addr}:msk U O (cut zs H)=cut zs (msk U O H):=by
 funext b
 unfold msk cut;by_cases h:Own U O b<;>by_cases h':b∈zs<;>simp[h,h']
theorem k9 {zs:List Addr}:Same (cut zs H) H:=λb o e=>(cut_some.mp e).2
variable {H':Hp}
theorem dQ {b:Addr} (s:Same H H') (h:H' b=none):H b=none:=by
 cases e:H b with
 | none=>rfl
 | some o=>rw[s b o e]at h;cases h
variable {k:OK} {F:Rho->R D} {H0:Hp}
section
variable {C:Addr} {X:Cx}
def pK (C:Addr) (X:Cx) (k:OK) (U:RB) (r:R D) (O:St) (H:Hp) (Q:VK):Prop:=match r with
 | .val d=>∀v H' A,Same H H'->(∀a∈A,H a=none)->Tre X.K C (cut A (msk U O H')) H' k v d A->Q v H'
 | .exc c=>XE X c O H
 | .bad=>False
variable (C X) in
def teK (k:OK) (F:Rho->R D):TE:=λO H Q=>∃U:RB,(∃H0,b_ C X H0 U O H)/\pK C X k U (F U) O H Q
variable (C X) in
def KD (k:OK) (e:Expr) (F:Rho->R D):Prop:=PE X e (teK C X k F)
theorem yg {e:Expr} (h:ED C X e F):KD C X .s e F:=ao h λO H Q ⟨U,r,q⟩=>⟨U,r,by
 cases z:F U with
 | val d=>rw[z]at q;exact λv H' s h=>q v H' [] s (λa ha=>by cases ha) (.s (by rw[BK];exact h))
 | exc c=>rw[z]at q;exact q
 | bad=>rw[z]at q;exact q⟩
theorem Gw {e:Expr} {F:Rho->R (List D)} (h:FD C X e F):KD C X (.l .s) e (eLs F):=ao h λO H Q ⟨U,⟨H0,r⟩,q⟩=>⟨U,⟨H0,r⟩,by
 unfold eLs at q;cases z:F U with
 | val xs =>
  rw[z]at q;intro a vs H1 s1 hn h1;refine q _ _ [a] (s1.trans (aq hn)) (λb hb=>by cases ϓ.mp hb;exact dQ s1 hn) (.l ax (TreP.of (h1.mono λb o e=>cut_some.mpr ⟨λhb=>?_,az (aq hn) b o e⟩)) Ϡ);cases ϓ.mp hb;rw[(msk_some.mp e).2]at hn;cases hn
 | exc c=>rw[z]at q;exact q
 | bad=>rw[z]at q;exact q⟩
theorem Tre.free {v:V} {d:D} {A:List Addr} (r:b_ C X H0 U O H) (s:Same H H') (hA:∀a∈A,H a=none) (h:Tre X.K C (cut A (msk U O H')) H' k v d A):bS C X U O H' v d :=
 h.share k9 (λa ha o e=>msk_some.mpr ⟨λz=>r.ownAt z (hA a ha),e⟩) λa vs e=>msk_some.mpr ⟨λz=>(r.mono s).tups e z,e⟩
theorem GK {e:Expr} (h:KD C X k e F):ED C X e F:=ao h λO H Q ⟨U,⟨H0,r⟩,q⟩=>⟨U,⟨H0,r⟩,by
 cases z:F U with
 | val d=>rw[z]at q;exact λv H' A s hA h=>q v H' s (h.free r s hA)
 | exc c=>rw[z]at q;exact q
 | bad=>rw[z]at q;exact q⟩
def trS (i:Nat) (k:OK) (e:Rho->R D):Rho->R Out:=λU=>(e U).bind λd=>.val (.nx (U.set i (some (.tre k d))))
theorem Rel.setTre {K:Frag} (r:Rel K C H0 U O H) {i:Nat} {v:V} {d:D} {A:List Addr} (s:Same H H') (hA:∀a∈A,H a=none) (h:Tre K C (cut A (msk U O H')) H' k v d A) :
  Rel K C H0 (U.put i (.tre k d) A) (O.set i (some v)) H':=by
 refine r.put kN (λj hj=>ϖ λz=>hj z.symm) (λa ha=>.inr (hA a ha)) (λj _=>.of s) (λb o e=>s b o (msk_some.mp e).2) (λa ha=>.inl (h.lists a ha)) λhi _=>⟨v,A,oy (by rw[<- r.len];exact hi),λa ha=>ha,h.stay (λb o e=>?_) (.of (Same.refl _))⟩;obtain⟨h1,h2⟩:=cut_some.mp e;obtain⟨h3,h4⟩:=msk_some.mp h2;refine msk_some.mpr ⟨λ⟨j,z⟩=>?_,h4⟩;rcases dU z with⟨_,_,z⟩|⟨_,z⟩
 ·exact h1 z
 ·exact h3 ⟨j,z⟩
theorem C7 {i:Nat} {e:Expr} {pos':Pos} (hN:X.N.Nodup) (hi:X.N[i]?=some x) (hx:Loc X.env.scope x) (he:KD C X k e F) (hs:swapsWith e (some (.Name x pos')) pos.line X.env=pure false:=by rfl)
    (hf:X.fn x=true\/X.env.scope.names.lookup x=some .local:=by first|exact .inl rfl|exact .inr rfl|assumption):SD C X (.Assign [.Name x pos'] e pos) (trS i k F) :=
  aH (lz hN hi hx he hs hf) λD O H yy=>by
   obtain⟨_,H0,⟨U,rfl,r⟩,q⟩:=yy;exact⟨U,⟨H0,r⟩,by
    unfold trS at q;cases z:F U with
    | val d=>rw[z]at q;exact λv H' A s hA h=>q _ _ ⟨_,rfl,r.setTre s hA h⟩
    | exc c=>rw[z]at q;exact bN r q
    | bad=>rw[z]at q;exact q⟩
end
variable {C:Addr} {X:Cx}
theorem BJ {a:Addr} {o:HO} (h:H a=none):cut [a] (upd H a o)=H:=by
 funext b
 unfold cut;by_cases hb:b=a
 ·rw[if_pos (by simp[hb]),hb,h]
 ·rw[if_neg (by simp[hb]),am hb]
theorem zB {a:Addr} {o:HO} (h:H a=some o):upd (cut [a] H) a o=H:=by
 funext b
 by_cases hb:b=a
 ·rw[hb,ax,h]
 ·rw[am hb];unfold cut;rw[if_neg (by simp[hb])]
theorem tH {N':List Str} {n:Nat} (hchk:mB X.N N' X.env scope=true) (hN:N'.length=X.N.length+n)
  {pins:List (Addr×Obj)} {H3:Hp} {s3:Shared} {fp:List Addr} (I3:Inv X pins O H3 s3) (hfp:∀b∈fp,b<s3.heap.objs.size) (f3:∀b∈fp,nh X pins H3 b) :
  Inv (cxC X N' scope s3.heap.objs.size (cellsFrom (s3.heap.objs.size+1) scope.names (cJ X.env scope.names [])) s3 H3 fp) [] (O++List.replicate n none) H3
   {s3 with heap:=pushCells (s3.heap.push { cls:=.type "dict",data:=.dict #[] }) scope.names }:=by
 obtain⟨c1,hchk⟩:=ϳ.mp hchk;obtain⟨c2,hchk⟩:=ϳ.mp hchk;obtain⟨c3,hchk⟩:=ϳ.mp hchk;obtain⟨c4,c5⟩:=ϳ.mp hchk;have hkind:scope.kind=.function:=by
  revert c5;cases scope.kind<;>simp
 have keep:∀b o,s3.heap.get? b=some o->(pushCells (s3.heap.push { cls:=.type "dict",data:=.dict #[] }) scope.names).get? b=some o:=λb o e=>pushCells_keeps _ _ b o (ϒ _ e);have I4:Inv X pins O H3 { s3 with heap:=pushCells (s3.heap.push { cls:=.type "dict",data:=.dict #[] }) scope.names }:=I3.kept (t':=s3.toks) keep;have sz:(s3.heap.push { cls:=.type "dict",data:=.dict #[] }).objs.size=s3.heap.objs.size+1:=χ ..;have fr:∀x,(x,NameKind.free)∈scope.names->∃c,X.env.cells.lookup x=some c:=λx hx=>I3.ok.has x (o3 (pA c2 hx));have cl_old:∀x c,(cJ X.env scope.names []).lookup x=some c->X.env.cells.lookup x=some c:=λx c e=>my e λc' e'=>by cases e'
 have cl_lt:∀x c,(cJ X.env scope.names []).lookup x=some c->c<s3.heap.objs.size:=λx c e=>by
  obtain⟨v,q⟩:=I3.cell x c (cl_old x c e);exact q.lt
 have look:∀x c,(cellsFrom (s3.heap.objs.size+1) scope.names (cJ X.env scope.names [])).lookup x=some c ->
   X.env.cells.lookup x=some c\/(s3.heap.objs.size+1<=c/\(x,NameKind.cell)∈scope.names/\(pushCells (s3.heap.push { cls:=.type "dict",data:=.dict #[] }) scope.names).IsCell c none):=λx c e=>by
  rcases lf e with q|⟨q,m⟩
  ·exact .inl (cl_old x c q)
  ·rcases pD (h:=s3.heap.push { cls:=.type "dict",data:=.dict #[] }) (by rw[sz];exact e)with z|z
   ·exact absurd (Ϛ (cl_lt x c z) (Nat.le_of_succ_le q)) (Ϻ _)
   ·exact .inr ⟨q,m,z⟩
 have ok:(cxC X N' scope s3.heap.objs.size (cellsFrom (s3.heap.objs.size+1) scope.names (cJ X.env scope.names [])) s3 H3 fp).Ok:=by
  refine⟨I3.ok.mod,hkind,I3.ok.glob,I3.ok.blt,ϗ _,λx y c e1 e2=>?_,λx hx=>?_,λx c hf e=>?_,I3.ok.hd,I3.ok.frames,.inl rfl,λb hb=>⟨?_,λx c e=>?_⟩,I3.bs,ϣ I3.ok.bsz I3.sz,λb o e hb=>?_,λb hb hz=>?_,I3.stack,I3.stkFree⟩
  ·exact tK (λx y c e1 e2=>I3.ok.inj x y c (cl_old x c e1) (cl_old y c e2)) (λx c e=>Nat.lt_succ_of_lt (cl_lt x c e)) x y c e1 e2
  ·have hx:(relabel scope X.env).names.lookup x=some .cell\/(relabel scope X.env).names.lookup x=some .free:=hx;rw[fO]at hx;cases e:scope.names.lookup x with
   | none=>rw[e]at hx;rcases hx with z|z<;>cases z
   | some k =>
    rw[e]at hx;have:k=.cell\/k=.free:=by
     rcases jH (env:=X.env) (x:=x) (k:=k)with⟨z,_⟩|⟨_,z⟩
     ·exact .inr z
     ·rcases hx with y|y
      ·left;have:=Ϥ y;rw[z]at this;exact this
      ·right;have:=Ϥ y;rw[z]at this;exact this
    refine Ε.mp (cellsFrom_some _ _ _ ?_);rcases this with rfl|rfl
    ·exact .inl e
    ·obtain⟨c,ec⟩:=fr x (Κ e);right;rw[jV ec (.inl (Κ e))];rfl
  ·have hf:Ed (scope.names.lookup x)=true:=hf;have e0:scope.names.lookup x=some .cell:=by
    unfold Ed at hf;split at hf
    ·assumption
    ·cases hf
   rcases lf e with q|⟨q,m⟩
   ·rcases nQ q with z|z
    ·cases z
    ·have:=k_ c3 z (.inr (.inl rfl));rw[e0]at this;cases this
   ·exact Nat.le_of_succ_le q
  ·exact ϭ (hfp b hb)
  ·rcases look x c e with q|⟨q,_,_⟩
   ·exact(f3 b hb).2.2.2.2.1 x c q
   ·exact λz=>absurd (Ϛ (z▸hfp b hb) (Nat.le_of_succ_le q)) (Ϻ _)
  ·rcases(f3 b hb).2.2.2.1 with z|z
   ·exact I3.ok.noex b o e z
   ·exact absurd (Ϛ (Ϛ (ϔ e) I3.ok.bsz) z) (Ϻ _)
  ·have:=I3.stkSub b hz;rcases Ϣ.mp this with z|z
   ·exact(f3 b hb).2.1 z
   ·exact(f3 b hb).2.2.1 z
 refine⟨ok,rfl,I3.bare,Un.kept keep,⟨λ_=>none,(Heap.Ns.new s3.heap (.type "dict")).keeps (pushCells_keeps _ _),λi x v h1 h2 h3=>?_⟩,λx c e=>?_,I3.hok.fresh (ϗ _),λx c e=>?_,λp hp=>absurd (show p∈([]:List (Addr×Obj))from hp) (by simp),I4.hok,?_⟩
 ·have hl:=I3.len;have hi:i<O.length:=by
   by_cases hi:i<O.length
   ·exact hi
   ·rw[Ϸ (by omega),Ι]at h2;split at h2<;>cases h2
  rw[ϡ hi]at h2;have h3:Vis (relabel scope X.env) x:=h3;obtain⟨g1,g2⟩:=vq c1 h1;rw[Λ]at g1 g2;have e0:scope.names.lookup x=some .free:=by
   unfold Vis at h3;rw[fO]at h3;cases e:scope.names.lookup x with
   | none=>rw[e]at h3;rcases h3 with z|z|z<;>cases z
   | some k =>
    rw[e]at h3;rcases jH (env:=X.env) (x:=x) (k:=k)with⟨z,_⟩|⟨z0,z⟩
    ·rw[z]
    ·exfalso;have h3:some k=some NameKind.local\/some k=some NameKind.cell\/some k=some NameKind.free:=by
      have h4:some (reK X.env x k)=some NameKind.local\/some (reK X.env x k)=some NameKind.cell\/some (reK X.env x k)=some NameKind.free:=h3;rw[z]at h4;exact h4
     rcases h3 with y|y|y
     ·have:=g2 (.inl (e.trans y));omega
     ·have:=g2 (.inr (e.trans y));omega
     ·exact z0 (Ϥ y)
  obtain⟨e1,hk⟩:=g1 e0;have hk:=o3 hk;obtain⟨m0,hn0,hl0⟩:=I4.loc;obtain⟨u,ru,lk⟩:=hl0 i x v e1 h2 (.inr hk);refine⟨u,ru,.inr ⟨?_,?_⟩⟩
  ·have:(relabel scope X.env).names.lookup x=some (reK X.env x .free):=by rw[fO,e0];rfl
   rcases jH (env:=X.env) (x:=x) (k:=.free)with⟨_,z|z⟩|⟨z,_⟩
   ·rw[z]at this;exact .inr this
   ·rw[z]at this;exact .inl this
   ·exact absurd rfl z
  ·rcases lk with⟨z,_⟩|⟨_,c,ec,q⟩
   ·rcases hk with y|y<;>(rw[z]at y;cases y)
   ·refine⟨c,?_,q⟩;show(cellsFrom _ scope.names _).lookup x=some c;rw[pC λm=>by have:=k_ c3 m (.inr (.inr rfl));rw[e0]at this;cases this];exact jV ec (.inl (Κ e0))
 ·rcases look x c e with q|⟨_,_,q⟩
  ·exact I4.cell x c q
  ·exact⟨_,q⟩
 ·rcases look x c e with q|⟨q,_,_⟩
  ·exact I3.freeC x c q
  ·exact I3.hok.fresh (by omega)
 ·show _=N'.length;rw[Ϝ,ϻ,hN,I3.len]
abbrev cxA (X:Cx) (N':List Str) (scope:Scope) (a:Addr) (H2:Hp) (s3:Shared) (fp:List Addr):Cx:=cxC X N' scope s3.heap.objs.size (cellsFrom (s3.heap.objs.size+1) scope.names (cJ X.env scope.names [])) s3 (upd H2 a (.lst [])) fp
def Cm (C:Addr) (X HZ:Cx) (k:OK) (T:D->Rho->Option Rho) (t:Rho->R Bool) (e:Rho->R D) (n:Nat) (a:Addr) (H2:Hp) (O:St) (U:RB) (fp:List Addr) (tn:Nat->Heap->Prop) (xs ds:List D) (m:Nat) (s:Shared):Prop :=
 ∃(i:Nat) (σ':St) (H':Hp) (vs:List V) (ds1 ds2:List D) (A:List Addr),m=xs.length+1-i/\i<=xs.length /\
   Inv HZ [] σ' H' s/\tn i s.heap/\(∀b∈fp,H' b=none) /\
   (∀j:Nat,j<U.rho.length->σ'[j]?=O[j]?)/\H' a=some (.lst vs)/\Same H2 (cut (a::A) H')/\TreP X.K C (msk U O (cut (a::A) H')) H' (vs.map λ_=>k) vs ds1 A/\a∉A /\
   hE T t e (xs.drop i) (U.rho++List.replicate n none)=.val ds2/\ds1++ds2=ds/\vs.length<=i
theorem TreP.app {K:Frag} {M H:Hp} {k:OK} {v:V} {d:D} {B:List Addr} (h:Tre K C M H k v d B):∀{ks:List OK} {vs:List V} {ds:List D} {A:List Addr},TreP K C M H ks vs ds A->(∀a∈A,a∉B)->∃A',(∀a,a∈A'↔a∈A\/a∈B)/\TreP K C M H (ks++[k]) (vs++[v]) (ds++[d]) A'
 | _,_,_,_,.nil,_=>⟨B++[],λa=>by simp,.cons h .nil λ_ _=>Ϡ⟩
 | _,_,_,_,.cons (A:=A1) (B:=A2) g t n,f=>by
  obtain⟨A',h1,h2⟩:=TreP.app h t λa ha=>f a (ϐ _ ha);refine⟨A1++A',λa=>by rw[Ϩ,Ϩ,h1 a,or_assoc],.cons g h2 λa ha hb=>?_⟩;rcases(h1 a).mp hb with hb|hb
  ·exact n a ha hb
  ·exact f a (ϟ _ ha) hb
theorem mw {tg elt iter:Expr} {ifs:List Expr} {N':List Str} {ix:List Nat} {T:D->Rho->Option Rho} {t:Rho->R Bool} {e:Rho->R D} {n:Nat}
  (hcalm:X.calm=true) (hchk:mB X.N N' X.env scope=true) (hN:N'.length=X.N.length+n) (hix:∀j∈ix,X.N.length<=j)
  (hg:∀L cs s H fp,GD C (cxC X N' scope L cs s H fp) tg ix T) (ht:∀L cs s H fp,kL C (cxC X N' scope L cs s H fp) ifs t) (he:∀L cs s H fp,KD C (cxC X N' scope L cs s H fp) k elt e)
  {pins:List (Addr×Obj)} {H2:Hp} {s2:Shared} {J:It} {fp:List Addr} {it:Addr} {tn:Nat->Heap->Prop} {xs ds:List D}
  (I2:Inv X pins O H2 s2) (r2:b_ C X H0 U O H2) (TT:tP X.prog X.w X.K tg J fp it tn) (t0:tn 0 s2.heap) (f2:∀b∈fp,nh X pins H2 b) (wk:pW X.K C J xs (msk U O H2)) (hlen:xs.length<=LIM)
  (hd:hE T t e xs (U.rho++List.replicate n none)=.val ds) {R:Value->Addr->Result->Shared->Prop} {E:Value->Shared->Prop}
  (hR:∀a L vs A H' s1,Same H2 (cut (a::A) H')->(∀b∈a::A,H2 b=none)->H' a=some (.lst vs)->a∉A->TreP X.K C (msk U O (cut (a::A) H')) H' (vs.map λ_=>k) vs ds A->Inv X pins O H' s1->H' L=none->L≠X.env.locals->X.s₀.heap.objs.size<=L ->
   (∀x c,X.env.cells.lookup x=some c->c≠L)->(∀p∈X.pn++pins,p.1≠L)->(∃m,s1.heap.Ns L m)->R (.ref a) L (.ok .next) s1) :
  wpAny (model X.prog X.w) X.A (newList []) (λacc s₃=>wpAny (model X.prog X.w) X.A (newFunctionEnv scope X.env.globals (cJ X.env scope.names []) [] X.env.qual none .none (some X.env)) (λcenv s₄ =>
   codeAny (model X.prog X.w) X.A (.compStart (.ListComp elt [⟨tg,iter,ifs,0⟩] scope pos) 0 (.ref it) acc { cenv with scope:=relabel scope X.env }) (R acc cenv.locals) s₄) E s₃) E s2:=by
 refine wpAny_newObj_type (zy ?_);have hfr2:H2 s2.heap.objs.size=none:=I2.fresh;have I3:=I2.lnew (its:=[]) (ys:=[]) (t':=s2.toks) .nil (Ρ _);have hfp:∀b∈fp,b<s2.heap.objs.size:=λb hb=>by
  obtain⟨o,eo,_⟩:=TT.obj 0 _ t0 b hb;exact ϔ eo
 have sz3:(s2.heap.push { cls:=.type "list",data:=.seq ([]:List Value).toArray }).objs.size=s2.heap.objs.size+1:=χ ..;have f3:∀b∈fp,nh X pins (upd H2 s2.heap.objs.size (.lst [])) b:=λb hb=>⟨by rw[am (ϭ (hfp b hb))];exact(f2 b hb).1,(f2 b hb).2⟩;have I4:=tH (n:=n) hchk hN I3 (λb hb=>by rw[sz3];exact Nat.lt_succ_of_lt (hfp b hb)) f3;have keep:∀b o,s2.heap.get? b=some o->(pushCells ((s2.heap.push { cls:=.type "list",data:=.seq ([]:List Value).toArray }).push { cls:=.type "dict",data:=.dict #[] }) scope.names).get? b=some o:=λb o e =>
  pushCells_keeps _ _ b o (ϒ _ (ϒ _ e))
 have t4:tn 0 (pushCells ((s2.heap.push { cls:=.type "list",data:=.seq ([]:List Value).toArray }).push { cls:=.type "dict",data:=.dict #[] }) scope.names):=TT.keep 0 _ _ t0 λb hb o e=>keep b o e;generalize hs3:({ s2 with heap:=s2.heap.push { cls:=.type "list",data:=.seq ([]:List Value).toArray },toks:=s2.toks }:Shared)=s3 at I3 I4;have hH3:({ s2 with heap:=s2.heap.push { cls:=.type "list",data:=.seq ([]:List Value).toArray },toks:=s2.toks }:Shared).heap=s3.heap:=by rw[hs3]
 have t4':tn 0 (pushCells (s3.heap.push { cls:=.type "dict",data:=.dict #[] }) scope.names):=by rw[<- hH3];exact t4
 have hrl:U.rho.length=X.N.length:=r2.len.trans I2.len;generalize ha0:s2.heap.objs.size=a0 at *;have loop:∀s4:Shared,s4={ s3 with heap:=pushCells (s3.heap.push { cls:=.type "dict",data:=.dict #[] }) scope.names } ->
   codeAny (model X.prog X.w) X.A (.compLoop (.ListComp elt [⟨tg,iter,ifs,0⟩] scope pos) 0 (.ref it) (.ref a0) (GI scope X.env s3.heap.objs.size (cellsFrom (s3.heap.objs.size+1) scope.names (cJ X.env scope.names []))))
    (R (.ref a0) s3.heap.objs.size) s4:=by
  rintro s4 rfl;refine pz (Cm C X (cxA X N' scope a0 H2 s3 fp) k T t e n a0 H2 O U fp tn xs ds) ?_ (xs.length+1)
   ⟨0,_,_,[],[],ds,[],rfl,Ρ _,I4,t4',λb hb=>(f3 b hb).1,λj hj=>by rw[ϡ (by rw[<- r2.len];exact hj)],ax,by rw[BJ hfr2];exact Same.refl _,.nil,Ϡ,hd,rfl,ϗ _⟩
  rintro m s ⟨i,σ',H',vs,ds1,ds2,A,rfl,hi,I,tni,hfn,hpre,ha,sm,hv,hnA,hc,hds,hvl⟩;have lst:∀z∈a0::A,∃us,H' z=some (.lst us):=λz hz=>by
   rcases Ϣ.mp hz with rfl|hz
   ·exact⟨vs,ha⟩
   ·exact hv.lists z hz
  have Z:Hid H' s.heap (a0::A):=by
   refine⟨λz hz=>?_,λz hz c dx fs q=>?_,λz hz b q=>?_,λz hz=>?_⟩
   ·obtain⟨us,q⟩:=lst z hz;exact⟨_,q,rfl⟩
   ·obtain⟨us,q'⟩:=lst z hz;rw[q]at q';cases q'
   ·obtain⟨us,q'⟩:=lst z hz;rw[q]at q';cases q'
   ·obtain⟨us,q'⟩:=lst z hz;obtain⟨_,its,m,_,e1⟩:=I.hok _ _ q';exact⟨_,e1,λv q=>by cases q⟩
  have J0:=I.hide Z;have hM:∀b,H' b=none->cut (a0::A) H' b=none:=λb q=>by unfold cut;split<;>first|rfl|exact q
  have stat:∀{pn:List (Addr×Obj)} {G:Hp},(∀b∈fp,G b=none)->(∀p∈pn,∀b∈fp,p.1≠b)->∀b∈fp,nh (cxA X N' scope a0 H2 s3 fp) pn G b:=λ{pn G} h1 h2 b hb =>
   ⟨h1 b hb,(I.ok.exf b hb).1,I.ok.exfs b hb,.inl hb,(I.ok.exf b hb).2,λp hp=>h2 p hp b hb⟩
  have pna:∀p∈([]:List (Addr×Obj))++bY (a0::A) s.heap,∀b∈fp,p.1≠b:=λp hp b hb z=>by
   obtain⟨q1,_⟩:=h_ (show p∈bY (a0::A) s.heap from hp);obtain⟨us,q⟩:=lst _ q1;rw[z,hfn b hb]at q;cases q
  have sM:Same (msk U O H2) (cut (a0::A) H'):=msk_sub.trans sm;by_cases hlt:i<xs.length
  ·have ex:xs[i]?=some xs[i]:=by simp[hlt]
   have ed:xs.drop i=xs[i]::xs.drop (i+1):=μ hlt;obtain⟨go,yld⟩:=wk.go i _ _ sM ex;refine wpAny_mono (TT.item (cxA X N' scope a0 H2 s3 fp) rfl rfl rfl hcalm i _ s σ' _ (λ_ _=>False) J0 (stat (λb hb=>hM b (hfn b hb)) pna) tni go) (λr s1 zz0=>?_) λ_ _ z=>z;obtain⟨u,hr,h1⟩:=zz0;subst hr;refine thn h1 λ_ s5 zz1=>?_;obtain⟨x,H5,I5,r5,y5,t5,n5⟩:=zz1;obtain⟨s5',hx⟩:=yld x H5 y5;have hx5:Has X.K C (msk U O H5) x xs[i]:=hx U O (λb ob q=>by
    have h2:=r2.ownAt ob;cases q2:H2 b with
    | none=>exact h2 q2
    | some o=>rw[sm b o q2]at q;cases q) (az sm)
   have r5':=r2.mono (sm.trans s5');obtain⟨re5,em5⟩:=Aa (m:=n) r5' (σ':=σ') (by have q:=I5.len;rw[hrl];exact q.trans hN) hpre;have I5p:=I5.pinned (stat n5 pna) (TT.obj _ _ t5);rw[ed]at hc;unfold hE at hc;split at hc
   ·rename_i U1 eT;have ix0:∀j∈ix,(U.ext n).ad j=[]:=λj hj=>by
     have h2:=hix j hj;refine List.eq_nil_iff_forall_not_mem.mpr λb hb=>?_;have:=r2.bnd j b hb;omega
    refine thn (hg _ _ _ _ _ _ s5 σ' H5 x u (λO6 H6=>H6=H5/\∃β:RB,β.rho=U1/\(∀j:Nat,β.ad j=if j∈ix then[]else(U.ext n).ad j)/\b_ C X H0 β O6 H5/\∀j:Nat,j∉ix->O6[j]?=σ'[j]?) I5p r5 ⟨_,H0,xs[i],U1,re5,by show Has _ _ (msk _ _ _) x _;rw[em5];exact hx5,eT,λO6 β q0 q3 q1 q2=>⟨rfl,β,q0,q3,q1,q2⟩⟩) λ_ s6 zz2=>?_;obtain⟨O6,H6,I6,eH,β,eβ,aβ,r6,p6⟩:=zz2;subst eH;subst eβ;have em6:msk β O6=msk U O:=(D3 aβ ix0).trans em5;have pre6:∀j:Nat,j<U.rho.length->O6[j]?=O[j]?:=λj hj=>by
     rw[p6 j λz=>by have:=hix j z;omega];exact hpre j hj
    cases et:t β with
    | exc c=>rw[et]at hc;cases hc
    | bad=>rw[et]at hc;cases hc
    | val b =>
     rw[et]at hc;refine thn (ht _ _ _ _ _ _ s6 O6 H6 (λb' H7=>b'=b/\Same H6 H7) I6 ⟨β,⟨H0,r6⟩,by rw[et];exact λH7 q=>⟨rfl,q⟩⟩) λb' s7 zz3=>?_;obtain⟨H7,I7,eb,s67⟩:=zz3;subst eb;have fin:∀{s9:Shared} {H9:Hp} {vs':List V} {ds1' ds2':List D} {A':List Addr},Inv (cxA X N' scope a0 H2 s3 fp) (bY fp s5.heap) O6 H9 s9 ->
       H9 a0=some (.lst vs')->Same H2 (cut (a0::A') H9)->TreP X.K C (msk U O (cut (a0::A') H9)) H9 (vs'.map λ_=>k) vs' ds1' A'->a0∉A'->hE T t e (xs.drop (i+1)) (U.rho++List.replicate n none)=.val ds2'->ds1'++ds2'=ds->vs'.length<=i+1 ->
       ∃m,m<xs.length+1-i/\Cm C X (cxA X N' scope a0 H2 s3 fp) k T t e n a0 H2 O U fp tn xs ds m s9:=λ{s9 H9 vs' ds1' ds2' A'} I9 g1 g3 g4 g4' g5 g6 g7=>by
      refine⟨xs.length+1-(i+1),by omega,i+1,O6,H9,vs',ds1',ds2',A',rfl,hlt,I9.pins_of λp hp=>absurd hp (by simp),TT.keep _ _ _ t5 λb hb o eo=>(I9.pin (b,o) (ϐ _ (dY hb eo))).1,λb hb=>?_,pre6,g1,g3,g4,g4',g5,g6,g7⟩;obtain⟨o,eo,_⟩:=TT.obj _ _ t5 b hb;exact(I9.pin (b,o) (ϐ _ (dY hb eo))).2.1
     have h1pins:∀p∈bY (a0::A) s.heap,p∈(([]:List (Addr×Obj))++bY (a0::A) s.heap)++bY fp s5.heap:=λp hp=>ϟ _ hp;have h2pins:∀p∈bY fp s5.heap,p∈(([]:List (Addr×Obj))++bY (a0::A) s.heap)++bY fp s5.heap/\H' p.1=none:=λp hp=>⟨ϐ _ hp,hfn _ (h_ hp).1⟩;have s57:Same (cut (a0::A) H') H7:=s5'.trans s67;have back:∀{G:Hp},Same (cut (a0::A) H') G->(∀z∈a0::A,G z=none)->Stay A H' (jn (a0::A) H' G):=λ{G} sG mz=>⟨λb hb o q=>by rw[ge (ϑ _ hb)];exact q,λb us q=>by
      have nb:b∉a0::A:=λhb=>by obtain⟨ws,q'⟩:=lst b hb;rw[q]at q';cases q'
      rw[a_ nb];exact sG b _ (cut_some.mpr ⟨nb,q⟩)⟩
     cases b' with
     | false =>
      rw[if_neg ϙ];obtain⟨I8,mz⟩:=I.showG Z I7 h1pins h2pins;have eJ:cut (a0::A) (jn (a0::A) H' H7)=H7:=by
       funext b
       by_cases hb:b∈a0::A
       ·rw[dm hb,mz b hb]
       ·unfold cut;rw[if_neg hb,a_ hb]
      exact fin (A':=A) I8 (by rw[ge ϛ];exact ha) (by rw[eJ];exact sm.trans s57) (by rw[eJ];exact hv.stay (az s57) (back s57 mz)) hnA hc hds (Nat.le_succ_of_le hvl)
     | true =>
      rw[if_pos rfl];cases ee:e β with
      | exc c=>rw[ee]at hc;cases hc
      | bad=>rw[ee]at hc;cases hc
      | val d =>
       rw[ee]at hc;refine thn (he _ _ _ _ _ _ s7 O6 H7 (λy H8=>∃B,Same H7 H8/\(∀b∈B,H7 b=none)/\Tre X.K C (cut B (msk U O H8)) H8 k y d B) I7 ⟨β,⟨H0,r6.mono s67⟩,by rw[ee];exact λy H8 B q1 q2 q3=>⟨B,q1,q2,by rw[<- em6];exact q3⟩⟩) λyv s8 zz4=>?_;obtain⟨y,H8,I8,ry,B,s78,hB,hy⟩:=zz4;obtain⟨I9,mz⟩:=I.showG Z I8 h1pins h2pins;have s8':Same (cut (a0::A) H') H8:=s57.trans s78;cases ec:hE T t e (xs.drop (i+1)) (U.rho++List.replicate n none)with
       | exc c=>simp only[noE,DL.R.bind,ec,if_true]at hc;cases hc
       | bad=>simp only[noE,DL.R.bind,ec,if_true]at hc;cases hc
       | val ds3 =>
        simp only[noE,DL.R.bind,ec,if_true]at hc;cases hc;refine thn (jJ _ s8 O6 _ (.ref a0) [y] (.ref a0) [yv] (λ_ H9=>H9=upd (jn (a0::A) H' H8) a0 (.lst (vs++[y]))) I9 rfl (.cons ry .nil)
         ⟨_,vs,y,rfl,rfl,by rw[ge ϛ];exact ha,D7 (by omega),rfl⟩) λ_ s9 ⟨_,H9,I10,_,eH9⟩=>?_
        have lB:∀b∈B,b∉a0::A:=λb hb hz=>by
         obtain⟨us,q⟩:=hy.lists b hb;rw[mz b hz]at q;cases q
        have at9:∀b,b≠a0->H9 b=jn (a0::A) H' H8 b:=λb hb=>by rw[eH9,am hb]
        have eJ:∀A',(∀b,b∈A'↔b∈A\/b∈B)->cut (a0::A') H9=cut B H8:=λA' hA'=>by
         funext b
         by_cases hb:b∈a0::A
         ·have:b∈a0::A':=by
           rcases Ϣ.mp hb with z|z
           ·exact z▸ϛ
           ·exact ϑ _ ((hA' b).mpr (.inl z))
          rw[dm this];unfold cut;split
          ·rfl
          ·exact(mz b hb).symm
         ·have nb:b≠a0:=λz=>hb (z▸ϛ);by_cases hb2:b∈B
          ·rw[dm hb2,dm (ϑ _ ((hA' b).mpr (.inr hb2)))]
          ·have:b∉a0::A':=λz=>by
            rcases Ϣ.mp z with z|z
            ·exact nb z
            ·rcases(hA' b).mp z with z|z
             ·exact hb (ϑ _ z)
             ·exact hb2 z
           unfold cut;rw[if_neg this,if_neg hb2,at9 b nb,a_ hb]
        have sB:Same (cut (a0::A) H') (cut B H8):=λb o q=>cut_some.mpr ⟨λhb=>absurd (hB b hb) (by rw[s57 b o q];exact λz=>by cases z),s8' b o q⟩;have st1:Stay A H' H9:=by
         refine⟨λb hb o q=>?_,λb us q=>?_⟩
         ·rw[at9 b λz=>hnA (z▸hb)];exact(back s8' mz).at_ b hb o q
         ·rw[at9 b λz=>by rw[z,ha]at q;cases q];exact(back s8' mz).tup b us q
        have st2:Stay B H8 H9:=by
         refine⟨λb hb o q=>?_,λb us q=>?_⟩
         ·rw[at9 b λz=>lB b hb (z▸ϛ),a_ (lB b hb)];exact q
         ·have nb:b∉a0::A:=λhz=>by rw[mz b hz]at q;cases q
          rw[at9 b λz=>nb (z▸ϛ),a_ nb];exact q
        have g1:TreP X.K C (msk U O (cut B H8)) H9 (vs.map λ_=>k) vs ds1 A:=hv.stay (az sB) st1;have g2:Tre X.K C (msk U O (cut B H8)) H9 k y d B:=hy.stay (by rw[i0];exact Same.refl _) st2;obtain⟨A',hA',g3⟩:=TreP.app g2 g1 λb hb hb2=>lB b hb2 (ϑ _ hb);refine fin (A':=A') (vs':=vs++[y]) (ds1':=ds1++[d]) (ds2':=ds3) I10 (by rw[eH9];exact ax) (by rw[eJ A' hA'];exact sm.trans sB) (by rw[eJ A' hA',Ϭ];exact g3) (λz=>?_) ec (by rw[<- hds];simp) (by rw[Ϝ,List.length_singleton];omega);rcases(hA' a0).mp z with z|z
        ·exact hnA z
        ·exact lB a0 z ϛ
   ·cases hc
  ·have ei:i=xs.length:=by omega
   subst ei;rw[List.drop_length]at hc;cases hc;rw[Ϫ]at hds;subst hds;refine wpAny_mono (TT.done (cxA X N' scope a0 H2 s3 fp) rfl rfl rfl hcalm xs.length _ s σ' _ (λ_ _=>False) J0 (stat (λb hb=>hM b (hfn b hb)) pna) tni (wk.stop _ sM)) (λr s1 zz5=>?_) λ_ _ z=>z;obtain⟨hr,I1⟩:=zz5;subst hr;obtain⟨Ie,_⟩:=I.show' Z I1;have eH:jn (a0::A) H' (cut (a0::A) H')=H':=by
    funext b
    by_cases hb:b∈a0::A
    ·rw[ge hb]
    ·rw[a_ hb];unfold cut;rw[if_neg hb]
   rw[eH]at Ie;have IX:Inv X pins O H' s1:=I3.call' Ie.os Ie.base Ie.hok Ie.bare λb hb=>⟨(f3 b hb).2.2.2.1,(f3 b hb).2.1,(f3 b hb).2.2.2.2.1,(f3 b hb).2.2.2.2.2⟩;obtain⟨m,hm,_⟩:=Ie.loc;refine hR _ _ vs A H' s1 sm (λb hb=>dQ sm (dm hb)) ha hnA hv IX Ie.free (Nat.ne_of_gt I3.lt) I3.sz (λx c q z=>?_) (λp hp z=>?_) ⟨m,hm⟩
   ·obtain⟨v,q⟩:=I3.cell x c q;exact absurd (z▸q.lt) (Ϻ _)
   ·exact absurd (z▸ϔ (I3.pin p hp).1) (Ϻ _)
 exact codeAny_compStart_list (loop _ rfl) (TT.self X.A 0 _ _ _ t4' (loop _ rfl))
end DL
namespace DL
open PySem PySem.Spec PyProof.Rows L2
variable {C:Addr} {X:Cx}
def av (src:Rho->R (List D)) (n:Nat) (T:D->Rho->Option Rho) (t:Rho->R Bool) (e:Rho->R D):Rho->R (List D):=λU=>(src U).bind λxs=>if xs.length<=LIM then noE (hE T t e xs (U++List.replicate n none))else .bad
variable {k:OK}
theorem rj {src:Rho->R (List D)} {n:Nat} {T:D->Rho->Option Rho} {t:Rho->R Bool} {e:Rho->R D} {O:St} {H:Hp} {Q:VK} {U:RB} {H0:Hp} (r:b_ C X H0 U O H) (q:pK C X (.l k) U (eLs (av src n T t e) U) O H Q) :
  itI C X src O H λJ H2=>∃xs ds,Same H H2/\b_ C X H0 U O H2/\pW X.K C J xs (msk U O H2)/\xs.length<=LIM/\hE T t e xs (U.rho++List.replicate n none)=.val ds/\∀v H' A,Same H2 H'->(∀a∈A,H2 a=none)->Tre X.K C (cut A (msk U O H')) H' (.l k) v (.lst ds) A->Q v H':=by
 refine⟨U,⟨H0,r⟩,?_⟩;unfold eLs D6 av at q;cases es:src U with
 | exc c=>rw[es]at q;exact q
 | bad=>rw[es]at q;exact q
 | val xs =>
  rw[es]at q;intro J H2 s2 wk;simp only[DL.R.bind]at q;by_cases hl:xs.length<=LIM
  ·rw[if_pos hl]at q;cases ec:hE T t e xs (U.rho++List.replicate n none)with
   | val ds=>rw[ec]at q;exact⟨xs,ds,s2,r.mono s2,wk,hl,ec,λv H' A s1 h1 h2=>q v H' A (s2.trans s1) (λa ha=>dQ s2 (h1 a ha)) h2⟩
   | exc c=>rw[ec]at q;exact q.elim
   | bad=>rw[ec]at q;exact q.elim
  ·rw[if_neg hl]at q;exact q.elim
variable {F:Rho->R (List D)}
theorem B4 {O:St} {H:Hp} {Q:VK} (h:teF C X F O H Q):teK C X (.l .s) (eLs F) O H Q:=by
 obtain⟨U,⟨H0,r⟩,q⟩:=h;refine⟨U,⟨H0,r⟩,?_⟩;unfold eLs;cases e:F U with
 | val xs =>
  rw[e]at q;intro v H' A s1 hA h1;cases h1 with
  | @l _ a vs _ _ ha hp _ =>
   obtain⟨eA,hl⟩:=hp.flat;subst eA;have q2:=q a vs (cut [a] H') (λb o eb=>cut_some.mpr ⟨λhb=>Option.some_ne_none _ (eb.symm.trans (hA b hb)),s1 b o eb⟩) (dm (ϓ.mpr rfl)) (by show HasL _ _ (msk U O _) vs xs;rw[i0];exact hl);rw[zB ha]at q2;exact q2
 | exc c=>rw[e]at q;exact q
 | bad=>rw[e]at q;exact q
variable {i:Nat} {st:Stmt}
section
variable {tg elt iter:Expr} {ifs:List Expr} {scope:Scope} {pos:Pos} {N':List Str} {ix:List Nat} {T:D->Rho->Option Rho} {t:Rho->R Bool} {e:Rho->R D} {n:Nat} {src:Rho->R (List D)}
theorem nS (hchk:mB X.N N' X.env scope=true):(∀x,(x,NameKind.free)∈scope.names->kc (X.env.kindOf x)=true)/\scope.kind=.function/\∀x∈scope.names,x.2=.local->scope.names.lookup x.1=some .local:=by
 obtain⟨c1,hchk⟩:=ϳ.mp hchk;obtain⟨c2,hchk⟩:=ϳ.mp hchk;obtain⟨c3,hchk⟩:=ϳ.mp hchk;obtain⟨c4,c5⟩:=ϳ.mp hchk;refine⟨λx hx=>pA c2 hx,?_,λx hx hl=>?_⟩
 ·revert c5;cases scope.kind<;>simp
 ·obtain⟨n,k⟩:=x;have hl:k=.local:=hl;subst hl;exact k_ c3 hx (.inl rfl)
theorem uQ (hcalm:X.calm=true) (hchk:mB X.N N' X.env scope=true) (hN:N'.length=X.N.length+n) (hix:∀j∈ix,X.N.length<=j) (hi:ID C X tg iter src)
  (hg:∀L cs s H fp,GD C (cxC X N' scope L cs s H fp) tg ix T) (ht:∀L cs s H fp,kL C (cxC X N' scope L cs s H fp) ifs t) (he:∀L cs s H fp,KD C (cxC X N' scope L cs s H fp) k elt e)
  (hs:∀x,foldedSetIterable iter X.env x=pure x:=by intro _;rfl):KD C X (.l k) (.ListComp elt [⟨tg,iter,ifs,0⟩] scope pos) (eLs (av src n T t e)):=by
 rintro pins s O H Q I ⟨U,⟨H0,r⟩,q⟩;obtain⟨c2,hkind,hnames⟩:=nS hchk;rw[eval_ListComp];refine wpAny_comprehension_free (use:=none) rfl hs (vo λx hx=>I.ok.has x (o3 (c2 x hx))) hkind hnames ?_;show wpAny _ _ (eval iter X.env) _ _ s;refine thn (hi pins s O H _ I (rj r q)) λv s1 h1=>thn h1 λitv s2 zz0=>?_;obtain⟨it,fp,tn,J,H2,ei,I2,TT,t0,f2,xs,ds,s2',r2,wk,hl,hd,hq⟩:=zz0;subst ei;refine mw (R:=λacc L=>compPost (model X.prog X.w) X.A X.xe none (EP X pins O Q) acc L) hcalm hchk hN hix hg ht he I2 r2 TT t0 f2 wk hl hd ?_;rintro a L vs A H' s1 sf hA ha hn hv IX uL lne lsz lc lp ⟨m,hm⟩;refine⟨m,hm,λh' hs'=>⟨.ref a,_,IX.turned (t':=s1.toks) (λb o hb eo=>(hs'.2 b hb).trans eo) uL lne (.inr lsz) lc lp,rfl,hq _ H' (a::A) (sf.trans k9) hA (.l ha (by rw[<- i0];exact hv) hn)⟩⟩
theorem Bf (hcalm:X.calm=true) (hchk:mB X.N N' X.env scope=true) (hN:N'.length=X.N.length+n) (hix:∀j∈ix,X.N.length<=j) (tk:rJ ix T) (hi:ID C X tg iter src)
  (hg:∀L cs s H fp,GD C (cxC X N' scope L cs s H fp) tg ix T) (ht:∀L cs s H fp,kL C (cxC X N' scope L cs s H fp) ifs t) (he:∀L cs s H fp,ED C (cxC X N' scope L cs s H fp) elt e)
  (hs:∀x,foldedSetIterable iter X.env x=pure x:=by intro _;rfl):FD C X (.ListComp elt [⟨tg,iter,ifs,0⟩] scope pos) (av src n T t e) :=
 ao (uQ hcalm hchk hN hix hi hg ht (λL cs s H fp=>yg (he L cs s H fp)) hs) λO H Q h=>B4 h
theorem j5 {y:Str} {py spos:Pos} (hy:PG X (.Name y py) (cR i)) (hcalm:X.calm=true) (hchk:mB X.N N' X.env scope=true) (hN:N'.length=X.N.length+n) (hix:∀j∈ix,X.N.length<=j) (hi:ID C X tg iter src)
  (hg:∀L cs s H fp,GD C (cxC X N' scope L cs s H fp) tg ix T) (ht:∀L cs s H fp,kL C (cxC X N' scope L cs s H fp) ifs t) (he:∀L cs s H fp,KD C (cxC X N' scope L cs s H fp) k elt e)
  (hsw:swapsWith (.ListComp elt [⟨tg,iter,ifs,0⟩] scope pos) (some (.Name y py)) spos.line X.env=pure true)
  (hs:∀x,foldedSetIterable iter X.env x=pure x:=by intro _;rfl):PS X (.Assign [.Name y py] (.ListComp elt [⟨tg,iter,ifs,0⟩] scope pos) spos) (on (teK C X (.l k) (eLs (av src n T t e))) (cR i)):=by
 rintro pins s O H Dn I ⟨U,⟨H0,r⟩,q⟩;obtain⟨c2,hkind,hnames⟩:=nS hchk;rw[exec_Assign_Name_used _ _ _ _ hsw];refine wpAny_bind (wpAny_standAt (wpAny_bind ?_));show wpAny _ _ (do let _ <- comprehension (.ListComp elt [⟨tg,iter,ifs,0⟩] scope pos) scope X.env _ (newList []) false (eval iter X.env) (some (assign (.Name y py) X.env))) _ _ s;refine wpAny_bind (wpAny_mono (wpAny_comprehension_free (use:=some (assign (.Name y py) X.env)) (Q:=λ_ s'=>SP X pins Dn .next s') rfl hs (vo λx hx=>I.ok.has x (o3 (c2 x hx))) hkind hnames ?_) (λ_ s' hq=>wpAny_pure (wpAny_pure hq)) λ_ _ z=>z);refine thn (hi pins s O H _ I (rj r q)) λv s1 h1=>thn h1 λitv s2 zz1=>?_;obtain⟨it,fp,tn,J,H2,ei,I2,TT,t0,f2,xs,ds,s2',r2,wk,hl,hd,hq⟩:=zz1;subst ei;refine mw (R:=λacc L=>compPost (model X.prog X.w) X.A X.xe (some (assign (.Name y py) X.env)) (λ_ s'=>SP X pins Dn .next s') acc L) hcalm hchk hN hix hg ht he I2 r2 TT t0 f2 wk hl hd ?_;rintro a L vs A H' s1 sf hA ha hn hv IX uL lne lsz lc lp ⟨m,hm⟩;obtain⟨oL,esL,epL,eoL,edL,restL⟩:=id hm;have nfs:L∉X.fs:=λz=>by
  obtain⟨_,o,ho,_⟩:=I.ok.funs.mem z;exact absurd (Ϛ (ϔ ho) lsz) (Ϻ _)
 have IP:Inv X (pins++[(L,oL)]) O H' s1:=IX.pins_of λp hp=>by
  rcases Ϩ.mp hp with hp|hp
  ·exact IX.pin p (ϐ _ hp)
  ·have:p=(L,oL):=by simpa using hp
   subst this;exact⟨eoL,uL,lne,nfs,λv z=>by rw[edL]at z;cases z⟩
 show wpAny _ _ (assign (.Name y py) X.env (.ref a)) _ _ s1;refine thn (hy _ s1 O _ (.ref a) (.ref a) Dn.nx IP rfl (hq _ H' (a::A) (sf.trans k9) hA (.l ha (by rw[<- i0];exact hv) hn))) λ_ s2 zz2=>?_;obtain⟨σ',H',I',qn⟩:=zz2;have pL:=I'.pin (L,oL) (ϐ _ (ϐ _ (by simp)));have I'':Inv X pins σ' H' s2:=I'.unpinned;refine⟨m,⟨oL,esL,epL,pL.1,edL,restL⟩,λh' hs'=>⟨σ',H',I''.turned (t':=s2.toks) (λb o hb eo=>(hs'.2 b hb).trans eo) pL.2.1 lne (.inr lsz) lc lp,qn⟩⟩
theorem sy {y:Str} {py spos:Pos} (hy:PG X (.Name y py) (cR i)) (hcalm:X.calm=true) (hchk:mB X.N N' X.env scope=true) (hN:N'.length=X.N.length+n) (hix:∀j∈ix,X.N.length<=j) (tk:rJ ix T) (hi:ID C X tg iter src)
  (hg:∀L cs s H fp,GD C (cxC X N' scope L cs s H fp) tg ix T) (ht:∀L cs s H fp,kL C (cxC X N' scope L cs s H fp) ifs t) (he:∀L cs s H fp,ED C (cxC X N' scope L cs s H fp) elt e)
  (hsw:swapsWith (.ListComp elt [⟨tg,iter,ifs,0⟩] scope pos) (some (.Name y py)) spos.line X.env=pure true)
  (hs:∀x,foldedSetIterable iter X.env x=pure x:=by intro _;rfl):PS X (.Assign [.Name y py] (.ListComp elt [⟨tg,iter,ifs,0⟩] scope pos) spos) (on (teF C X (av src n T t e)) (cR i)) :=
 aH (j5 hy hcalm hchk hN hix hi hg ht (λL cs s H fp=>yg (he L cs s H fp)) hsw hs) λD O H h=>B4 h
theorem zW {F:Rho->R D} (h:PS X st (on (teK C X k F) (cR i))):SD C X st (trS i k F) :=
  aH h λD O H yy=>by
   obtain⟨_,H0,⟨U,rfl,r⟩,q⟩:=yy;exact⟨U,⟨H0,r⟩,by
    unfold trS at q;cases z:F U with
    | val d=>rw[z]at q;exact λv H' A s hA h=>q _ _ ⟨_,rfl,r.setTre s hA h⟩
    | exc c=>rw[z]at q;exact bN r q
    | bad=>rw[z]at q;exact q⟩
theorem zX (h:PS X st (on (teF C X F) (cR i))):SD C X st (asg i (eLs F)) :=
  aH h λD O H yy0=>by
   obtain⟨_,H0,⟨U,rfl,r⟩,q⟩:=yy0;exact⟨U,⟨H0,r⟩,by
    unfold asg eLs D6 at q;cases e:F U with
    | val xs =>
      rw[e]at q;exact λa vs H1 s1 hn h1=>q _ _ ⟨_,rfl,(r.mono (s1.trans (aq hn))).setShr (.lst ((r.mono s1).new hn) (h1.mono (az (aq hn))))⟩
    | exc c=>rw[e]at q;exact bN r q
    | bad=>rw[e]at q;exact q⟩
theorem zY (h:PS X st (on (teF C X F) (cR i))):SD C X st (own i F) :=
  aH h λD O H yy1=>by
   obtain⟨_,H0,⟨U,rfl,r⟩,q⟩:=yy1;exact⟨U,⟨H0,r⟩,by
    unfold own at q;cases e:F U with
    | val xs =>
      rw[e]at q;exact λa vs H1 s1 hn h1=>q _ _ ⟨_,rfl,(r.mono s1).setOwn hn h1⟩
    | exc c=>rw[e]at q;exact bN r q
    | bad=>rw[e]at q;exact q⟩
end
end DL
namespace DL
open PySem PySem.Spec PyProof.Rows L2
def eqb:Nat->D->Bool
 | _,.non=>true
 | _,.bl _=>true
 | _,.int _=>true
 | n+1,.lst xs=>xs.all (eqb n)
 | n+1,.tup xs=>xs.all (eqb n)
 | _,_=>false
def pyq:Nat->D->D->Bool
 | _,.non,.non=>true
 | _,.bl a,.bl b=>a==b
 | _,.bl a,.int b=>(if a then 1 else 0)==b
 | _,.int a,.bl b=>a==(if b then 1 else 0)
 | _,.int a,.int b=>a==b
 | n+1,.lst xs,.lst ys=>decide (xs.length=ys.length)&&(List.range xs.length).all λj=>pyq n (xs.getD j .non) (ys.getD j .non)
 | n+1,.tup xs,.tup ys=>decide (xs.length=ys.length)&&(List.range xs.length).all λj=>pyq n (xs.getD j .non) (ys.getD j .non)
 | _,_,_=>false
theorem oF (n:Nat) (xs ys:List D):pyq (n+1) (.lst xs) (.lst ys)=(decide (xs.length=ys.length)&&(List.range xs.length).all λj=>pyq n (xs.getD j .non) (ys.getD j .non)):=rfl
theorem oE (n:Nat) (xs ys:List D):pyq (n+1) (.tup xs) (.tup ys)=(decide (xs.length=ys.length)&&(List.range xs.length).all λj=>pyq n (xs.getD j .non) (ys.getD j .non)):=rfl
section
variable {K:Frag} {C:Addr} {H:Hp}
theorem HasL.inj {n:Nat} (ih:∀{v:V} {x y:D},eqb n x=true->eqb n y=true->Has K C H v x->Has K C H v y->x=y):∀{vs:List V} {xs ys:List D},xs.all (eqb n)=true->ys.all (eqb n)=true->HasL K C H vs xs->HasL K C H vs ys->xs=ys
 | _,_,_,_,_,.nil,.nil=>rfl
 | _,_,_,h1,h2,.cons a b,.cons c d=>by
  rw[List.all_cons,ϝ]at h1 h2;rw[ih h1.1 h2.1 a c,HasL.inj ih h1.2 h2.2 b d]
theorem Has.inj:∀{n:Nat} {v:V} {x y:D},eqb n x=true->eqb n y=true->Has K C H v x->Has K C H v y->x=y:=by
 intro n
 induction n with
 | zero =>
  intro v x y h1 h2 a b;cases a<;>cases b<;>first|rfl|cases h1|cases h2
 | succ n ih =>
  intro v x y h1 h2 a b;cases a with
  | non=>cases b;rfl
  | bl _=>cases b;rfl
  | int _=>cases b;rfl
  | lst e1 g1 =>
   cases b with
   | lst e2 g2=>rw[e1]at e2;cases e2;rw[HasL.inj ih h1 h2 g1 g2]
   | tup e2 g2=>rw[e1]at e2;cases e2
   | ob _ _ _ _=>cases h2
   | scr _=>cases h2
   | exn _=>cases h2
  | tup e1 g1 =>
   cases b with
   | tup e2 g2=>rw[e1]at e2;cases e2;rw[HasL.inj ih h1 h2 g1 g2]
   | lst e2 g2=>rw[e1]at e2;cases e2
   | ob _ _ _ _=>cases h2
   | scr _=>cases h2
   | exn _=>cases h2
  | ob _ _ _ _=>cases h1
  | scr _=>cases h1
  | exn _=>cases h1
theorem qo:∀{n:Nat} {x:D},eqb n x=true->pyq n x x=true:=by
 intro n
 induction n with
 | zero =>
  intro x h;cases x with
  | non=>rfl
  | bl b=>exact beq_self_eq_true _
  | int b=>exact beq_self_eq_true _
  | _=>cases h
 | succ n ih =>
  intro x h;cases x with
  | non=>rfl
  | bl b=>exact beq_self_eq_true _
  | int b=>exact beq_self_eq_true _
  | lst xs =>
   rw[oF];simp only[decide_true,Μ,ύ,ό];intro j hj;have h:xs.all (eqb n)=true:=h;rw[ύ]at h;have e:xs.getD j .non=xs[j]:=by simp[List.getD,Ϗ hj]
   rw[e];exact ih (h _ (Ϙ hj))
  | tup xs =>
   rw[oE];simp only[decide_true,Μ,ύ,ό];intro j hj;have h:xs.all (eqb n)=true:=h;rw[ύ]at h;have e:xs.getD j .non=xs[j]:=by simp[List.getD,Ϗ hj]
   rw[e];exact ih (h _ (Ϙ hj))
  | ob _ _ _=>cases h
  | scr _=>cases h
  | exn _=>cases h
end
variable {X:Cx} {C:Addr} {H:Hp} {s:Shared} {vs:List V}
open SeqAt in
theorem Ch {n:Nat} {A:Around} {xs ys:List D} {ws:List V} {its its2:List Value}
  (ih:∀{x y:D} {v w:V} {u t:Value},eqb n x=true->eqb n y=true->Has X.K C H v x->Has X.K C H w y->RelV v u->RelV w t->EqAt A s u t (pyq n x y))
  (h1:∀x∈xs,eqb n x=true) (h2:∀x∈ys,eqb n x=true) (g1:HasL X.K C H vs xs) (g2:HasL X.K C H ws ys) (r:Vals vs its) (r2:Vals ws its2) (j:Nat) (h1':j<its.toArray.size) (h2':j<its2.toArray.size) :
  EqAt A s its.toArray[j] its2.toArray[j] (pyq n (xs.getD j .non) (ys.getD j .non)):=by
 have j1:j<xs.length:=by rw[<- g1.len,r.length];exact h1'
 have j2:j<ys.length:=by rw[<- g2.len,r2.length];exact h2'
 obtain⟨vj,ev,hv⟩:=g1.get (Ϗ j1);obtain⟨wj,ew,hw⟩:=g2.get (Ϗ j2);obtain⟨uj,eu,ruj⟩:=r.get ev;obtain⟨tj,et,rtj⟩:=r2.get ew;have eu':its.toArray[j]=uj:=(ώ.mp eu).2;have et':its2.toArray[j]=tj:=(ώ.mp et).2;have ex:xs.getD j .non=xs[j]:=by rw[List.getD,Ϗ j1];rfl
 have ey:ys.getD j .non=ys[j]:=by rw[List.getD,Ϗ j2];rfl
 rw[eu',et',ex,ey];exact ih (h1 _ (Ϙ j1)) (h2 _ (Ϙ j2)) hv hw ruj rtj
variable {pins:List (Addr×Obj)} {O:St}
open SeqAt in
theorem tN (I:Inv X pins O H s):∀(n:Nat) {A:Around} {x y:D} {v w:V} {u t:Value},A.units+n<cLine->eqb n x=true->eqb n y=true->Has X.K C H v x->Has X.K C H w y->RelV v u->RelV w t ->
  RcAt A s u t (pyq n x y)/\EqAt A s u t (pyq n x y)/\RcNeAt A s u t (!pyq n x y):=by
 intro n
 induction n with
 | zero =>
  intro A x y v w u t hu h1 h2 a b ru rt;cases a with
  | non =>
   cases ru;cases b with
   | non=>cases rt;exact⟨RcAt.none_none,EqAt.same _,RcNeAt.none_none⟩
   | bl _=>cases rt;exact⟨RcAt.none_bool _,EqAt.none_bool _,RcNeAt.none_bool _⟩
   | int _=>obtain⟨_,rfl⟩:=rt;exact⟨RcAt.none_int _ _,EqAt.none_int _ _,RcNeAt.none_int _ _⟩
   | _=>cases h2
  | bl _ =>
   cases ru;cases b with
   | non=>cases rt;exact⟨RcAt.bool_none _,EqAt.bool_none _,RcNeAt.bool_none _⟩
   | bl _=>cases rt;exact⟨RcAt.bool_bool _ _,EqAt.bool_bool _ _,RcNeAt.bool_bool _ _⟩
   | int _=>obtain⟨_,rfl⟩:=rt;exact⟨RcAt.bool_int _ _ _,EqAt.bool_int _ _ _,RcNeAt.bool_int _ _ _⟩
   | _=>cases h2
  | int _ =>
   obtain⟨_,rfl⟩:=ru;cases b with
   | non=>cases rt;exact⟨RcAt.int_none _ _,EqAt.int_none _ _,RcNeAt.int_none _ _⟩
   | bl _=>cases rt;exact⟨RcAt.int_bool _ _ _,EqAt.int_bool _ _ _,RcNeAt.int_bool _ _ _⟩
   | int _=>obtain⟨_,rfl⟩:=rt;exact⟨RcAt.int_int _ _ _ _,EqAt.int_int _ _ _ _,RcNeAt.int_int _ _ _ _⟩
   | _=>cases h2
  | _=>cases h1
 | succ n ih =>
  intro A x y v w u t hu h1 h2 a b ru rt;have hA:A.units<cLine:=by omega
  have hin:A.in1.units+n<cLine:=by show A.units+1+n<cLine;omega
  cases a with
  | non =>
   cases ru;cases b with
   | non=>cases rt;exact⟨RcAt.none_none,EqAt.same _,RcNeAt.none_none⟩
   | bl _=>cases rt;exact⟨RcAt.none_bool _,EqAt.none_bool _,RcNeAt.none_bool _⟩
   | int _=>obtain⟨_,rfl⟩:=rt;exact⟨RcAt.none_int _ _,EqAt.none_int _ _,RcNeAt.none_int _ _⟩
   | lst e2 g2=>cases rt;obtain⟨its,r,p,_⟩:=I.list (SqL.of e2);exact⟨RcAt.none_list p.isList hA,EqAt.none_list p.isList hA,RcNeAt.none_list p.isList hA⟩
   | tup e2 g2=>cases rt;obtain⟨its,r,p,_⟩:=I.tuple (SqT.of e2);exact⟨RcAt.none_tuple p hA,EqAt.none_tuple p hA,RcNeAt.none_tuple p hA⟩
   | _=>cases h2
  | bl _ =>
   cases ru;cases b with
   | non=>cases rt;exact⟨RcAt.bool_none _,EqAt.bool_none _,RcNeAt.bool_none _⟩
   | bl _=>cases rt;exact⟨RcAt.bool_bool _ _,EqAt.bool_bool _ _,RcNeAt.bool_bool _ _⟩
   | int _=>obtain⟨_,rfl⟩:=rt;exact⟨RcAt.bool_int _ _ _,EqAt.bool_int _ _ _,RcNeAt.bool_int _ _ _⟩
   | lst e2 g2=>cases rt;obtain⟨its,r,p,_⟩:=I.list (SqL.of e2);exact⟨RcAt.bool_list _ p.isList hA,EqAt.bool_list _ p.isList hA,RcNeAt.bool_list _ p.isList hA⟩
   | tup e2 g2=>cases rt;obtain⟨its,r,p,_⟩:=I.tuple (SqT.of e2);exact⟨RcAt.bool_tuple _ p hA,EqAt.bool_tuple _ p hA,RcNeAt.bool_tuple _ p hA⟩
   | _=>cases h2
  | int _ =>
   obtain⟨_,rfl⟩:=ru;cases b with
   | non=>cases rt;exact⟨RcAt.int_none _ _,EqAt.int_none _ _,RcNeAt.int_none _ _⟩
   | bl _=>cases rt;exact⟨RcAt.int_bool _ _ _,EqAt.int_bool _ _ _,RcNeAt.int_bool _ _ _⟩
   | int _=>obtain⟨_,rfl⟩:=rt;exact⟨RcAt.int_int _ _ _ _,EqAt.int_int _ _ _ _,RcNeAt.int_int _ _ _ _⟩
   | lst e2 g2=>cases rt;obtain⟨its,r,p,_⟩:=I.list (SqL.of e2);exact⟨RcAt.int_list _ _ p.isList hA,EqAt.int_list _ _ p.isList hA,RcNeAt.int_list _ _ p.isList hA⟩
   | tup e2 g2=>cases rt;obtain⟨its,r,p,_⟩:=I.tuple (SqT.of e2);exact⟨RcAt.int_tuple _ _ p hA,EqAt.int_tuple _ _ p hA,RcNeAt.int_tuple _ _ p hA⟩
   | _=>cases h2
  | @lst la vs xs e1 g1 =>
   cases ru;obtain⟨its,r,p,_⟩:=I.list (SqL.of e1);cases b with
   | non=>cases rt;exact⟨RcAt.list_none p.isList hA,EqAt.list_none p.isList hA,RcNeAt.list_none p.isList hA⟩
   | bl _=>cases rt;exact⟨RcAt.list_bool _ p.isList hA,EqAt.list_bool _ p.isList hA,RcNeAt.list_bool _ p.isList hA⟩
   | int _=>obtain⟨_,rfl⟩:=rt;exact⟨RcAt.list_int _ _ p.isList hA,EqAt.list_int _ _ p.isList hA,RcNeAt.list_int _ _ p.isList hA⟩
   | tup e2 g2=>cases rt;obtain⟨its2,r2,p2,_⟩:=I.tuple (SqT.of e2);exact⟨RcAt.list_tuple p.isList p2 hA,EqAt.list_tuple p.isList p2 hA,RcNeAt.list_tuple p.isList p2 hA⟩
   | @lst lb ws ys e2 g2 =>
    cases rt;obtain⟨its2,r2,p2,_⟩:=I.list (SqL.of e2);have l1:its.length=xs.length:=by rw[<- r.length,g1.len]
    have l2:its2.length=ys.length:=by rw[<- r2.length,g2.len]
    have el:=Ch (A:=A.in1) (s:=s) (λa b c d e f=>(ih hin a b c d e f).2.1) (ύ.mp h1) (ύ.mp h2) g1 g2 r r2;have rc:RcAt A s (.ref la) (.ref lb) (pyq (n+1) (.lst xs) (.lst ys)):=by
     rw[oF];by_cases hl:xs.length=ys.length
     ·have q:=RcAt.lists (A:=A) (s:=s) (e:=λj=>pyq n (xs.getD j .non) (ys.getD j .non)) p.isList p2.isList (by simp[l1,l2,hl]) hA el;have es:its.toArray.size=xs.length:=by simp[l1]
      rw[es]at q;rw[decide_eq_true hl,Μ];exact q
     ·rw[decide_eq_false hl,Bool.false_and];exact RcAt.lists_lengths p.isList p2.isList (by simp[l1,l2,hl]) hA
    have rn:RcNeAt A s (.ref la) (.ref lb) (!pyq (n+1) (.lst xs) (.lst ys)):=by
     rw[oF];by_cases hl:xs.length=ys.length
     ·have q:=RcNeAt.lists (A:=A) (s:=s) (e:=λj=>pyq n (xs.getD j .non) (ys.getD j .non)) p.isList p2.isList (by simp[l1,l2,hl]) hA el;have es:its.toArray.size=xs.length:=by simp[l1]
      rw[es]at q;rw[decide_eq_true hl,Μ];exact q
     ·rw[decide_eq_false hl,Bool.false_and];exact RcNeAt.lists_lengths p.isList p2.isList (by simp[l1,l2,hl]) hA
    refine⟨rc,?_,rn⟩;by_cases hab:la=lb
    ·subst hab;have:=Has.inj h1 h2 (.lst e1 g1) (.lst e2 g2);rw[this,qo h2];exact EqAt.same _
    ·exact EqAt.of_refs hab rc
   | _=>cases h2
  | @tup la vs xs e1 g1 =>
   cases ru;obtain⟨its,r,p,_⟩:=I.tuple (SqT.of e1);cases b with
   | non=>cases rt;exact⟨RcAt.tuple_none p hA,EqAt.tuple_none p hA,RcNeAt.tuple_none p hA⟩
   | bl _=>cases rt;exact⟨RcAt.tuple_bool _ p hA,EqAt.tuple_bool _ p hA,RcNeAt.tuple_bool _ p hA⟩
   | int _=>obtain⟨_,rfl⟩:=rt;exact⟨RcAt.tuple_int _ _ p hA,EqAt.tuple_int _ _ p hA,RcNeAt.tuple_int _ _ p hA⟩
   | lst e2 g2=>cases rt;obtain⟨its2,r2,p2,_⟩:=I.list (SqL.of e2);exact⟨RcAt.tuple_list p p2.isList hA,EqAt.tuple_list p p2.isList hA,RcNeAt.tuple_list p p2.isList hA⟩
   | @tup lb ws ys e2 g2 =>
    cases rt;obtain⟨its2,r2,p2,_⟩:=I.tuple (SqT.of e2);have l1:its.length=xs.length:=by rw[<- r.length,g1.len]
    have l2:its2.length=ys.length:=by rw[<- r2.length,g2.len]
    have el:=Ch (A:=A.in1) (s:=s) (λa b c d e f=>(ih hin a b c d e f).2.1) (ύ.mp h1) (ύ.mp h2) g1 g2 r r2;have rc:RcAt A s (.ref la) (.ref lb) (pyq (n+1) (.tup xs) (.tup ys)):=by
     rw[oE];have q:=RcAt.tuples (A:=A) (s:=s) (e:=λj=>pyq n (xs.getD j .non) (ys.getD j .non)) p p2 hA el;have es:its.toArray.size=xs.length:=by simp[l1]
     have es2:its2.toArray.size=ys.length:=by simp[l2]
     rw[es,es2]at q;by_cases hl:xs.length=ys.length
     ·rw[hl,Nat.min_self,beq_self_eq_true,Bool.and_true]at q;rw[decide_eq_true hl,Μ,hl];exact q
     ·rw[decide_eq_false hl,Bool.false_and];rw[show(xs.length==ys.length)=false by simpa using hl,Bool.and_false]at q;exact q
    have rn:RcNeAt A s (.ref la) (.ref lb) (!pyq (n+1) (.tup xs) (.tup ys)):=by
     rw[oE];have q:=RcNeAt.tuples (A:=A) (s:=s) (e:=λj=>pyq n (xs.getD j .non) (ys.getD j .non)) p p2 hA el;have es:its.toArray.size=xs.length:=by simp[l1]
     have es2:its2.toArray.size=ys.length:=by simp[l2]
     rw[es,es2]at q;by_cases hl:xs.length=ys.length
     ·rw[hl,Nat.min_self,beq_self_eq_true,Bool.and_true]at q;rw[decide_eq_true hl,Μ,hl];exact q
     ·rw[decide_eq_false hl,Bool.false_and];rw[show(xs.length==ys.length)=false by simpa using hl,Bool.and_false]at q;exact q
    refine⟨rc,?_,rn⟩;by_cases hab:la=lb
    ·subst hab;have:=Has.inj h1 h2 (.tup e1 g1) (.tup e2 g2);rw[this,qo h2];exact EqAt.same _
    ·exact EqAt.of_refs hab rc
   | _=>cases h2
  | _=>cases h1
open SeqAt in
theorem yU (I:Inv X pins O H s):∀(n:Nat) {A:Around} {x y:D} {v w:V} {u t:Value},A.units+n<cLine->eqb n x=true->eqb n y=true->Has X.K C H v x->Has X.K C H w y->RelV v u->RelV w t ->
  RcAt A s u t (pyq n x y)/\EqAt A s u t (pyq n x y) :=
 λn _ _ _ _ _ _ _ hu h1 h2 a b c d=>⟨(tN I n hu h1 h2 a b c d).1,(tN I n hu h1 h2 a b c d).2.1⟩
open SeqAt in
theorem Gg (I:Inv X pins O H s):∀(n:Nat) {A:Around} {x y:D} {v w:V} {u t:Value},A.units+n<cLine->eqb n x=true->eqb n y=true->Has X.K C H v x->Has X.K C H w y->RelV v u->RelV w t ->
  RcNeAt A s u t (!pyq n x y) :=
 λn _ _ _ _ _ _ _ hu h1 h2 a b c d=>(tN I n hu h1 h2 a b c d).2.2
variable {K:Frag}
theorem Brw.has {M:Hp} {v:V} {d:D} (s:Same M H) (h:Brw K C M H v d):Has K C H v d:=by
 cases h with
 | cl h=>exact h.mono s
 | own e h=>exact .lst e (h.mono s)
variable {a b:Expr} {pos:Pos} {Fa Fb:Rho->R D}
section
variable {C:Addr} {X:Cx}
def feq (x y:D):R D:=if eqb 9 x=true/\eqb 9 y=true then .val (.bl (pyq 9 x y))else .bad
def fne (x y:D):R D:=if eqb 9 x=true/\eqb 9 y=true then .val (.bl (!pyq 9 x y))else .bad
def Ab (K:Frag) (C:Addr) (neg:Bool):R2:=λv w H Q=>∃x y,eqb 9 x=true/\eqb 9 y=true/\Has K C H v x/\Has K C H w y/\Q (.bl (if neg then !pyq 9 x y else pyq 9 x y)) H
theorem xV (hu:X.A.units+9<cLine):OpR X (compareOp .Eq) (Ab X.K C false):=by
 intro pins s O H x y v u Q I rx ry h;obtain⟨dx,dy,e1,e2,h1,h2,q⟩:=h;exact(yU I 9 hu e1 e2 h1 h2 rx ry).1 _ _ _ _ ⟨.bl _,H,I,rfl,q⟩
theorem DR (hu:X.A.units+9<cLine):OpR X (compareOp .NotEq) (Ab X.K C true):=by
 intro pins s O H x y v u Q I rx ry h;obtain⟨dx,dy,e1,e2,h1,h2,q⟩:=h;exact Gg I 9 hu e1 e2 h1 h2 rx ry _ _ _ _ ⟨.bl _,H,I,rfl,q⟩
theorem xS:OpD C X (Ab X.K C false) feq:=by
 intro U O H v w x y z Q r hx hy e k;unfold feq at e;split at e
 ·rename_i hh;cases e;exact⟨x,y,hh.1,hh.2,hx.has msk_sub,hy.has msk_sub,k _ H (Same.refl _) (.bl _)⟩
 ·cases e
theorem DK:OpD C X (Ab X.K C true) fne:=by
 intro U O H v w x y z Q r hx hy e k;unfold fne at e;split at e
 ·rename_i hh;cases e;exact⟨x,y,hh.1,hh.2,hx.has msk_sub,hy.has msk_sub,k _ H (Same.refl _) (.bl _)⟩
 ·cases e
theorem B9:cL feq:=λx y c e=>by unfold feq at e;split at e<;>cases e
theorem F4:cL fne:=λx y c e=>by unfold fne at e;split at e<;>cases e
theorem GN (hu:X.A.units+9<cLine) (ha:EB C X a Fa) (hb:EB C X b Fb):ED C X (.Compare a [.Eq] [b] pos) (bin feq Fa Fb):=y8 (xV (C:=C) hu) B9 xS ha hb (iM _)
theorem Fx (hu:X.A.units+9<cLine) (ha:EB C X a Fa) (hb:EB C X b Fb):TD C X (.Compare a [.Eq] [b] pos) (tst (bin feq Fa Fb)):=iK (xV (C:=C) hu) B9 xS ha hb (iM _)
theorem Fs (hu:X.A.units+9<cLine) (ha:EB C X a Fa) (hb:EB C X b Fb):TD C X (.Compare a [.NotEq] [b] pos) (tst (bin fne Fa Fb)):=iK (DR (C:=C) hu) F4 DK ha hb (iM _)
end
variable {C:Addr} {X:Cx}
def Ite (K:Frag) (a:Addr):It :=
 ⟨λi H=>∃xs x,SqL K H a xs/\xs[i]?=some x,λi H v H'=>∃p x,H p=none/\v=.ref p/\H'=upd H p (.tup [.int (i:Int),x])/\∀xs,SqL K H a xs->xs[i]?=some x,λi H=>∃xs,SqL K H a xs/\xs.length<=i⟩
variable {es:List Expr} {k:Nat}
theorem vz {P:Program} {w:World} (a it e:Addr) (hne:e≠it) :
  tP P w K (.Tuple es k pos) (Ite K a) [e,it] e (λi h=>(∃old,IsEnum h e it i old)/\h.IsListIter it a i) where
 mem:=by simp
 obj:=λi h st b hb=>by
  obtain⟨⟨old,he⟩,o,eo,c,d⟩:=st;have hb:b=e\/b=it:=by simpa using hb
  rcases hb with rfl|rfl
  ·exact⟨_,he,λv z=>by have z':Data.fields _=Data.cell v:=z;cases z'⟩
  ·exact⟨o,eo,λv z=>by rw[d]at z;cases z⟩
 keep:=λi h h' st kk=>by
  obtain⟨⟨old,he⟩,st⟩:=st;exact⟨⟨old,kk e (by simp) _ he⟩,st.at λo q=>kk it (by simp) o q⟩
 item:=by
  intro X hP hw hK hc i pins s O H E I hf st hg;subst hP hw hK;obtain⟨⟨old,he⟩,hit⟩:=st;obtain⟨xs,x,hq,hx⟩:=hg;obtain⟨its,rv,p,hz⟩:=I.list hq;obtain⟨u,hu,ru⟩:=rv.get hx;refine wpAny_pyNext_enum_item he hit p.isList (x:=u) (by simpa using hu) hne λh' out hit' ht hsz hk=>?_;refine⟨_,rfl,wpAny_letOwnedTupleGo_enum out λh'' he'' sb=>?_⟩;have fr:=I.fresh;have hk2:∀b o,b≠e->b≠it->s.heap.get? b=some o->h''.get? b=some o:=λb o h1 h2 eo=>(sb.2 b h1).trans (hk b o h1 h2 eo);have hse:s.heap.objs.size≠e:=Nat.ne_of_gt (ϔ he);have ht2:h''.get? s.heap.objs.size=some { cls:=.type "tuple",data:=.seq #[.int i s.toks,u] }:=(sb.2 _ hse).trans ht;have ne':∀b,H b≠none->b≠e/\b≠it:=λb hb=>⟨λz=>hb (by rw[z];exact(hf e (by simp)).1),λz=>hb (by rw[z];exact(hf it (by simp)).1)⟩;have I1:Inv X pins O (upd H s.heap.objs.size (.tup [.int (i:Int),x])) { s with heap:=h'',toks:=s.toks+1 }:=by
   refine I.call' (s':={ s with heap:=h'',toks:=s.toks+1 }) (ch:=[e,it]) rfl ⟨λb o q n hfs hx=>hk2 b o (λz=>hx (by simp[z])) (λz=>hx (by simp[z])) q,λb o q n hfs hx=>⟨o.slots,hk2 b o (λz=>hx (by simp[z])) (λz=>hx (by simp[z])) q⟩,
    λb o q n hx=>?_,λb o q hx=>⟨o,hk2 b o (λz=>hx (by simp[z])) (λz=>hx (by simp[z])) q⟩,λb ys q=>?_,λb o v q=>?_,λb ps q=>?_⟩ (λb o q=>?_) I.bare λb hb=>?_
   ·rw[am (ϭ (ϔ q))];exact n
   ·rw[am (aD q fr)];exact q
   ·rw[am (aD q fr)];exact q
   ·exact⟨#[],by rw[am (aD q fr),q];simp⟩
   ·by_cases hb:b=s.heap.objs.size
    ·subst hb;rw[ax]at q;cases q;exact⟨by show 2<=sizeLine;decide,[.int i s.toks,u],.cons ⟨_,rfl⟩ (.cons ru .nil),⟨_,ht2,rfl,_,rfl⟩⟩
    ·rw[am hb]at q;refine(I.hok b o q).stay (λc v hc qv=>?_) (λc qc=>by rw[am (aD qc fr)];exact qc) λc ys qc=>by rw[am (aD qc fr)];exact qc
     have hcn:H c≠none:=by
      rcases hc with z|z
      ·rw[z,q];simp
      ·rw[z];simp
     obtain⟨n1,n2⟩:=ne' c hcn;exact hk2 c v n1 n2 qv
   ·obtain⟨g0,g1,g2,g3,g4,g5⟩:=hf b hb;exact⟨g3,g1,g4,g5⟩
  refine⟨.ref s.heap.objs.size,_,I1,rfl,⟨_,x,fr,rfl,rfl,λys hy=>by rw[I.list_inj hy hq];exact hx⟩,⟨⟨u,?_⟩,?_⟩,λb hb=>?_⟩
  ·have:((i:Int)+1)=((i+1:Nat):Int):=by push_cast;rfl
   rw[this]at he'';exact he''
  ·exact hit'.at λo q=>(sb.2 it (Ν hne)).trans q
  ·have hb':=(hf b hb).1;have hlt:b<s.heap.objs.size:=by
    have hb:b=e\/b=it:=by simpa using hb
    rcases hb with rfl|rfl
    ·exact ϔ he
    ·obtain⟨o,eo,_⟩:=hit;exact ϔ eo
   rw[am (ϭ hlt)];exact hb'
 done:=by
  intro X hP hw hK hc i pins s O H E I hf st hg;subst hP hw hK;obtain⟨⟨old,he⟩,hit⟩:=st;obtain⟨xs,hq,hx⟩:=hg;obtain⟨its,rv,p,hz⟩:=I.list hq;obtain⟨f0,f1,f2,f3,f4,f5⟩:=hf it (by simp);have hl:=rv.length;exact wpAny_pyNext_enum_end (I.ok.hd hc) he hit p.isList (by simp;omega) λh' eb=>⟨rfl,I.turned (t':=s.toks) (λb o hb q=>eb b o hb q) f0 f1 f3 f4 f5⟩
 self:=λ_ _ _ _ _ st h=>by
  obtain⟨⟨old,he⟩,_⟩:=st;exact wpAny_pyIter_enum he h
def enu:Nat->List D->List D
 | _,[]=>[]
 | k,x::r=>.tup [.int (k:Int),x]::enu (k+1) r
theorem u7:∀(k:Nat) (xs:List D),(enu k xs).length=xs.length
 | _,[]=>rfl
 | k,x::r=>by simp[enu,u7]
theorem tD:∀{k:Nat} {xs:List D} {i:Nat} {y:D},(enu k xs)[i]?=some y->∃x,xs[i]?=some x/\y=.tup [.int ((k+i:Nat):Int),x]
 | _,[],_,_,e=>by simp[enu]at e
 | k,x::r,0,y,e=>by
  simp[enu]at e;exact⟨x,rfl,by rw[<- e];rfl⟩
 | k,x::r,i+1,y,e=>by
  have e:(enu (k+1) r)[i]?=some y:=by simpa[enu]using e
  obtain⟨z,h1,h2⟩:=tD e;refine⟨z,by simpa using h1,?_⟩;rw[h2,show k+1+i=k+(i+1) by omega]
theorem vy {a:Addr} {xs:List D} {M:Hp} (e:M a=some (.lst vs)) (h:HasL K C M vs xs):pW K C (Ite K a) (enu 0 xs) M where
 go:=λi y H2 s hy=>by
  obtain⟨x,hx,rfl⟩:=tD hy;obtain⟨v,e1,h1⟩:=h.get hx;refine⟨⟨vs,v,SqL.of (s _ _ e),e1⟩,λv' H3 y=>?_⟩;obtain⟨p,x',hp,rfl,rfl,y⟩:=y;have e2:=y vs (SqL.of (s _ _ e));rw[e1]at e2;cases e2;refine⟨aq hp,λU O hown m=>?_⟩;have em:msk U O (upd H2 p (.tup [.int (i:Int),v])) p=some (.tup [.int (i:Int),v]):=msk_some.mpr ⟨λz=>hown p z hp,ax⟩;refine .tup em (.cons ?_ (.cons (h1.mono (m.trans (az (aq hp)))) .nil));rw[Λ];exact .int _
 stop:=λH2 s=>⟨vs,SqL.of (s _ _ e),by rw[u7,h.len];exact ϗ _⟩
variable {p:Pos}
theorem Ak {tp:Pos} {l:Expr} {ta:TA} (hg:Gl X "enumerate") (hm:X.mg "enumerate"=none) (ha:PA X [l] ta) (hs:starEach [l] X.env=[(false,eval l X.env)]:=by rfl) :
  PI X (.Tuple es k tp) (.Call (.Name "enumerate" p) [l] [] pos) (λO H R=>ta O H λvs H1=>∃a xs,vs=[.ref a]/\SqL X.K H1 a xs/\R (Ite X.K a) H1):=by
 intro pins s O H R I h;refine Call_ (gF I hg hm boot_enumerate (Ο (thn (ha pos pins s O H _ I h) λus s1 zz0=>?_) hs rfl));obtain⟨vs,H1,I1,r1,q1⟩:=zz0;obtain⟨a,xs,e,hq,q⟩:=q1;subst e;cases r1 with
 | cons r rr =>
  cases rr;cases r;obtain⟨its,rv,pl,hz⟩:=I1.list hq;refine call_enumerate_list pl.isList λh' he hit hsz kp=>?_;have I2:Inv X pins O H1 { s1 with heap:=h' }:=I1.kept (t':=s1.toks) kp;refine wpAny_pyIter_enum he ?_;have ne:s1.heap.objs.size+1≠s1.heap.objs.size:=Nat.succ_ne_self _;refine⟨s1.heap.objs.size+1,[s1.heap.objs.size+1,s1.heap.objs.size],_,_,H1,rfl,I2,vz a s1.heap.objs.size (s1.heap.objs.size+1) ne,⟨⟨_,he⟩,hit⟩,λb hb=>?_,q⟩;have hb:b=s1.heap.objs.size+1\/b=s1.heap.objs.size:=by simpa using hb
  have hle:s1.heap.objs.size<=b:=by
   rcases hb with z|z
   ·rw[z];exact Nat.le_succ _
   ·rw[z];exact ϗ _
  exact I1.fpOk hle (I1.hok.fresh hle)
def ph:List D->R (List D)
 | [.lst xs]=>.val (enu 0 xs)
 | _=>.bad
def c9 (F:Rho->R (List D)):Rho->R (List D):=λU=>(F U).bind ph
theorem A5 {tp : Pos} {l : Expr} {F : Rho -> R (List D)} (hg : Gl X "enumerate") (hm : X.mg "enumerate" = none) (ha : AD C X [l] F) (hs : starEach [l] X.env = [(false, eval l X.env)] := by rfl) :
    ID C X (.Tuple es k tp) (.Call (.Name "enumerate" p) [l] [] pos) (c9 F) := kS (Ak hg hm ha hs) fun O H R yy0 => by
     obtain ⟨U, ⟨H0, r⟩, q⟩ := yy0
     exact ⟨U, ⟨H0, r⟩, by
  unfold c9 at q
  cases e : F U with
  | val ds =>
    rw [e] at q
    intro vs H1 s1 h1
    dsimp only [DL.R.bind] at q
    unfold ph at q
    split at q
    · rename_i e0
      split at e0
      · rename_i xs
        cases e0
        cases h1 with
        | cons a b =>
          cases b
          cases a with
          | lst e1 g1 => exact ⟨_, _, rfl, SqL.of (msk_sub _ _ e1), q _ H1 s1 (vy e1 g1)⟩
      · cases e0
    · rename_i e0
      split at e0 <;> cases e0
    · exact q.elim
  | exc c => rw [e] at q; exact q
  | bad => rw [e] at q; exact q⟩
def FW:V->List V->Hp->VK->Prop:=λx vs H Q=>∃l xs i y,x=.ref l/\vs=[.int i,y]/\H l=some (.lst xs)/\0<=i/\i<=xs.length/\xs.length<LIM/\Q .non (upd H l (.lst (xs.take i.toNat++y::xs.drop i.toNat)))
theorem vR:MtM X "list.insert" FW:=by
 intro pins s O H x vs v us Q I rx rv h;obtain⟨l,xs,i,y,rfl,rfl,hH,h0,h1,hz,q⟩:=h;cases rx;obtain⟨ui,uy,rfl,⟨tk,rfl⟩,ry⟩:=rv.two;obtain⟨z,its,n,r,hl,e⟩:=I.lstM hH;have hfit:¬(!Builtin.List.listFitsIndex i)=true:=by
  have h63:(xs.length:Int)<2 ^ 63:=by
   have:xs.length<100000:=hz;omega
  have:Builtin.List.listFitsIndex i=true:=by
   unfold Builtin.List.listFitsIndex;rw[ϝ];exact⟨decide_eq_true (by omega),decide_eq_true (by omega)⟩
  rw[this];simp
 refine call_meets F.slot_list_insert ⟨_,e,rfl⟩ F.entry_list_insert (F.args_list_insert_3 _ _ _) (PySem.AutoListH.list_insert_list_int_val_1 l its.toArray n i tk uy hfit (by rw[Ϟ,<- hl];exact z)) ⟨e,?_⟩;have hm:min i.toNat its.length=i.toNat:=by omega
 refine⟨.non,_,I.lset (its':=its.take i.toNat++uy::its.drop i.toNat) hH e ?_ ((r.take i.toNat).append (.cons ry (r.drop i.toNat))) ?_,rfl,q⟩
 ·have hlt:¬ i<0:=by omega
  simp only[hlt,if_false,Ϟ,hm];apply Array.ext';simp[hm];exact List.take_of_length_le (by rw[List.length_drop];exact ϗ _)
 ·rw[Ϝ,ϫ,Θ,List.length_drop];have:xs.length<100000:=hz;have h2:(100000:Nat)<=sizeLine:=by decide
  omega
def ins (i:Nat) (k e:Rho->R D):Rho->R Out:=λU=>match U[i]? with
 | some (some (.own xs))=>(k U).bind λn=>(e U).bind λd=>match n with
  | .int n=>if 0<=n/\n<=xs.length/\xs.length<LIM then .val (.nx (U.set i (some (.own (xs.take n.toNat++d::xs.drop n.toNat)))))else .bad
  | _=>.bad
 | _=>.bad
theorem Db {i:Nat} {x:Str} {k e:Expr} {ap cp:Pos} {Fk F:Rho->R D} (hv:PE X (.Name x p) (c8 i)) (hk:ED C X k Fk) (he:ED C X e F)
  (hs:∀{to:TE} {t:TA},PE X (.Name x p) to->PA X [k,e] t->PS X (.Expr (.Call (.Attribute (.Name x p) "insert" ap) [k,e] [] cp) pos) (j4 (tBM X.K "list" FW to t)):=by
   exact λho ha=>fR (iX ϴ PySem.F.slot_list_insert PySem.F.type_list_insert vR ho ha))
  (hst:starEach [k,e] X.env=(false,eval k X.env)::starEach [e] X.env:=by rfl) (hst2:starEach [e] X.env=(false,eval e X.env)::starEach [] X.env:=by rfl) :
  SD C X (.Expr (.Call (.Attribute (.Name x p) "insert" ap) [k,e] [] cp) pos) (ins i Fk F) :=
 aH (hs hv (aQ hk (aQ he bH hst2) hst)) λD O H zz1=>by
  obtain⟨_,H0,⟨U,rfl,r⟩,q⟩:=zz1;unfold ins at q;split at q
  ·rename_i xs e0;obtain⟨a,vs,e1,_,h1,h2⟩:=r.at_ i _ e0;refine⟨_,e1,.inl ⟨rfl,_,SqL.of h1⟩,U,⟨H0,r⟩,au (P:=λz _=>pS C X z H0 D) (λc h=>bN r h) (λh=>h) q λn v H1 s1 h3 q1=>?_⟩;refine⟨U,⟨H0,r.mono s1⟩,au (P:=λz _=>pS C X z H0 D) (λc h=>bN (r.mono s1) h) (λh=>h) q1 λd w H2 s2 h4 q2=>?_⟩;cases n with
   | int n =>
    dsimp only at q2;split at q2
    ·rename_i hl;cases h3;have h2':=h2.mono (az (U:=U) (O:=O) (s1.trans s2));refine⟨a,vs,n,w,rfl,rfl,s2 _ _ (s1 _ _ h1),hl.1,by rw[h2.len];exact hl.2.1,by rw[h2.len];exact hl.2.2,?_⟩;exact q2 _ _ ⟨_,rfl,((r.mono s1).mono s2).write e0 e1 ((h2'.take _).app (.cons h4 (h2'.drop _)))⟩
    ·exact q2.elim
   | _=>exact q2.elim
  ·exact q.elim
def FX (K:Frag) (C:Addr) (neg:Bool):R2:=λv w H Q=>∃x a vs ys,eqb 8 x=true/\ys.all (eqb 8)=true/\Has K C H v x/\w=.ref a/\H a=some (.lst vs)/\HasL K C H vs ys/\Q (.bl (if neg then !(ys.any λy=>pyq 8 y x)else ys.any λy=>pyq 8 y x)) H
open Classical in
theorem AU (I:Inv X pins O H s) {A:Around} (hu:A.units+9<cLine) {x:D} {v:V} {u:Value} {its:List Value} {ys:List D} (e1:eqb 8 x=true) (e2:ys.all (eqb 8)=true) (h1:Has X.K C H v x) (rx:RelV v u)
  (h2:HasL X.K C H vs ys) (r:Vals vs its):∃e:Value->Bool,(∀y,y∈its.toArray->SeqAt.EqAt A.in1 s y u (e y))/\its.toArray.any e=ys.any λy=>pyq 8 y x:=by
 have key:∀(j:Nat) (t:Value) (d:D),its[j]?=some t->ys[j]?=some d->∃w,RelV w t/\Has X.K C H w d:=λj t d q1 q2=>by
  obtain⟨w,g1,g2⟩:=h2.get q2;obtain⟨t',g3,g4⟩:=r.get g1;rw[q1]at g3;cases g3;exact⟨w,g4,g2⟩
 have mem8:∀(j:Nat) d,ys[j]?=some d->eqb 8 d=true:=λj d q=>ύ.mp e2 d (Η q);refine⟨λt=>decide (∃(j:Nat) (d:D),its[j]?=some t/\ys[j]?=some d/\pyq 8 d x=true),λt ht=>?_,?_⟩
 ·have ht:t∈its:=by simpa using ht
  obtain⟨j,hj,rfl⟩:=ϲ.mp ht;have hl:its.length=ys.length:=by rw[<- r.length,h2.len]
  have q1:its[j]?=some its[j]:=by simp[hj]
  have q2:ys[j]?=some (ys[j]'(by omega)):=by simp[show j<ys.length by omega]
  obtain⟨w,g1,g2⟩:=key j _ _ q1 q2;have ok:=(yU I 8 (A:=A.in1) (by show A.units+1+8<cLine;omega) (mem8 j _ q2) e1 g2 h1 g1 rx).2;have:decide (∃(j':Nat) (d:D),its[j']?=some its[j]/\ys[j']?=some d/\pyq 8 d x=true)=pyq 8 (ys[j]'(by omega)) x:=by
   cases hp:pyq 8 (ys[j]'(by omega)) x with
   | true=>exact decide_eq_true ⟨j,_,q1,q2,hp⟩
   | false =>
    refine decide_eq_false λzz2=>?_;obtain⟨j',d,z1,z2,z3⟩:=zz2;obtain⟨w',g1',g2'⟩:=key j' _ _ z1 z2;have ew:w'=w:=RelV.inj g1' g1;subst ew;have:=Has.inj (mem8 j' d z2) (mem8 j _ q2) g2' g2;rw[<- this,z3]at hp;cases hp
  show SeqAt.EqAt A.in1 s its[j] u (decide (∃(j':Nat) (d:D),its[j']?=some its[j]/\ys[j']?=some d/\pyq 8 d x=true));rw[this];exact ok
 ·have hl:its.length=ys.length:=by rw[<- r.length,h2.len]
  rw[Bool.eq_iff_iff];simp only[Array.any_eq_true,List.any_eq_true,decide_eq_true_eq];constructor
  ·rintro⟨i,hi,j,d,q1,q2,q3⟩;exact⟨d,Η q2,q3⟩
  ·rintro⟨d,hd,q3⟩;obtain⟨j,hj,rfl⟩:=ϲ.mp hd;have hj':j<its.length:=by omega
   exact⟨j,by simpa using hj',j,ys[j],by simp[hj'],by simp[hj],q3⟩
theorem vQ (hu:X.A.units+9<cLine):OpR X (compareOp .NotIn) (FX X.K C true):=by
 intro pins s O H x y v u Q I rx ry h;obtain⟨d,a,vs,ys,e1,e2,h1,rfl,hH,h2,q⟩:=h;cases ry;obtain⟨its,r,pl,hz⟩:=I.list (SqL.of hH);obtain⟨e,he,hany⟩:=AU I hu e1 e2 h1 rx h2 r;exact SeqAt.notIn_listAt e pl.isList he ⟨.bl _,H,I,by rw[hany];rfl,q⟩
def jQ (neg:Bool) (x y:D):R D:=match y with
 | .lst ys=>if eqb 8 x=true/\ys.all (eqb 8)=true then .val (.bl (if neg then !(ys.any λy=>pyq 8 y x)else ys.any λy=>pyq 8 y x))else .bad
 | _=>.bad
theorem DN (neg:Bool):OpD C X (FX X.K C neg) (jQ neg):=by
 intro U O H v w x y z Q r hx hy e k;unfold jQ at e;split at e
 ·rename_i ys;split at e
  ·rename_i hh;cases e;obtain⟨a,vs,rfl,e1,h2⟩:=hy.lst msk_sub;exact⟨x,a,vs,ys,hh.1,hh.2,hx.has msk_sub,rfl,e1,h2.mono msk_sub,k _ H (Same.refl _) (.bl _)⟩
  ·cases e
 ·cases e
theorem F6 (neg:Bool):cL (jQ neg):=λx y c e=>by
 unfold jQ at e;split at e
 ·split at e<;>cases e
 ·cases e
theorem CJ (hu:X.A.units+9<cLine) (ha:EB C X a Fa) (hb:EB C X b Fb) (hm:behindInMarks .NotIn b=false:=by rfl):TD C X (.Compare a [.NotIn] [b] pos) (tst (bin (jQ true) Fa Fb)):=iK (vQ (C:=C) hu) (F6 _) (DN _) ha hb hm
end DL
namespace DL
open PySem PySem.Spec PyProof.Rows L2
open AutoSeq1 (wpAny_loadPart')
variable {r:Addr} {a b c:Int} {t u v:Tok} {n:Nat}
section
variable {prog:Program} {w:World} {A:Around} {E:Value->Shared->Prop} {s:Shared}
theorem jD {Q:List Value->Shared->Prop} (hh:A.handled=none) (hr:IsRange s.heap r a b c t u v) (hsmall:Builtin.Range.small a b c=true)
  (hn:Builtin.Range.rangeSize a b c=n) (hlen:n<=2 ^ 24)
  (hQ:∀h' tk acc,(∀b o',s.heap.get? b=some o'->h'.get? b=some o')->ItemsOf (λi v=>∃t,v=.int (a+i*c) t) acc n->Q acc.toList { s with heap:=h',toks:=tk }) :
  wpAny (model prog w) A (collect (.ref r)) Q E s:=by
 unfold collect;refine wpAny_bind (wpAny_runValue (codeAny_builtin F.entry_proto_collect ?_));rw[Around.under_plainId F.plain_proto_collect _];show wpAny _ A.in1 (newList [] >>= λl=>again (.builtin "list.__iadd__" ⟨[l,.ref r],[]⟩)) _ _ s;refine wpAny_bind (wpAny_newObj_type ?_);refine wpAny_pure ⟨plainId_quiet F.plain_list_iadd _,codeAny_builtin F.entry_list_iadd ?_⟩;rw[Around.under_plainId F.plain_list_iadd _];show wpAny _ A.in1 (Builtin.List.listExtendWith (.ref s.heap.objs.size) (.ref r) (.ref s.heap.objs.size)) _ _ _;have hS:(s.heap.push { cls:=.type "list",data:=.seq ([]:List Value).toArray }).get? s.heap.objs.size=some { cls:=.type "list",data:=.seq #[] 0 }:=ϧ _ rfl;have fin':∀h' tk acc c',(∀b o',s.heap.get? b=some o'->h'.get? b=some o')->h'.get? s.heap.objs.size=some { cls:=.type "list",dict:=none,data:=.seq acc c',slots:=#[] }->ItemsOf (λi v=>∃t,v=.int (a+i*c) t) acc n ->
   wpAny (model prog w) A (match Value.ref s.heap.objs.size with
   | Value.ref a=>do
    match(<- load a).data with
     | Data.seq xs _=>pure xs.toList
     | _=>unsupported "internal:collect"
   | _=>unsupported "internal:collect") Q E { s with heap:=h',toks:=tk }:=λh' tk acc c' hk hS' hacc=>by
  show wpAny _ A (load s.heap.objs.size >>= _) _ _ _;refine wpAny_bind (wpAny_load hS' ?_);exact wpAny_pure (hQ h' tk acc hk hacc)
 refine wpAny_mono (wpAny_extend_range (A:=A) (R:=λres s'=>∃h' tk acc c',res=.ok (.ret (.ref s.heap.objs.size))/\s'={ s with heap:=h',toks:=tk }/\(∀b o',s.heap.get? b=some o'->h'.get? b=some o') /\
   h'.get? s.heap.objs.size=some { cls:=.type "list",dict:=none,data:=.seq acc c',slots:=#[] }/\ItemsOf (λi v=>∃t,v=.int (a+i*c) t) acc n)
  (s:={ s with heap:=s.heap.push { cls:=.type "list",data:=.seq ([]:List Value).toArray } }) hh (ϒ _ hr) hsmall hn hlen s.heap.objs.size _ 0 hS λh' tk acc' c' hk hS' hacc=>⟨h',tk,acc',c',rfl,rfl,λb o' hb=>hk b o' (ϭ (ϔ hb)) (ϒ _ hb),hS',hacc⟩) (λfin s' h=>?_) (λe s' h=>?_)
 ·cases fin with
  | done f =>
   obtain⟨h',tk,acc,c',e,rfl,hk,hS',hacc⟩:=h;cases e;exact fin' h' tk acc c' hk hS' hacc
  | again c'=>exact⟨h.1,codeAny_mono h.2 λr s'' hr=>by obtain⟨h',tk,acc,c',rfl,rfl,hk,hS',hacc⟩:=hr;exact fin' h' tk acc c' hk hS' hacc⟩
 ·obtain⟨_,_,_,_,e,_⟩:=h;exact absurd e (by simp)
theorem g_ {Q₁:Value->Shared->Prop} (hh:A.handled=none) (hr:IsRange s.heap r a b c t u v) (hsmall:Builtin.Range.small a b c=true)
  (hn:Builtin.Range.rangeSize a b c=n) (hlen:n<=2 ^ 24)
  (h:∀(h':Heap) (tk:Nat) (acc:Array Value),(∀b o',s.heap.get? b=some o'->h'.get? b=some o')->ItemsOf (λi v=>∃t,v=.int (a+i*c) t) acc n->Q₁ (.ref h'.objs.size) { s with heap:=h'.push { cls:=.type "tuple",data:=.seq acc },toks:=tk }) (hsz:n<=sizeLine) :
  codeAny (model prog w) A (.call (.builtin "tuple.__new__") ⟨[.type "tuple",.ref r],[]⟩) (wants Q₁ E) s:=by
 refine codeAny_of_tree ?_;show wpAny _ A.in1 (do checkBuiltinCall "tuple.__new__" ⟨[.type "tuple",.ref r],[]⟩;again (.builtin "tuple.__new__" ⟨[.type "tuple",.ref r],[]⟩)) _ _ s;refine wpAny_bind (wpAny_of_eq (F.newCall_tuple_1 _) (wpAny_pure ⟨plainId_quiet F.plain_tuple_new _,codeAny_builtin F.entry_tuple_new ?_⟩));rw[Around.under_plainId F.plain_tuple_new _];have hsub:=sub_tuple_self;have hinit:=init_tuple_lookup;have hmh:=madeHere_tuple;have hTI:s.TypeIs (.ref r) "range":=⟨_,hr,rfl⟩;have hhi:A.in1.handled=none:=hh
 wp_walk using wpAny_typeOf hTI,jD (A:=A.in1) hhi hr hsmall hn hlen
 intro h' tk acc hk hacc;show wpAny _ _ (Builtin.Tuple.tupleExact acc.toList.toArray >>= λv=>PySem.ret v) _ _ _;unfold Builtin.Tuple.tupleExact;refine wpAny_bind (wpAny_newObj_type ?_ (by show acc.toList.toArray.size<=sizeLine;simp only[Array.toArray_toList];rw[hacc.1];exact hsz));refine wpAny_pure ?_;have e:acc.toList.toArray=acc:=by simp
 rw[e];exact h h' tk acc hk hacc
theorem jW {Q:Value->Shared->Prop} (hh:A.handled=none) (hr:IsRange s.heap r a b c t u v) (hsmall:Builtin.Range.small a b c=true)
  (hn:Builtin.Range.rangeSize a b c=n) (hlen:n<=2 ^ 24)
  (h:∀(h':Heap) (tk:Nat) (acc:Array Value),(∀b o',s.heap.get? b=some o'->h'.get? b=some o')->ItemsOf (λi v=>∃t,v=.int (a+i*c) t) acc n->Q (.ref h'.objs.size) { s with heap:=h'.push { cls:=.type "tuple",data:=.seq acc },toks:=tk }) (hsz:n<=sizeLine) :
  wpAny (model prog w) A (call (.type "tuple") [.ref r]) Q E s:=by
 refine callType_codes (Q₁:=λobj s₁=>s₁.TypeIs obj "tuple"/\Q obj s₁) F.called_tuple (F.typeCall_tuple_1 _) F.entry_object_init
  (g_ hh hr hsmall hn hlen (λh' tk acc hm hacc=>⟨⟨_,ϧ _ rfl,rfl⟩,h h' tk acc hm hacc⟩) hsz) λobj s₁ h₁=>?_
 exact⟨h₁.1,F.args_object_init_2 obj _,object_init_meets F.called_tuple.init.lookup F.called_tuple.made (by decide) prog w A.in1 _ s₁ ⟨h₁.1,rfl,h₁.2⟩⟩
end
section
variable {C:Addr} {X:Cx}
def G4 (ta:TA):TE:=λO H Q=>ta O H λvs H1=>∃j:Int,vs=[.int j]/\-(2 ^ 62)<=j/\j<2 ^ 62/\∀r,H1 r=none->Q (.ref r) (upd H1 r (.rng 0 j))
theorem xJ {a:Expr} {ta:TA} {p pos:Pos} (hg:Gl X "range") (hm:X.mg "range"=none) (ha:PA X [a] ta) (hs:starEach [a] X.env=[(false,eval a X.env)]:=by rfl):PE X (.Call (.Name "range" p) [a] [] pos) (G4 ta):=by
 intro pins s O H Q I h;refine Call_ (gF I hg hm boot_range (Ο (thn (ha pos pins s O H _ I h) λus s1 zz0=>?_) hs rfl));obtain⟨vs,H1,I1,r1,q1⟩:=zz0;obtain⟨j,e,q1,q2,q⟩:=q1;subst e;cases r1 with
 | cons r rr =>
  cases rr;obtain⟨t,rfl⟩:=r;refine call_range_1 ?_;exact⟨.ref s1.heap.objs.size,_,I1.laid (a:=s1.heap.objs.size) (o:=.rng 0 j) (λb u e=>ϒ _ e) (ϗ _) ⟨_,_,_,ϧ _ rfl⟩,rfl,q _ I1.fresh⟩
theorem li {acc:List Value} (h:acc.length=n) (hv:∀(j:Nat) v,acc[j]?=some v->∃t,v=.int (0+(j:Int)*1) t):Vals ((List.range n).map λ(k:Nat)=>V.int (0+(k:Int))) acc:=by
 induction n generalizing acc with
 | zero=>cases acc with
  | nil=>exact .nil
  | cons x r=>simp at h
 | succ n ih =>
  have hne:acc≠[]:=by intro z;rw[z]at h;cases h
  have e:acc=acc.dropLast++[acc.getLast hne]:=(List.dropLast_concat_getLast hne).symm;have hl:acc.dropLast.length=n:=by rw[List.length_dropLast,h];rfl
  rw[α,Ϭ,e];refine Vals.append (ih hl λj v q=>?_) (.cons ?_ .nil)
  ·refine hv j v ?_;rw[e,ϡ (ώ.mp q).1];exact q
  ·obtain⟨t,et⟩:=hv n (acc.getLast hne) (by rw[List.getLast_eq_getElem,Ϗ (by omega)];congr 1;simp[h]);exact⟨t,by rw[et];simp⟩
def xm:List V->Hp->VK->Prop:=λxs H Q=>∃r j,xs=[.ref r]/\H r=some (.rng 0 j)/\-(2 ^ 62)<=j/\j<=100000/\∀p,H p=none->Q (.ref p) (upd H p (.tup ((List.range j.toNat).map λ(k:Nat)=>V.int (0+(k:Int)))))
theorem kx (hc:X.calm=true):hV X (.type "tuple") xm:=by
 intro pins s O H xs us Q I r h;obtain⟨ra,j,rfl,hq,hj0,hj,q⟩:=h;obtain⟨u,rfl,rx⟩:=lj r;cases rx;obtain⟨t,u',v',e⟩:=I.hok ra _ hq;have hn:Builtin.Range.rangeSize 0 j 1=(j.toNat:Nat):=by rw[rangeSize_one];split<;>omega
 have hsm:Builtin.Range.small 0 j 1=true:=small_one (by decide) (by decide) hj0 (by omega);refine jW (n:=j.toNat) (I.ok.hd hc) e hsm hn (by omega) (λh' tk acc hk hacc=>?_) (ϣ (show j.toNat<=100000 by omega) (by decide));have I1:Inv X pins O H { s with heap:=h',toks:=tk }:=I.kept hk;have hv:Vals ((List.range j.toNat).map λ(k:Nat)=>V.int (0+(k:Int))) acc.toList:=li (by simpa using hacc.1) λi v q=>hacc.2 i v (by simpa using q);have I2:Inv X pins O (upd H h'.objs.size (.tup ((List.range j.toNat).map λ(k:Nat)=>V.int (0+(k:Int))))) { s with heap:=h'.push { cls:=.type "tuple",data:=.seq acc },toks:=tk } :=
  I1.laid (t':=tk) (λb o e=>ϒ _ e) (ϗ _) (show ObjOk X.prog X.w _ _ _ (.tup _)from⟨by rw[ϋ,ϸ];exact ϣ (show j.toNat<=100000 by omega) (by decide),acc.toList,hv,by simpa using IsTup.new _ _⟩)
 exact⟨.ref h'.objs.size,_,I2,rfl,q _ I1.fresh⟩
def rgT:List D->R D
 | [.int j]=>if -(2 ^ 62)<=j/\j<=100000 then .val (.tup (rng 0 j.toNat))else .bad
 | _=>.bad
def fY (F:Rho->R (List D)):Rho->R D:=λU=>(F U).bind rgT
theorem qQ {K:Frag} {H:Hp} (n:Nat):HasL K C H ((List.range n).map λ(k:Nat)=>V.int (0+(k:Int))) (rng 0 n):=by
 unfold rng
 induction List.range n with
 | nil=>exact .nil
 | cons x r ih=>exact .cons (.int _) ih
theorem yZ {a : Expr} {p p2 pos pos2 : Pos} {F : Rho -> R (List D)} (hc : X.calm = true) (ha : AD C X [a] F) (hgr : Gl X "range") (hmr : X.mg "range" = none) (hgt : Gl X "tuple") (hmt : X.mg "tuple" = none)
    (hs : starEach [a] X.env = [(false, eval a X.env)] := by rfl) (hs2 : starEach [.Call (.Name "range" p2) [a] [] pos2] X.env = (false, eval (.Call (.Name "range" p2) [a] [] pos2) X.env) :: starEach [] X.env := by rfl)
    (hs3 : ∀ t : TA, PA X [.Call (.Name "range" p2) [a] [] pos2] t -> PE X (.Call (.Name "tuple" p) [.Call (.Name "range" p2) [a] [] pos2] [] pos) (tCB xm t) := by
      exact fun t ha => df (kx (by assumption)) (by assumption) (by assumption) PySem.boot_tuple ha) :
    ED C X (.Call (.Name "tuple" p) [.Call (.Name "range" p2) [a] [] pos2] [] pos) (fY F) :=
  ao (hs3 _ (aQ (xJ hgr hmr ha hs) bH hs2)) fun O H Q yy0 => by
   obtain ⟨U, ⟨H0, r⟩, q⟩ := yy0
   exact ⟨U, ⟨H0, r⟩, bQ (P := fun z H => pV X (bS C X U O) z O H Q) (fun _ h => h) (fun h => h) q fun ds vs H1 s1 h1 q1 => by
    unfold rgT at q1
    split at q1
    · rename_i j
      split at q1
      · rename_i hj
        cases h1 with
        | cons a b =>
          cases a; cases b
          refine ⟨j, rfl, hj.1, by omega, fun ra hra => ⟨ra, j, rfl, ax, hj.1, hj.2, fun pa hpa => q1 _ _ ((s1.trans (aq hra)).trans (aq hpa)) ?_⟩⟩
          exact .tup (((r.mono s1).mono (aq hra)).new hpa) (qQ _)
      · exact q1.elim
    · exact q1.elim⟩
end
end DL
namespace DL
open PySem PySem.Spec PyProof.Rows L2
def IsArr (h:Heap) (k:KA) (a:Addr):Prop:=∃ta t1 t2 its,IsTup h a #[.int k.1 t1,.int k.2.1 t2,.ref ta]/\IsTup h ta its.toArray/\IntsAre its k.2.2
theorem qO {prog:Program} {w:World}:∀{its:List Value} {ks:List Int},IntsAre its ks->ItemsAre (intKind prog w) ks its
 | _,_,.nil=>.nil
 | _,_,.cons n t h=>.cons (by show Value.isInt n (.int n t)=true;simp[Value.isInt]) (qO h)
variable {h:Heap}
theorem n8 {prog:Program} {w:World} {ta:Addr} {its:List Value} {ks:List Int} (h1:IsTup h ta its.toArray) (h2:IntsAre its ks):IsTupleKey (intKind prog w) h ks ta:=by
 obtain⟨o,ho,hc,n,hd⟩:=h1;exact⟨o,its.toArray,n,ho,hc,hd,by simpa using qO h2⟩
theorem kg:∀{its:List Value} {ks ls:List Int},IntsAre its ks->IntsAre its ls->ks=ls
 | _,_,_,.nil,.nil=>rfl
 | _,_,_,.cons n t h,.cons _ _ h'=>by rw[kg h h']
variable {a:Addr}
theorem nF {x y:Array Value} (h1:IsTup h a x) (h2:IsTup h a y):x=y:=by
 obtain⟨o,ho,hc,n,hd⟩:=h1;obtain⟨o',ho',hc',n',hd'⟩:=h2;rw[ho]at ho';cases ho';rw[hd]at hd';injection hd'
variable {k:KA}
theorem IsArr.inj {l:KA} (h1:IsArr h k a) (h2:IsArr h l a):k=l:=by
 obtain⟨ta,t1,t2,its,q1,q2,q3⟩:=h1;obtain⟨tb,u1,u2,jts,p1,p2,p3⟩:=h2;have e:=nF q1 p1;have e':=congrArg Array.toList e;simp only[ψ,Value.int.injEq,Value.ref.injEq]at e';obtain⟨⟨e1,_⟩,⟨e2,_⟩,e3,_⟩:=e';subst e3;have e4:=nF q2 p2;have e5:its=jts:=by simpa using congrArg Array.toList e4
 subst e5;have e6:=kg q3 p3;obtain⟨a1,a2,a3⟩:=k;obtain⟨b1,b2,b3⟩:=l;simp only at e1 e2 e6;rw[e1,e2,e6]
theorem kf {h':Heap} {d:Addr} {o:Obj} {es ep} {x:Array Value} (hx:IsTup h a x) (ho:h.get? d=some o) (hd:o.data=.dict es ep) (hs:Heap.SameBut d h h'):IsTup h' a x:=by
 obtain⟨o',ho',hc,n,hd'⟩:=hx;have hne:a≠d:=by
  rintro rfl;rw[ho]at ho';cases ho';rw[hd]at hd';cases hd'
 exact⟨o',(hs.2 a hne).trans ho',hc,n,hd'⟩
section
variable {prog:Program} {w:World} {A:Around} {E:Value->Shared->Prop} {s:Shared}
theorem sw {Q:Int->Shared->Prop} (hu:A.units+2<cLine) (hk:IsArr s.heap k a) (h:Q (kX k) { s with toks:=s.toks+(k.2.2.length+4) }):wpAny (model prog w) A (pyHash (.ref a)) Q E s:=by
 obtain⟨ta,t1,t2,its,q1,q2,q3⟩:=hk;have hT:s.TypeIs (.ref a) "tuple":=let ⟨o,ho,hc,_⟩:=q1;⟨o,ho,hc⟩;obtain⟨o,ho,_,n,hd⟩:=id q1;unfold pyHash
 first|unfold pyHashByItsType|skip
 first|refine wpAny_bind (wpAny_cRoomFor_or (.inr (by omega)) ?_)|skip
 refine wpAny_bind (wpAny_specialOf hT F.slot_tuple_hash.lookup ?_);show wpAny _ _ (if(some (Value.builtin "tuple.__hash__")==some Value.none)=true then _ else _) Q E s;rw[if_neg (by rw[beq_builtin_none];exact ϙ)];refine wpAny_bind (wpAny_specialOf hT F.slot_tuple_hash.lookup ?_);show wpAny _ _ (callSpecialIfBoundUnlessNone? (.ref a) "__hash__" _ >>= _) Q E s;refine wpAny_bind (wpAny_callSpecialIfBoundUnlessNone?_slot hT F.slot_tuple_hash (wpAny_call_entry F.slot_tuple_hash hT F.entry_tuple_hash ?_ (F.args_tuple_hash_1 _)));show wpAny _ _ (Builtin.Tuple.tupleItemsOf (.ref a) >>= _) _ _ s;refine wpAny_bind (wpAny_tupleItemsOf ho hd ?_);refine wpAny_bind ?_;rw[<- Array.forIn_toList];simp only[List.forIn_cons,List.forIn_nil];refine wpAny_bind (wpAny_bind (wpAny_pyHash_int ?_));refine wpAny_pure ?_;refine wpAny_bind (wpAny_bind (wpAny_pyHash_int ?_));refine wpAny_pure ?_;refine wpAny_bind (wpAny_bind (wpAny_pyHash_tuple (knd:=intKind prog w) (ks:=k.2.2) (by show A.units+1<cLine;omega) (n8 q2 q3) ?_));refine wpAny_pure (wpAny_pure ?_);show wpAny _ _ (retInt (Builtin.Tuple.tupleHashOf _)) _ _ _;refine wpAny_ret_mkInt ?_;have e:((((#[]:Array Int).push (hashInt k.1)).push (hashInt k.2.1)).push (tupleKeyHash (intKind prog w) k.2.2)).toList=[hashInt k.1,hashInt k.2.1,reduceHash (Builtin.Tuple.tupleHashOf (k.2.2.map hashInt))]:=rfl;rw[e];unfold kX at h;generalize hg:Builtin.Tuple.tupleHashOf [hashInt k.1,hashInt k.2.1,reduceHash (Builtin.Tuple.tupleHashOf (k.2.2.map hashInt))]=G at h ⊢;show wpAny _ _ (if(decide (-(2:Int) ^ 63<=G)&&decide (G<2 ^ 63))=true then _ else _) Q E _;unfold reduceHash at h;by_cases hr:(decide (-(2:Int) ^ 63<=G)&&decide (G<2 ^ 63))=true
 ·rw[if_pos hr];rw[if_pos hr]at h;refine wpAny_pure ?_;simpa[Nat.add_assoc,Nat.add_comm,Nat.add_left_comm]using h
 ·rw[if_neg hr];rw[if_neg hr]at h;refine wpAny_bind (wpAny_rule (wpAny_pure ?_));simpa[Nat.add_assoc,Nat.add_comm,Nat.add_left_comm]using h
theorem yV {l:KA} {b:Addr} (hu:A.units+2<cLine) (hk:IsArr s.heap k a) (hl:IsArr s.heap l b):SeqAt.EqAt A s (.ref a) (.ref b) (decide (k=l)):=by
 by_cases hab:a=b
 ·subst hab;rw[hk.inj hl,decide_eq_true rfl];exact SeqAt.EqAt.same _
 ·refine SeqAt.EqAt.of_refs hab ?_;obtain⟨ta,t1,t2,its,q1,q2,q3⟩:=hk;obtain⟨tb,u1,u2,jts,p1,p2,p3⟩:=hl;have z:=SeqAt.RcAt.tuples (A:=A) (s:=s) (e:=λj=>if j=0 then k.1==l.1 else if j=1 then k.2.1==l.2.1 else decide (k.2.2=l.2.2)) q1 p1 (by omega) λj h1 h2=>by
   have hj:j=0\/j=1\/j=2:=by
    have:j<3:=h1;omega
   rcases hj with rfl|rfl|rfl
   ·exact SeqAt.EqAt.int_int _ _ _ _
   ·exact SeqAt.EqAt.int_int _ _ _ _
   ·exact λprog w E Q hq=>wpAny_eqBool_tuple (knd:=intKind prog w) (by show A.units+1<cLine;omega) (n8 q2 q3) (n8 p2 p3) hq
  have e:((List.range (min (#[Value.int k.1 t1,.int k.2.1 t2,.ref ta]:Array Value).size (#[Value.int l.1 u1,.int l.2.1 u2,.ref tb]:Array Value).size)).all (λj=>if j=0 then k.1==l.1 else if j=1 then k.2.1==l.2.1 else decide (k.2.2=l.2.2)) &&
    (#[Value.int k.1 t1,.int k.2.1 t2,.ref ta]:Array Value).size==(#[Value.int l.1 u1,.int l.2.1 u2,.ref tb]:Array Value).size)=decide (k=l):=by
   obtain⟨a1,a2,a3⟩:=k;obtain⟨b1,b2,b3⟩:=l;show((List.range 3).all _&&true)=_;rw[Bool.eq_iff_iff];simp[α]
  rw[e]at z;exact z
theorem vK (n:Nat) {ks:List Int} {Q:Bool->Shared->Prop} (hk:IsTupleKey (intKind prog w) s.heap ks a) (h:Q true s):wpAny (model prog w) A (eqIsQuiet (n+1) (.ref a)) Q E s:=by
 have hT:=hk.typeIs;obtain⟨o,items,m,ho,_,hd,hi⟩:=hk;unfold eqIsQuiet;refine wpAny_bind (wpAny_specialOf hT F.slot_tuple_eq.lookup ?_);show wpAny _ _ (isInstance (.ref a) (.type "tuple") >>= _) _ _ s;refine wpAny_bind (wpAny_isInstance hT isSubtype_tuple_tuple ?_);simp only[γ,Ζ,if_false];refine wpAny_bind (wpAny_seqItems ho hd ?_);refine wpAny_bind ?_;show wpAny _ _ (forIn items _ _) _ _ s;rw[<- Array.forIn_toList];refine wpAny_forIn_list _ (λrest r s'=>r.1=none/\s'=s/\∀v∈rest,carriedByValue v=true) _ ?_ ?_ _ _ ⟨rfl,rfl,hi.byValue⟩
 ·rintro v rest r s' ⟨hr,rfl,hall⟩;rw[eqIsQuiet_byValue _ (hall v ϛ)];refine wpAny_bind (wpAny_pure ?_);simp only[γ,Ζ,if_false];exact wpAny_pure ⟨rfl,rfl,λu hu'=>hall u (ϑ _ hu')⟩
 ·rintro⟨r1,r2⟩ s' ⟨hr,rfl,_⟩;simp only at hr;subst hr;exact wpAny_pure h
theorem vL {Q:Bool->Shared->Prop} (hk:IsArr s.heap k a) (h:Q true s):wpAny (model prog w) A (eqIsQuiet 8 (.ref a)) Q E s:=by
 obtain⟨ta,t1,t2,its,q1,q2,q3⟩:=hk;have hT:s.TypeIs (.ref a) "tuple":=let ⟨o,ho,hc,_⟩:=q1;⟨o,ho,hc⟩;obtain⟨o,ho,_,n,hd⟩:=id q1;unfold eqIsQuiet;refine wpAny_bind (wpAny_specialOf hT F.slot_tuple_eq.lookup ?_);show wpAny _ _ (isInstance (.ref a) (.type "tuple") >>= _) _ _ s;refine wpAny_bind (wpAny_isInstance hT isSubtype_tuple_tuple ?_);simp only[γ,Ζ,if_false];refine wpAny_bind (wpAny_seqItems ho hd ?_);refine wpAny_bind ?_;show wpAny _ _ (forIn (#[Value.int k.1 t1,.int k.2.1 t2,.ref ta]:Array Value) _ _) _ _ s;rw[<- Array.forIn_toList];refine wpAny_forIn_list _ (λrest r s'=>r.1=none/\s'=s/\∀v∈rest,carriedByValue v=true\/v=.ref ta) _ ?_ ?_ _ _ ⟨rfl,rfl,λv hv=>?_⟩
 ·rintro v rest r s' ⟨hr,rfl,hall⟩;rcases hall v ϛ with hv|rfl
  ·rw[eqIsQuiet_byValue _ hv];refine wpAny_bind (wpAny_pure ?_);simp only[γ,Ζ,if_false];exact wpAny_pure ⟨rfl,rfl,λu hu'=>hall u (ϑ _ hu')⟩
  ·refine wpAny_bind (vK (prog:=prog) (w:=w) 6 (n8 q2 q3) ?_);simp only[γ,Ζ,if_false];exact wpAny_pure ⟨rfl,rfl,λu hu'=>hall u (ϑ _ hu')⟩
 ·rintro⟨r1,r2⟩ s' ⟨hr,rfl,_⟩;simp only at hr;subst hr;exact wpAny_pure h
 ·have hv:v∈[Value.int k.1 t1,.int k.2.1 t2,.ref ta]:=hv;simp only[Ϣ,Ϡ,or_false]at hv;rcases hv with rfl|rfl|rfl
  ·exact .inl rfl
  ·exact .inl rfl
  ·exact .inr rfl
end
def lg (prog:Program) (w:World):HeapKind prog w KA where
 is:=IsArr
 hash:=kX
 draws:=λk=>k.2.2.length+4
 room:=λA=>A.units+2<cLine
 inj:=λhx hy=>hx.inj hy
 keeps:=λhx ho hd hs=>by
  obtain⟨ta,t1,t2,its,q1,q2,q3⟩:=hx;exact⟨ta,t1,t2,its,kf q1 ho hd hs,kf q2 ho hd hs,q3⟩
 pyHash:=λhu hk h=>sw hu hk h
 eqBool:=λhu hx hy h=>yV hu hx hy _ _ _ _ h
 quiet:=λhk h=>vL hk h
variable {C:Addr} {X:Cx}
variable {O:St} {H:Hp}
theorem i7 {pins:List (Addr×Obj)} {s:Shared} (I:Inv X pins O H s) {kb:Addr} (h:KeyIn H k kb):IsArr s.heap k kb:=by
 obtain⟨ta,h1,h2⟩:=h;obtain⟨its,r,p,_⟩:=I.tuple (SqT.of h1);obtain⟨jts,r2,p2,_⟩:=I.tuple (SqT.of h2);cases r with
 | cons a b =>
  cases b with
  | cons c d =>
   cases d with
   | cons e f =>
    cases f;obtain⟨t1,rfl⟩:=a;obtain⟨t2,rfl⟩:=c;cases e;exact⟨ta,t1,t2,jts,p,p2,lT r2⟩
variable {xs:List (KA×Addr×Value)}
theorem pk {pins:List (Addr×Obj)} {s:Shared} (I:Inv X pins O H s) (e:H a=some (jw a xs)) (hk:∀x∈xs,KeyIn H x.1 x.2.1) (nd:(xs.map (·.1)).Nodup) :
  s.heap.DictOfH (lg X.prog X.w) a xs/\(a==sysModules)=false/\xs.length<=100001:=by
 obtain⟨⟨h1,hl,o,es,ep,h2,h3,h4,h5⟩,_⟩:=I.hok a _ e;exact⟨⟨o,es,ep,h2,h3,h4,h5,λx hx=>i7 I (hk x hx),nd⟩,h1,hl⟩
def Hj:R2:=λx y H Q=>∃a xs kb k p v,x=.ref a/\y=.ref kb/\H a=some (jw a xs)/\(∀x∈xs,KeyIn H x.1 x.2.1)/\(xs.map (·.1)).Nodup/\KeyIn H k kb/\atKey xs k=some p/\RelV v p.2/\Q v H
theorem Ec (hu:X.A.units+3<cLine):IxR X Hj:=by
 intro value slice pins s O H x y v u Q I rx ry h hs;obtain⟨a,xs,kb,k,p,v',rfl,rfl,e,hk,nd,hkey,hp,rp,q⟩:=h;cases rx;cases ry;obtain⟨hD,_,_⟩:=pk I e hk nd;exact subscriptTail_builtinR (x:=p.2) hD.typeIs slot_dict_getitem.lookup
  (wpAny_getItem_heap (knd:=lg X.prog X.w) (Q:=λr s'=>r=p.2/\EP X pins O Q r s') (by show X.A.units+1+2<cLine;omega) (i7 I hkey) hD hp ⟨rfl,v',H,I.tok _,rp,q⟩) hs
def Hl (neg:Bool):R2:=λx y H Q=>∃a xs kb k,x=.ref kb/\y=.ref a/\H a=some (jw a xs)/\(∀x∈xs,KeyIn H x.1 x.2.1)/\(xs.map (·.1)).Nodup/\KeyIn H k kb/\Q (.bl (if neg then !(atKey xs k).isSome else(atKey xs k).isSome)) H
theorem Az (hu:X.A.units+3<cLine):OpR X (compareOp .NotIn) (Hl true):=by
 intro pins s O H x y v u Q I rx ry h;obtain⟨a,xs,kb,k,rfl,rfl,e,hk,nd,hkey,q⟩:=h;cases rx;cases ry;obtain⟨hD,hs,_⟩:=pk I e hk nd;exact wpAny_notIn_heap (knd:=lg X.prog X.w) (by show X.A.units+1+2<cLine;omega) (i7 I hkey) hs hD ⟨.bl _,H,I.tok _,rfl,q⟩
def FQ:BZ:=λo i v H Q=>∃a xs kb k,o=.ref a/\i=.ref kb/\H a=some (jw a xs)/\(∀x∈xs,KeyIn H x.1 x.2.1)/\(xs.map (·.1)).Nodup/\KeyIn H k kb/\xs.length<=100000/\∀u,RelV v u->((storedH xs k kb u).map (·.1)).Nodup->Q (upd H a (jw a (storedH xs k kb u)))
theorem mt:∀h1 h2:Heap,dOk a xs h1->(∀o,h1.get? a=some o->h2.get? a=some o)->dOk a xs h2:=λh1 h2 ⟨p1,p2,o,es,ep,e1,e2,e3,e4⟩ k=>⟨p1,p2,o,es,ep,k o e1,e2,e3,e4⟩
theorem uh (hu:X.A.units+3<cLine):Ff X FQ:=by
 intro pins s O H o i v ov iv u Q I ro ri rv h;obtain⟨a,xs,kb,k,rfl,rfl,e,hk,nd,hkey,hl,q⟩:=h;cases ro;cases ri;obtain⟨hD,hs,_⟩:=pk I e hk nd;refine wpAny_setItem_heap (knd:=lg X.prog X.w) (by show X.A.units+1+2<cLine;omega) (i7 I hkey) hD (λh' hD' sb=>?_) (ϣ hl (by decide));obtain⟨o',es,ep,e1,e2,e3,e4,_,nd'⟩:=hD';have len:(storedH xs k kb u).length<=100001:=by
  cases z:atKey xs k with
  | none=>rw[storedH_new z];simp;omega
  | some p=>rw[storedH_old z];simp;omega
 refine⟨_,I.write (x:=a) (e:=a) (by rw[e];exact True.intro) (.inl rfl) (λb w hb z=>(sb.2 b hb).trans z) ⟨o',e1⟩ ?_,q u rv nd'⟩;exact⟨⟨hs,len,o',es,ep,e1,e2,e3,e4⟩,⟨o',e1⟩,mt⟩
def lQ (kvs:List (KA×D)) (k:KA) (d:D):List (KA×D):=if(kvs.any λp=>decide (p.1=k))=true then kvs.map (λp=>if p.1=k then(p.1,d)else p)else kvs++[(k,d)]
def sR (kvs:List (KA×D)) (k:KA):Option D:=(kvs.find? λp=>decide (p.1=k)).map (·.2)
def fA:List D->Option (List Int)
 | []=>some []
 | .int i::r=>(fA r).map (i :: ·)
 | _=>none
def mS:D->Option KA
 | .tup [.int a,.int b,.tup xs]=>(fA xs).map λl=>(a,b,l)
 | _=>none
theorem ib {K:Frag} {M:Hp}:∀{xs:List D} {l:List Int} {vs:List V},fA xs=some l->HasL K C M vs xs->vs=l.map V.int
 | [],l,vs,e,h=>by cases e;cases h;rfl
 | x::r,l,vs,e,h=>by
  cases x with
  | int i =>
   rw[fA]at e;cases z:fA r with
   | none=>rw[z]at e;cases e
   | some l' =>
    rw[z]at e;cases e;cases h with
    | cons a b=>cases a;rw[ib z b];rfl
  | _=>cases e
variable {K:Frag}
theorem o0 {M:Hp} {d:D} {v:V} (e:mS d=some k) (h:Has K C M v d):∃kb,v=.ref kb/\KeyIn M k kb:=by
 unfold mS at e;split at e
 ·rename_i a b xs;cases z:fA xs with
  | none=>rw[z]at e;cases e
  | some l =>
   rw[z]at e;cases e;cases h with
   | tup q hl =>
    cases hl with
    | cons h1 hl =>
     cases h1;cases hl with
     | cons h2 hl =>
      cases h2;cases hl with
      | cons h3 hl =>
       cases hl;cases h3 with
       | tup q2 g=>rw[ib z g]at q2;exact⟨_,rfl,_,q,q2⟩
 ·cases e
variable {kvs:List (KA×D)}
section
variable {K:Frag} {M:Hp}
theorem pi:∀{kvs:List (KA×D)} {xs:List (KA×Addr×Value)} {k:KA},Paired (EntOk K C M) kvs xs->(atKey xs k).isSome=kvs.any λp=>decide (p.1=k)
 | _,_,k,.nil=>rfl
 | _,_,k,.cons (a:=p) (b:=q) h t=>by
  have ih:=pi (k:=k) t;have e:=h.1;unfold atKey at ih ⊢;rw[List.find?_cons,List.any_cons,<- e];by_cases z:p.1=k
  ·rw[decide_eq_true z];rfl
  ·rw[decide_eq_false z];exact ih
theorem vd:∀{kvs:List (KA×D)} {xs:List (KA×Addr×Value)} {k:KA} {d:D},Paired (EntOk K C M) kvs xs->sR kvs k=some d->∃p v,atKey xs k=some p/\RelV v p.2/\Has K C M v d
 | _,_,k,d,.nil,e=>by cases e
 | _,_,k,d,.cons (a:=p) (b:=q) h t,e=>by
  obtain⟨e1,_,v,h1,h2⟩:=h;unfold sR at e;unfold atKey;rw[List.find?_cons]at e ⊢;rw[<- e1];by_cases z:p.1=k
  ·rw[decide_eq_true z]at e ⊢;cases e;exact⟨_,v,rfl,h1,h2⟩
  ·rw[decide_eq_false z]at e ⊢;exact vd t e
theorem gQ:∀{kvs:List (KA×D)} {xs:List (KA×Addr×Value)},Paired (EntOk K C M) kvs xs->∀x∈xs,KeyIn M x.1 x.2.1
 | _,_,.nil,x,hx=>by cases hx
 | _,_,.cons h t,x,hx=>by
  rcases Ϣ.mp hx with rfl|hx
  ·rw[<- h.1];exact h.2.1
  ·exact gQ t x hx
theorem u_ {k:KA} {d:D} {u:Value} {v:V} (rv:RelV v u) (hv:Has K C M v d):∀{kvs:List (KA×D)} {xs:List (KA×Addr×Value)},Paired (EntOk K C M) kvs xs->Paired (EntOk K C M) (kvs.map λp=>if p.1=k then(p.1,d)else p) (xs.map (putAt k u))
 | _,_,.nil=>.nil
 | _,_,.cons (a:=p) (b:=q) h t=>by
  refine .cons ?_ (u_ rv hv t);obtain⟨e1,h2,v',h3,h4⟩:=h;show EntOk K C M (if p.1=k then(p.1,d)else p) (if q.1=k then(q.1,q.2.1,u)else q);rw[<- e1];by_cases z:p.1=k
  ·rw[if_pos z,if_pos z];exact⟨rfl,h2,v,rv,hv⟩
  ·rw[if_neg z,if_neg z];exact⟨e1,h2,v',h3,h4⟩
theorem u9 {d:D} {u:Value} {v:V} {kb:Addr} (rv:RelV v u) (hv:Has K C M v d) (hk:KeyIn M k kb) (h:Paired (EntOk K C M) kvs xs):Paired (EntOk K C M) (lQ kvs k d) (storedH xs k kb u):=by
 unfold lQ;have e:=pi (k:=k) h;by_cases z:(kvs.any λp=>decide (p.1=k))=true
 ·rw[if_pos z];rw[z]at e;obtain⟨p,hp⟩:=Ε.mp e;rw[storedH_old hp];exact u_ rv hv h
 ·rw[if_neg z];have:atKey xs k=none:=by
   cases q:atKey xs k with
   | none=>rfl
   | some p=>rw[q]at e;exact absurd e.symm z
  rw[storedH_new this];exact Paired.snoc h ⟨rfl,hk,v,rv,hv⟩
end
variable {i:Nat}
theorem Rel.setDic {H0:Hp} {U:RB} (r:Rel K C H0 U O H) (hn:H a=none):Rel K C H0 (U.put i (.dic []) [a]) (O.set i (some (.ref a))) (upd H a (jw a [])) :=
 r.put kN (λj hj=>ϖ λz=>hj z.symm) (λb hb=>.inr (by cases ϓ.mp hb;exact hn)) (λj _=>.of (aq hn)) (λb o e=>aq hn b o (msk_some.mp e).2)
  (λb hb=>.inr (by cases ϓ.mp hb;exact⟨[],ax⟩)) λhi s=>⟨a,oy (by rw[<- r.len];exact hi),ϓ.mpr rfl,[],ax,List.nodup_nil,.nil⟩
theorem Rel.putDic {H0:Hp} {U:RB} (r:Rel K C H0 U O H) {kvs':List (KA×D)} {xs':List (KA×Addr×Value)} (e:U.rho[i]?=some (some (.dic kvs))) (q:O[i]?=some (some (.ref a)))
  (nd:(xs'.map (·.1)).Nodup) (h:Paired (EntOk K C (msk U O H)) kvs' xs'):Rel K C H0 (U.put i (.dic kvs') [a]) O (upd H a (jw a xs')):=by
 obtain⟨b,e1,ha,_⟩:=r.at_ i _ e;rw[q]at e1;cases e1;exact r.put rfl (λj _=>rfl) (λb hb=>.inl (by cases ϓ.mp hb;exact ha)) (λj hj=>r.apart ha hj) (r.shown ha) (λb hb=>.inr (by cases ϓ.mp hb;exact⟨xs',ax⟩))
  λhi s=>⟨a,q,ϓ.mpr rfl,xs',ax,nd,Paired.mapP h λp q z=>z.mono s⟩
def we (i:Nat):Rho->R Out:=λU=>.val (.nx (U.set i (some (.dic []))))
variable {pos:Pos}
theorem xM:PE X (.Dict [] [] pos) (λ_ H Q=>∀p,H p=none->Q (.ref p) (upd H p (jw p []))):=λpins s O H Q I h=>by
 have big:sysModules<s.heap.objs.size:=Nat.lt_trans (by decide) (show mainGlobals<s.heap.objs.size from(I.mod.glob.keeps I.bk).lt);have e1:(s.heap.push { cls:=.type "dict",data:=.dict #[] }).get? s.heap.objs.size=some { cls:=.type "dict",data:=.dict #[] }:=ϧ _ rfl;have ok:dOk s.heap.objs.size [] (s.heap.push { cls:=.type "dict",data:=.dict #[] }):=⟨by simpa using(Nat.ne_of_gt big),Ρ _,_,#[],_,e1,⟨rfl,rfl,rfl⟩,rfl,rfl⟩;exact wpAny_Dict_empty ⟨.ref s.heap.objs.size,_,I.laid (a:=s.heap.objs.size) (o:=jw s.heap.objs.size []) (t':=s.toks) (λ_ _ q=>ϒ _ q) (ϗ _) ⟨ok,⟨_,e1⟩,mt⟩,rfl,h _ I.fresh⟩
variable {x:Str}
theorem z6 {pos' dp:Pos} (hN:X.N.Nodup) (hi:X.N[i]?=some x) (hx:Loc X.env.scope x) (hs:swapsWith (.Dict [] [] dp) (some (.Name x pos')) pos.line X.env=pure false:=by rfl)
    (hf:X.fn x=true\/X.env.scope.names.lookup x=some .local:=by first|exact .inl rfl|exact .inr rfl|assumption):SD C X (.Assign [.Name x pos'] (.Dict [] [] dp) pos) (we i) :=
  aH (lz hN hi hx xM hs hf) λD O H yy0=>by
   obtain⟨_,H0,⟨U,rfl,r⟩,q⟩:=yy0;exact λp hp=>q _ _ ⟨_,rfl,r.setDic hp⟩
def mj (i:Nat) (k e:Rho->R D):Rho->R Out:=λU=>(e U).bind λd=>(noE (k U)).bind λkd=>match mS kd with
 | some k=>match U[i]? with
  | some (some (.dic kvs))=>if kvs.length<=100000 then .val (.nx (U.set i (some (.dic (lQ kvs k d)))))else .bad
  | _=>.bad
 | none=>.bad
theorem lC {M:Hp} (h:Paired (EntOk K C M) kvs xs):kvs.length=xs.length:=Paired.length h
theorem tE {M M':Hp} (m:Same M M') (h:Paired (EntOk K C M) kvs xs):Paired (EntOk K C M') kvs xs:=Paired.mapP h λp q z=>z.mono m
variable {p:Pos} {Fk:Rho->R D}
theorem z5 {k e : Expr} {sp : Pos} {F : Rho -> R D} (hu : X.A.units + 3 < cLine) (hv : PE X (.Name x p) (c8 i)) (hk : ED C X k Fk) (he : ED C X e F)
    (ha : ∀ v, assign (.Subscript (.Name x p) k sp) X.env v = (do
      let ov <- holding [v] (eval (.Name x p) X.env)
      let iv <- holding [v, ov] (eval k X.env)
      standAt sp
      holding [v, ov, iv] (setItem ov iv v)
      release [v, ov, iv] []) := by intro _; rfl)
    (hs : swapsWithSole [.Subscript (.Name x p) k sp] e pos.line X.env = pure false := by rfl) (hw : swappedStores [.Subscript (.Name x p) k sp] e X.env = pure none := by rfl)
    (h1 : (assignEach [.Subscript (.Name x p) k sp] X.env).map (·.2) = [assign (.Subscript (.Name x p) k sp) X.env] := by rfl) :
    SD C X (.Assign [.Subscript (.Name x p) k sp] e pos) (mj i Fk F) :=
  aH (oH he (sC hv hk (uh hu) ha) hs hw h1) fun D O H yy1 => by
   obtain ⟨_, H0, ⟨U, rfl, r⟩, q⟩ := yy1
   exact ⟨U, ⟨H0, r⟩, au (P := fun z _ => pS C X z H0 D) (fun c h => bN r h) (fun h => h) q fun d v H1 s1 h1 q1 => by
    cases ek : Fk U with
    | exc c => rw [ek] at q1; exact q1.elim
    | bad => rw [ek] at q1; exact q1.elim
    | val kd =>
      rw [ek] at q1
      dsimp only [DL.R.bind, noE] at q1
      split at q1
      · rename_i kk ekk
        split at q1
        · rename_i kvs ei
          split at q1
          · rename_i hl
            obtain ⟨a, ea, _, xs, eH, nd, hp⟩ := r.at_ i _ ei
            refine ⟨_, ea, U, ⟨H0, r.mono s1⟩, ?_⟩
            rw [ek]
            intro kv H2 s2 h2
            obtain ⟨kb, rfl, hkey⟩ := o0 ekk h2
            have hp2 := tE (az (s1.trans s2)) hp
            refine ⟨a, xs, kb, kk, rfl, rfl, s2 _ _ (s1 _ _ eH), fun x hx => (gQ hp2 x hx).mono msk_sub, nd, hkey.mono msk_sub, by rw [<- lC hp]; exact hl, fun u ru nd' => ?_⟩
            exact q1 _ _ ⟨_, rfl, ((r.mono s1).mono s2).putDic ei ea nd' (u9 ru (h1.mono (az s2)) hkey hp2)⟩
          · exact q1.elim
        · exact q1.elim
      · exact q1.elim⟩
def mZ (i:Nat) (k:Rho->R D):Rho->R D:=λU=>match U[i]? with
 | some (some (.dic kvs))=>(k U).bind λkd=>match mS kd with
  | some k=>match sR kvs k with
   | some d=>.val d
   | none=>.bad
  | none=>.bad
 | _=>.bad
theorem BB {k:Expr} (hu:X.A.units+3<cLine) (hv:PE X (.Name x p) (c8 i)) (hk:ED C X k Fk) (hs:ik k:=by exact λ_ _=>rfl) :
  ED C X (.Subscript (.Name x p) k pos) (mZ i Fk) :=
 ao (uE (Ec hu) hv hk hs) λO H Q zz1=>by
  obtain⟨U,⟨H0,r⟩,q⟩:=zz1;unfold mZ at q;split at q
  ·rename_i kvs ei;obtain⟨a,ea,_,xs,eH,nd,hp⟩:=r.at_ i _ ei;refine⟨_,ea,U,⟨H0,r⟩,au (P:=λz H=>pV X (bS C X U O) z O H Q) (λ_ h=>h) (λh=>h) q λkd kv H1 s1 h1 q1=>?_⟩;split at q1
   ·rename_i kk ekk;split at q1
    ·rename_i d eg;obtain⟨kb,rfl,hkey⟩:=o0 ekk h1;have hp2:=tE (az s1) hp;obtain⟨pr,v,e1,e2,e3⟩:=vd hp2 eg;exact⟨a,xs,kb,kk,pr,v,rfl,rfl,s1 _ _ eH,λx hx=>(gQ hp2 x hx).mono msk_sub,nd,hkey.mono msk_sub,e1,e2,q1 v H1 s1 e3⟩
    ·exact q1.elim
   ·exact q1.elim
  ·exact q.elim
def wd (i:Nat) (k:Rho->R D):Rho->R Bool:=λU=>(k U).bind λkd=>match U[i]? with
 | some (some (.dic kvs))=>match mS kd with
  | some k=>.val (!(kvs.any λp=>decide (p.1=k)))
  | none=>.bad
 | _=>.bad
theorem zG {k : Expr} (hu : X.A.units + 3 < cLine) (hv : PE X (.Name x p) (c8 i)) (hk : ED C X k Fk) (hm : behindInMarks .NotIn (.Name x p) = false := by rfl) :
    TD C X (.Compare k [.NotIn] [.Name x p] pos) (wd i Fk) :=
  dw (ux (Az hu) hk hv hm) fun O H Q yy2 => by
   obtain ⟨U, ⟨H0, r⟩, q⟩ := yy2
   exact ⟨U, ⟨H0, r⟩, au (P := fun z H => pB X z O H Q) (fun _ h => h) (fun h => h) q fun kd kv H1 s1 h1 q1 => by
    split at q1
    · rename_i kvs ei
      obtain ⟨a, ea, _, xs, eH, nd, hp⟩ := r.at_ i _ ei
      split at q1
      · rename_i kk ekk
        obtain ⟨kb, rfl, hkey⟩ := o0 ekk h1
        have hp2 := tE (az s1) hp
        refine ⟨_, ea, a, xs, kb, kk, rfl, rfl, s1 _ _ eH, fun x hx => (gQ hp2 x hx).mono msk_sub, nd, hkey.mono msk_sub, _, rfl, ?_⟩
        have := pi (k := kk) hp2
        rw [this]
        exact q1 H1 s1
      · exact q1.elim
    · exact q1.elim⟩
end DL
namespace DL
open PySem PySem.Spec PyProof.Rows L2
variable {C:Addr} {X:Cx}
def fz (i:Nat) (F:Rho->R Out):Rho->R Out:=λU=>F (frz i U)
theorem CW {sts:List Stmt} {F:Rho->R Out} (i:Nat) (h:SDs C X sts F):SDs C X sts (fz i F):=zT i h
def Fn (P:Program) (w:World) (K:Frag) (mg:Str->Option Value) (base:Heap) (C:Addr) (k:Nat) (x:Str) (n:Nat) (den:List D->R D):Prop :=
 ∃f fd ps,FnOk P w K mg base CX0 k f fd ps (spD K C n den)/\mg x=some (.ref f)/\keepIn K (.ref f)=true/\Binds K fd ps []
theorem FL {k:Nat} {A:Around} (r:Room k A):A.units+9<cLine:=by have:=r.un;omega
theorem FM {k:Nat} {A:Around} (r:Room k A):A.units+3<cLine:=by have:=r.un;omega
theorem Hr (m:Nat):∀j∈[m],m<=j:=λj hj=>by rw[ϓ.mp hj];exact ϗ _
theorem Hq (m:Nat):∀j∈[m,m+1],m<=j:=λj hj=>by
 rcases Ϣ.mp hj with h|h
 ·rw[h];exact ϗ _
 ·rw[ϓ.mp h];exact Nat.le_succ _
def whD (c:Rho->R Bool) (F:Rho->R Out):Nat->Rho->R Out
 | 0,_=>.bad
 | n+1,U=>(c U).bind λb=>if b=true then(F U).bind λo=>match o with
   | .nx ρ'=>whD c F n ρ'
   | .ct ρ'=>whD c F n ρ'
   | .bk ρ'=>.val (.nx ρ')
   | .rt d=>.val (.rt d)
  else .val (.nx U)
theorem w9 {c:Expr} {body:List Stmt} {pos:Pos} {Fc:Rho->R Bool} {F:Rho->R Out} (n:Nat) (hp:PassesOwn (model X.prog X.w) X.A X.env X.xe) (hc:TD C X c Fc) (hb:SDs C X body F):SD C X (.While c body [] pos) (whD Fc F n) :=
  aH (xw hp hc hb) λD O H yy0=>by
   obtain⟨_,H0,⟨U,rfl,r⟩,q⟩:=yy0;exact⟨λm σ' H'=>∃ρ':RB,b_ C X H0 ρ' σ' H'/\pS C X (whD Fc F m ρ') H0 D,⟨n,U,r,q⟩,λm σ' H' zz0=>by
    obtain⟨ρ',r',q'⟩:=zz0;cases m with
    | zero=>exact q'.elim
    | succ m =>
      unfold whD at q';refine⟨ρ',⟨H0,r'⟩,iY (P:=λz _=>pS C X z H0 D) (λc h=>bN r' h) (λh=>h) q' λb H1 s1 q1=>?_⟩;cases b with
      | false=>exact sV (q1 σ' H1 (r'.mono s1).e)
      | true =>
        refine sU ⟨λO2 H2=>∃U2:RB,b_ C X H0 U2 O2 H2/\pS C X (whD Fc F m U2) H0 D,λO2 H2 z=>⟨m,Nat.lt_succ_self _,z⟩,ρ',H0,(r'.mono s1).e,?_⟩;rw[if_pos rfl]at q1;cases eF:F ρ' with
        | val o =>
          rw[eF]at q1;cases o with
          | nx U2=>exact λO4 H4 ⟨β4,e4,r4⟩=>⟨β4,r4,by rw[e4];exact q1⟩
          | ct U2=>exact λO4 H4 ⟨β4,e4,r4⟩=>⟨β4,r4,by rw[e4];exact q1⟩
          | bk U2=>exact λO4 H4 r4=>q1 O4 H4 r4
          | rt d=>exact λv4 H4 s4 h4=>q1 v4 H4 s4 h4
        | exc c=>rw[eF]at q1;exact q1
        | bad=>rw[eF]at q1;exact q1⟩
end DL
namespace DL
open PySem PySem.Spec PyProof.Rows L2
variable {x:Str}
section
variable {env:Env} {r:List Expr} {p:Pos}
theorem dO:starEach (.Name x p::r) env=(false,eval (.Name x p) env)::starEach r env:=rfl
theorem gy {a k}:starEach (.Constant a k p::r) env=(false,eval (.Constant a k p) env)::starEach r env:=rfl
theorem zN {a}:starEach (.List a p::r) env=(false,eval (.List a p) env)::starEach r env:=rfl
theorem wP {a k}:starEach (.Tuple a k p::r) env=(false,eval (.Tuple a k p) env)::starEach r env:=rfl
theorem wQ {a b c}:starEach (.BinOp a b c p::r) env=(false,eval (.BinOp a b c p) env)::starEach r env:=rfl
theorem oo {a b}:starEach (.Subscript a b p::r) env=(false,eval (.Subscript a b p) env)::starEach r env:=rfl
theorem ou {a b}:starEach (.Attribute a b p::r) env=(false,eval (.Attribute a b p) env)::starEach r env:=rfl
theorem oq {a b c}:starEach (.Call a b c p::r) env=(false,eval (.Call a b c p) env)::starEach r env:=rfl
theorem qg {a b c}:starEach (.ListComp a b c p::r) env=(false,eval (.ListComp a b c p) env)::starEach r env:=rfl
theorem dJ:(backTo p (starEach [] env)).any (·.1)=false:=rfl
theorem kR {e:Expr} (h:starEach (e::r) env=(false,eval e env)::starEach r env) (h2:(backTo p (starEach r env)).any (·.1)=false):(backTo p (starEach (e::r) env)).any (·.1)=false:=by
 rw[h];exact h2
end
variable {i j:Nat} {sl:Slt} {a b:Addr}
section
variable {K:Frag} {C:Addr} {H0 H:Hp} {U:RB} {O:St}
def RB.del (U:RB) (i:Nat):RB:=⟨U.rho.set i none,λj=>if j=i then[]else U.ad j⟩
theorem jO {l:Rho} (h:(l.set i none)[j]?=some (some sl)):i≠j/\l[j]?=some (some sl):=by
 rw[Χ]at h;split at h
 ·split at h<;>cases h
 ·exact⟨by assumption,h⟩
theorem iR (h:a∈(U.del i).ad j):j≠i/\a∈U.ad j:=by
 unfold RB.del at h;dsimp only at h;split at h
 ·cases h
 ·exact⟨‹_›,h⟩
theorem k8 (h:j≠i):(U.del i).ad j=U.ad j:=by
 unfold RB.del;dsimp only;rw[if_neg h]
theorem Own.forget (h:Own (U.del i) O b):Own U O b:=by
 obtain⟨j,h⟩:=h;exact⟨j,(iR h).2⟩
theorem Rel.forget (r:Rel K C H0 U O H) (i:Nat):Rel K C H0 (U.del i) O H:=by
 have sub:Same (msk U O H) (msk (U.del i) O H):=λb o e=>msk_some.mpr ⟨λz=>(msk_some.mp e).1 z.forget,(msk_some.mp e).2⟩;refine⟨?_,r.keep.trans sub,λj sl e=>?_,λj k a x y=>r.inj j k a (iR x).2 (iR y).2,λj a x=>r.kin j a (iR x).2,λj a x=>?_⟩
 ·show(U.rho.set i none).length=_;rw[ϰ];exact r.len
 ·obtain⟨hj,e⟩:=jO e;rw[k8 λz=>hj z.symm];exact(r.at_ j sl e).mono (Same.refl _) sub
 ·show j<(U.rho.set i none).length;rw[ϰ];exact r.bnd j a (iR x).2
end
def spM (K:Frag) (C:Addr) (den:List D->R D):Sp:=λvs H Q _=>∃a us xs,vs=[.ref a]/\H a=some (.lst us)/\HasL K C (cut [a] H) us xs/\match den xs with
 | .val d=>∀v H',Same (cut [a] H) H'->Has K C H' v d->Q v H'
 | _=>False
def Mv (P:Program) (w:World) (K:Frag) (mg:Str->Option Value) (base:Heap) (C:Addr) (k:Nat) (x:Str) (den:List D->R D):Prop :=
 ∃f fd p,FnOk P w K mg base CX0 k f fd [p] (spM K C den)/\mg x=some (.ref f)/\keepIn K (.ref f)=true/\Binds K fd [p] []
def st1 (N:List Str) (xs:List D):Rho:=some (.own xs)::List.replicate (N.length-1) none
variable {N:List Str} {xs:List D}
theorem CP (h:(st1 N xs)[i]?=some (some sl)):i=0/\sl=.own xs:=by
 cases i with
 | zero=>unfold st1 at h;simp at h;exact⟨rfl,h.symm⟩
 | succ n =>
  unfold st1 at h;rw[Β,Ι]at h;split at h<;>cases h
variable {H:Hp} {qual:Str} {st:Stmt} {f:Addr} {fd:FuncData} {k:Nat}
section
variable {P:Program} {w:World} {K:Frag} {mg:Str->Option Value} {base:Heap} {C:Addr}
theorem sv {us:List V} (e:H a=some (.lst us)) (h:HasL K C (cut [a] H) us xs):tR K C (cut [a] H) (st1 N xs) (L2.start N [.ref a]) H:=by
 have s0:(L2.start N [V.ref a])[0]?=some (some (.ref a)):=by unfold L2.start;simp
 have own:∀{i:Nat} {b:Addr},b∈(⟨st1 N xs,λj=>if j=0 then[a]else[]⟩:RB).ad i->i=0/\b=a:=λ{i b} z=>by
  dsimp only at z;split at z
  ·exact⟨‹_›,ϓ.mp z⟩
  ·cases z
 have sub:Same (cut [a] H) (msk ⟨st1 N xs,λj=>if j=0 then[a]else[]⟩ (L2.start N [.ref a]) H):=λb o e1=>by
  obtain⟨h1,h2⟩:=cut_some.mp e1;exact msk_some.mpr ⟨λ⟨i,z⟩=>h1 (ϓ.mpr (own z).2),h2⟩
 refine⟨⟨st1 N xs,λj=>if j=0 then[a]else[]⟩,rfl,?_,sub,λi sl e1=>?_,λi j b x y=>(own x).1.trans (own y).1.symm,λi b x=>.inl ?_,λi b x=>?_⟩
 ·show(st1 N xs).length=_;unfold st1 L2.start;simp
 ·obtain⟨rfl,rfl⟩:=CP e1;exact⟨a,us,s0,ϓ.mpr rfl,e,h.mono sub⟩
 ·rw[(own x).2];exact⟨us,e⟩
 ·rw[(own x).1];exact Nat.succ_pos _
theorem Gi {p:Str} {den:Rho->R Out} (F:Fun K x qual st f fd) (sc:cA N [p] (ak st))
  (hb:∀(cdv:Value) (A:Around) (outer:List Env) (s:Shared) (H:Hp) (E:XK),Room k (A.deeper (envOfC qual (ak st) s.heap.objs.size f cdv)) ->
   SDs C (fh CX0 P w K mg base N qual (ak st) f cdv A outer s H E).nox (bj st) den) :
  FnOk P w K mg base CX0 (k+1) f fd [p] (spM K C λxs=>fin (den (st1 N xs))):=by
 refine F.ok sc (λvs H Q E h=>?_) (λcdv A outer s H vs Q E hr h=>⟨_,hb cdv A outer s H E hr,?_⟩)
 ·obtain⟨a,us,xs,rfl,_⟩:=h;rfl
 obtain⟨a,us,xs,rfl,e0,h,q⟩:=h;refine⟨st1 N xs,cut [a] H,sv e0 h,?_⟩;dsimp only at q;cases e:den (st1 N xs)with
 | val o =>
  rw[e]at q;cases o with
  | nx ρ'=>exact λσ' H' ⟨_,_,r⟩=>q _ H' (r.keep.trans msk_sub) .non
  | rt d=>exact λv H' s' h'=>q v H' s' h'
  | bk ρ'=>exact q.elim
  | ct ρ'=>exact q.elim
 | exc c=>rw[e]at q;exact q.elim
 | bad=>rw[e]at q;exact q.elim
end
variable {p pos cp:Pos} {den:List D->R D}
section
variable {C:Addr} {X:Cx}
def x_ (i:Nat) (den:List D->R D):Rho->R Out:=λU=>match U[i]? with
 | some (some (.own xs))=>(noex (den xs)).bind λd=>.val (.nx (U.set i (some (.shr d))))
 | _=>.bad
theorem Al {y:Str} {p':Pos} (F:Mv X.prog X.w X.K X.mg X.base C k x den) (hr:Room k X.A) (hg:Gl X x) (hv:PE X (.Name y p') (c8 i)) (hdb:(x==("__debug__":Str))=false:=by decide) :
  PE X (.Call (.Name x p) [.Name y p'] [] pos) (λO H Q=>∃(U:RB) (H0:Hp) (xs:List D) (d:D),b_ C X H0 U O H/\U.rho[i]?=some (some (.own xs))/\den xs=.val d/\∀v H',b_ C X H0 (U.del i) O H'->bS C X (U.del i) O H' v d->Q v H'):=by
 obtain⟨f,fd,pn,hF,hm,hk,hb⟩:=F;rintro pins s O H Q I ⟨U,H0,xs,d,r0,e0,ed,q⟩;obtain⟨a,vs,e1,ha,h1,h2⟩:=r0.at_ i _ e0;refine wpAny_Call_Name_kw (cP I hg hm ?_ hdb);refine callWith_K (h₀:=X.base) I.ok.mod.kin hk (thn ((aQ hv bH dO) pos pins s O H (λus H1=>us=[.ref a]/\H1=H) I ⟨_,e1,rfl,rfl⟩) λus s1 ⟨ws,H1,I1,rv,ew,eh⟩=>⟨I1.kIn,?_⟩) dO dJ;subst ew;subst eh;have rf:=r0.forget i;have Z:=Rel.hid rf I1;have J:=I1.hide Z;have nz:a∉br (U.del i) O:=λz=>by
  obtain⟨j,z⟩:=(dZ rf.bnd).mp z;exact(iR z).1 (r0.inj j i a (iR z).2 ha)
 have sub:Same (msk U O H1) (cut [a] (cut (br (U.del i) O) H1)):=λb o eb=>by
  obtain⟨g1,g2⟩:=msk_some.mp eb;refine cut_some.mpr ⟨λz=>g1 ?_,cut_some.mpr ⟨λz=>g1 ((dZ rf.bnd).mp z).forget,g2⟩⟩;rw[ϓ.mp z];exact⟨i,ha⟩
 refine thn (lx (E:=E0) (Q:=λv M'=>Same (cut [a] (cut (br (U.del i) O) H1)) M'/\Has X.K C M' v d) hF hr hb .nil nu J rv ?_) λu s2 ⟨v,M',J2,ru,sm,hv'⟩=>?_
 ·rw[Ϫ];refine⟨a,vs,xs,rfl,cut_some.mpr ⟨nz,h1⟩,h2.mono sub,?_⟩;rw[ed];exact λv H' s2 h2=>⟨s2,h2⟩
 ·obtain⟨I2,mz⟩:=I1.show' Z J2;have em:msk (U.del i) O (jn (br (U.del i) O) H1 M')=M':=by
   rw[cu rf.bnd]
   funext b
   by_cases hb:b∈br (U.del i) O
   ·rw[dm hb,mz b hb]
   ·unfold cut;rw[if_neg hb,a_ hb]
  have sM:Same (msk U O H1) M':=sub.trans sm;have keep:∀j b,b∈(U.del i).ad j->jn (br (U.del i) O) H1 M' b=H1 b:=λj b hb=>ge ((dZ rf.bnd).mpr ⟨j,hb⟩);have tup:∀b us,H1 b=some (.tup us)->jn (br (U.del i) O) H1 M' b=some (.tup us):=λb us eb=>by
   have nb:b∉br (U.del i) O:=λz=>rf.tups eb ((dZ rf.bnd).mp z);rw[a_ nb];exact sM b _ (msk_some.mpr ⟨r0.tups eb,eb⟩)
  refine⟨v,_,I2,ru,q v _ ⟨rf.len,by rw[em];exact r0.keep.trans sM,λj sl ej=>?_,rf.inj,λj b hb=>by rw[keep j b hb];exact rf.kin j b hb,rf.bnd⟩ (by show Has _ _ (msk _ O _) v d;rw[em];exact hv')⟩;rw[em];obtain⟨hj,ej'⟩:=jO ej;have qq:=r0.at_ j sl ej';rw[<- k8 (U:=U) (i:=i) λz=>hj z.symm]at qq;exact qq.stay ⟨λb hb o eo=>by rw[keep j b hb];exact eo,tup⟩ sM
theorem zZ {y:Str} {p' pos':Pos} (F:Mv X.prog X.w X.K X.mg X.base C k x den) (hr:Room k X.A) (hg:Gl X x) (hv:PE X (.Name y p') (c8 i)) (hN:X.N.Nodup) (hi:X.N[i]?=some y) (hx:Loc X.env.scope y)
  (hs:swapsWith (.Call (.Name x p) [.Name y p'] [] cp) (some (.Name y pos')) pos.line X.env=pure false) (hdb:(x==("__debug__":Str))=false:=by decide)
  (hf:X.fn y=true\/X.env.scope.names.lookup y=some .local:=by first|exact .inl rfl|exact .inr rfl|assumption):SD C X (.Assign [.Name y pos'] (.Call (.Name x p) [.Name y p'] [] cp) pos) (x_ i den) :=
 aH (lz hN hi hx (Al F hr hg hv hdb) hs hf) λD O H zz1=>by
  obtain⟨_,H0,⟨U,rfl,r⟩,q⟩:=zz1;unfold x_ at q;split at q
  ·rename_i xs e0;cases ed:den xs with
   | val d =>
    rw[ed]at q;refine⟨U,H0,xs,d,r,e0,ed,λv H' r' h'=>?_⟩;refine q _ _ ⟨_,?_,r'.setShr (i:=i) h'⟩;show(U.rho.set i none).set i _=_;rw[List.set_set]
   | exc c=>rw[ed]at q;exact q.elim
   | bad=>rw[ed]at q;exact q.elim
  ·exact q.elim
def qH:List D->List (KA×D)->Option (List (KA×D))
 | [],kvs=>some kvs
 | x::r,kvs=>match mS x with
  | some k=>if kvs.length<=100000 then qH r (lQ kvs k (.bl true))else none
  | none=>none
def jP (il ix idd:Nat):Rho->R Out:=λU=>match U[il]?,U[idd]? with
 | some (some (.own xs)),some (some (.dic kvs))=>match qH xs kvs with
  | some kvs'=>if ix<U.length then .val (.nx ((U.set ix none).set idd (some (.dic kvs'))))else .bad
  | none=>.bad
 | _,_=>.bad
theorem vI {il ix idd:Nat} {l d:Str} {px pl pd px2 sp pos2:Pos} (hu:X.A.units+3<cLine) (hp:PassesOwn (model X.prog X.w) X.A X.env X.xe) (hc:X.calm=true) (hl:PE X (.Name l pl) (c8 il)) (hg:PG X (.Name x px) (cR ix)) (hd:PE X (.Name d pd) (c8 idd)) (hx:PE X (.Name x px2) (c8 ix))
  (n1:ix≠il:=by decide) (n2:ix≠idd:=by decide) (n3:il≠idd:=by decide)
  (ha:∀v,assign (.Subscript (.Name d pd) (.Name x px2) sp) X.env v=(do
   let ov <- holding [v] (eval (.Name d pd) X.env)
   let iv <- holding [v,ov] (eval (.Name x px2) X.env)
   standAt sp
   holding [v,ov,iv] (setItem ov iv v)
   release [v,ov,iv] []):=by intro _;rfl)
  (hs:swapsWithSole [.Subscript (.Name d pd) (.Name x px2) sp] (.Constant (.bool true) j cp) pos2.line X.env=pure false:=by rfl) (hw:swappedStores [.Subscript (.Name d pd) (.Name x px2) sp] (.Constant (.bool true) j cp) X.env=pure none:=by rfl)
  (h1:(assignEach [.Subscript (.Name d pd) (.Name x px2) sp] X.env).map (·.2)=[assign (.Subscript (.Name d pd) (.Name x px2) sp) X.env]:=by rfl)
  (hfs:∀x,foldedSetIterable (.Name l pl) X.env x=pure x:=by intro _;rfl) :
  SD C X (.For (.Name x px) (.Name l pl) [.Assign [.Subscript (.Name d pd) (.Name x px2) sp] (.Constant (.bool true) j cp) pos2] [] pos) (jP il ix idd) :=
 aH (xA hp hc (Aj hl) hg (eI (oH uG (sC hd hx (uh hu) ha) hs hw h1)) hfs) λDn O H zz2=>by
  obtain⟨_,H0,⟨U,rfl,r⟩,q⟩:=zz2;unfold jP at q;split at q
  ·rename_i xs kvs el ed;split at q
   ·rename_i kvsf em;have hix:ix<U.rho.length:=by
     by_cases hix:ix<U.rho.length
     ·exact hix
     ·rw[if_neg hix]at q;exact q.elim
    rw[if_pos hix]at q;obtain⟨a,vs,ea,haA,eH,hL⟩:=r.at_ il _ el;have hdl:idd<U.rho.length:=(ώ.mp ed).1;refine⟨_,ea,a,rfl,⟨_,SqL.of eH⟩,yu (K:=X.K) (a:=a) (xs:=vs) (λi σ' H'=>∃kvs' β,β.rho=(U.rho.set ix none).set idd (some (.dic kvs'))/\b_ C X H0 β σ' H'/\a∈β.ad il/\σ'[il]?=some (some (.ref a))/\H' a=some (.lst vs)/\qH (xs.drop i) kvs'=some kvsf) ⟨kvs,U.del ix,?_,r.forget ix,by rw[k8 (Ν n1)];exact haA,ea,eH,em⟩ (λi σ' H' _ ⟨kvs',β,eb,r',hb,e1,e2,e3⟩=>SqL.of e2) ?_ ?_⟩
    ·have e1:(U.rho.set ix none)[idd]?=some (some (.dic kvs)):=by rw[ϖ n2];exact ed
     show U.rho.set ix none=_;apply List.ext_getElem?;intro m;by_cases hm:idd=m
     ·subst hm;rw[Ϲ (ώ.mp e1).1,e1]
     ·rw[ϖ hm]
    ·rintro i v σ' H' hi ⟨kvs',β,eβ,r',hbA,e1,e2,e3⟩;have l1:β.rho[il]?=some (some (.own xs)):=by
      rw[eβ,ϖ (Ν n3),ϖ n1];exact el
     obtain⟨a',vs',g1,ga,g2,g3⟩:=r'.at_ il _ l1;rw[e1]at g1;cases g1;rw[e2]at g2;cases g2;obtain⟨x0,hx0,hv0⟩:=g3.get' hi;have hlt:i<xs.length:=(ώ.mp hx0).1;have edr:xs.drop i=x0::xs.drop (i+1):=by
      rw[μ hlt];have:=(ώ.mp hx0).2;rw[this]
     rw[edr]at e3;unfold qH at e3;split at e3
     ·rename_i kk ekk;split at e3
      ·rename_i hlen;have rs:=r'.setShr (i:=ix) hv0;have ed':(β.put ix (.shr x0) []).rho[idd]?=some (some (.dic kvs')):=by
        show(β.rho.set ix _)[idd]?=_;rw[ϖ n2,eβ,Ϲ (by simpa using hdl)]
       obtain⟨b,eb,hbb,ys,eY,nd,hpd⟩:=rs.at_ idd _ ed';rw[kP (Ν n2)]at hbb;obtain⟨kb,rfl,hkey⟩:=o0 ekk hv0;have hxl:ix<σ'.length:=by have:=r'.len;rw[eβ]at this;simp at this;omega
       have ex2:(σ'.set ix (some (V.ref kb)))[ix]?=some (some (.ref kb)):=Ϲ hxl;have hkey2:KeyIn (msk (β.put ix (.shr x0) []) (σ'.set ix (some (V.ref kb))) H') kk kb:=hkey.mono ia;refine⟨_,eb,_,ex2,b,ys,kb,kk,rfl,rfl,eY,λz hz=>(gQ hpd z hz).mono msk_sub,nd,hkey.mono msk_sub,by rw[<- lC hpd];exact hlen,λu ru nd'=>?_⟩;have r2:=(rs.putDic ed' eb nd' (u9 ru (.bl true) hkey2 hpd)).forget ix;refine⟨lQ kvs' kk (.bl true),_,?_,r2,?_,?_,?_,e3⟩
       ·show(((β.rho.set ix (some (.shr x0))).set idd (some (.dic (lQ kvs' kk (.bl true))))).set ix none)=_;rw[eβ];apply List.ext_getElem?;intro m;simp only[Χ,ϰ];by_cases h1:ix=m
        ·subst h1;simp[Ν n2]
        ·by_cases h2:idd=m
         ·subst h2;simp[h1]
         ·simp[h1,h2]
       ·rw[k8 (Ν n1),kP n3,kP (Ν n1)];exact hbA
       ·rw[ϖ n1];exact e1
       ·have:a≠b:=λz=>n3 (r'.inj il idd a hbA (z▸hbb));rw[am this];exact e2
      ·cases e3
     ·cases e3
    ·rintro σ' H' ⟨kvs',β,eβ,r',_,e1,e2,e3⟩;have:vs.length=xs.length:=hL.len;rw[this,List.drop_length]at e3;cases e3;exact q _ _ ⟨β,eβ,r'⟩
   ·exact q.elim
  ·exact q.elim
end
section
variable {K:Frag} {C:Addr} {H:Hp} {x C' dx:Addr} {fs:List (Str×V)} {o':HO}
theorem jI {o:HO} (hx:H x=some (.ins C' dx fs)) (h:H a=some o) (ho:∀c d f,o=.ins c d f->f.length=3) (hl:fs.length<3):a≠x:=λz=>by
 subst z;rw[hx]at h;cases h;have:=ho _ _ _ rfl;omega
mutual
theorem Has.upd_ins (hx:H x=some (.ins C' dx fs)) (hl:fs.length<3):∀{v:V} {d:D},Has K C H v d->Has K C (upd H x o') v d
 | _,_,.non=>.non
 | _,_,.bl b=>.bl b
 | _,_,.int i=>.int i
 | _,_,.lst q h=>.lst (by rw[am (jI hx q (λ_ _ _ z=>by cases z) hl)];exact q) (HasL.upd_ins hx hl h)
 | _,_,.tup q h=>.tup (by rw[am (jI hx q (λ_ _ _ z=>by cases z) hl)];exact q) (HasL.upd_ins hx hl h)
 | _,_,.scr q=>.scr (by
   rcases q with(h|⟨o,h⟩)|h
   ·exact .inl (.inl (by rw[am (jI hx h (λ_ _ _ z=>by cases z) hl)];exact h))
   ·exact .inl (.inr ⟨o,by rw[am (jI hx h (λ_ _ _ z=>by cases z) hl)];exact h⟩)
   ·exact .inr h)
 | _,_,.exn q=>.exn (by rw[am (jI hx q (λ_ _ _ z=>by cases z) hl)];exact q)
 | _,_,.ob q a b c=>.ob (by rw[am (jI hx q (λ_ _ _ z=>by cases z;rfl) hl)];exact q) (Has.upd_ins hx hl a) (Has.upd_ins hx hl b) (Has.upd_ins hx hl c)
theorem HasL.upd_ins (hx:H x=some (.ins C' dx fs)) (hl:fs.length<3):∀{vs:List V} {ds:List D},HasL K C H vs ds->HasL K C (upd H x o') vs ds
 | _,_,.nil=>.nil
 | _,_,.cons a b=>.cons (Has.upd_ins hx hl a) (HasL.upd_ins hx hl b)
end
end
theorem qM (f:Str) (v:V):∀fs:List (Str×V),(fP f v fs).length<=fs.length+1
 | []=>ϗ _
 | (g,x)::r=>by
  unfold fP;split
  ·simp
  ·simpa using qM f v r
def wp:List (Rho->R D)->Rho->R Unit
 | [],_=>.val ()
 | c::cs,U=>(c U).bind λ_=>wp cs U
def wf (cs:List (Rho->R D)) (f1 f2 f3:Rho->R (List D)):Rho->R D:=λU=>(wp cs U).bind λ_=>(f1 U).bind λes=>(f2 U).bind λrs=>(f3 U).bind λts=>.val (.ob (.lst es) (.lst rs) (.lst ts))
def im (e r t:D):Rho:=[none,some (.shr e),some (.shr r),some (.shr t)]
def spI (K:Frag) (C:Addr) (den:Rho->R D):Sp:=λvs H Q _=>∃x dx ve vr vt e r t,vs=[.ref x,ve,vr,vt]/\H x=some (.ins C dx [])/\Has K C H ve e/\Has K C H vr r/\Has K C H vt t/\match den (im e r t)with
 | .val d=>∀H',(∀b o,H b=some o->b≠x->H' b=some o)->Has K C H' (.ref x) d->Q .non H'
 | _=>False
variable {o:Expr} {F:Rho->R D} {K:Frag}
section
variable {C:Addr} {X:Cx}
variable (C X) in
def tCk:List (Rho->R D)->TS->TS
 | [],t=>t
 | c::cs,t=>zI (j4 (teB C X c)) (tCk cs t)
theorem Dw {rest:List Stmt} {c:Rho->R D} {cs:List (Rho->R D)} {t:TS} (h1:PS X st (j4 (teB C X c))) (h2:PSs X rest (tCk C X cs t)):PSs X (st::rest) (tCk C X (c::cs) t):=fk h1 h2
theorem F_ {e:Expr} (he:EB C X e F) (hs:swapsWith e none pos.line X.env=pure false:=by rfl):PS X (.Expr e pos) (j4 (teB C X F)):=fR he hs
theorem vp {U:RB} {t:TS} {Dn:gt} {O:St}:∀{cs:List (Rho->R D)} {H H0:Hp},b_ C X H0 U O H->wp cs U=.val ()->(∀H1,Same H H1->t Dn O H1)->tCk C X cs t Dn O H
 | [],H,H0,r,_,k=>k H (Same.refl _)
 | c::cs,H,H0,r,e,k=>by
  unfold wp at e;cases ec:c U with
  | val d =>
   rw[ec]at e;show teB C X c O H _;refine⟨U,⟨H0,r⟩,?_⟩;rw[ec];exact λv H1 s1 _=>vp (r.mono s1) e λH2 s2=>k H2 (s1.trans s2)
  | exc c=>rw[ec]at e;cases e
  | bad=>rw[ec]at e;cases e
variable (C X) in
def tI (f1 f2 f3:Rho->R (List D)):TS:=zI (oz X.K (c8 0) (teF C X f1) "ends") (zI (oz X.K (c8 0) (teF C X f2) "rests") (oz X.K (c8 0) (teF C X f3) "table"))
theorem F8 {s1 s2 s3:Stmt} {f1 f2 f3:Rho->R (List D)} (h1:PS X s1 (oz X.K (c8 0) (teF C X f1) "ends")) (h2:PS X s2 (oz X.K (c8 0) (teF C X f2) "rests")) (h3:PS X s3 (oz X.K (c8 0) (teF C X f3) "table")):PSs X [s1,s2,s3] (tCk C X [] (tI C X f1 f2 f3)):=by
 have h:=fk h1 (fk h2 (eI h3));exact h
theorem F9 {value:Expr} {f:Str} {pos':Pos} {F:Rho->R (List D)} (ho:PE X o (c8 i)) (hv:FD C X value F) (hs:swapsWith value (some (.Attribute o f pos')) pos.line X.env=pure false:=by rfl):PS X (.Assign [.Attribute o f pos'] value pos) (oz X.K (c8 i) (teF C X F) f):=Dx ho hv hs
def rb3 (e r t:D):RB:=⟨im e r t,λ_=>[]⟩
theorem FN {x:Addr} {ve vr vt:V} {e r t:D} (h1:Has K C H ve e) (h2:Has K C H vr r) (h3:Has K C H vt t):Rel K C H (rb3 e r t) [some (.ref x),some ve,some vr,some vt] H:=by
 have sub:Same H (msk (rb3 e r t) [some (.ref x),some ve,some vr,some vt] H):=λb o eb=>msk_some.mpr ⟨λ⟨_,z⟩=>(Ϡ z).elim,eb⟩;refine⟨rfl,sub,λi sl h=>?_,λi j a z=>(Ϡ z).elim,λi a z=>(Ϡ z).elim,λi a z=>(Ϡ z).elim⟩
 match i,h with
 | 0,h=>cases h
 | 1,h=>cases h;exact⟨ve,rfl,h1.mono sub⟩
 | 2,h=>cases h;exact⟨vr,rfl,h2.mono sub⟩
 | 3,h=>cases h;exact⟨vt,rfl,h3.mono sub⟩
 | n+4,h=>unfold rb3 im at h;simp at h
theorem lY {F:Rho->R (List D)} {f:Str} {Dn:gt} {x dx:Addr} {fs:List (Str×V)} {ve vr vt:V} {e r t:D} (hx:H x=some (.ins C dx fs)) (hl:fs.length<3) (c:Cls X.K C) (n:NoAttr X.K C f) (h1:Has X.K C H ve e) (h2:Has X.K C H vr r) (h3:Has X.K C H vt t)
  (eF:F (im e r t)=.val xs)
  (k:∀l H',H' x=some (.ins C dx (fP f (.ref l) fs))->(∀b o,H b=some o->b≠x->H' b=some o)->(∀v d,Has X.K C H v d->Has X.K C H' v d)->Has X.K C H' (.ref l) (.lst xs)->Dn.nx [some (.ref x),some ve,some vr,some vt] H') :
  oz X.K (c8 0) (teF C X F) f Dn [some (.ref x),some ve,some vr,some vt] H:=by
 refine⟨rb3 e r t,⟨H,FN h1 h2 h3⟩,?_⟩;show pF _ (F (im e r t)) _ _ _;rw[eF];intro l vs H1 s1 hn hv;have hv':HasL X.K C H1 vs xs:=hv.mono msk_sub;have nx:l≠x:=λz=>by subst z;rw[s1 _ _ hx]at hn;cases hn
 have hx2:(upd H1 l (.lst vs)) x=some (.ins C dx fs):=by rw[am (Ν nx)];exact s1 _ _ hx
 refine⟨_,rfl,x,C,dx,fs,rfl,hx2,c,n,by omega,k l _ ax (λb o eb nb=>?_) (λv d hd=>?_) ?_⟩
 ·rw[am nb];exact aq hn _ _ (s1 _ _ eb)
 ·exact((hd.mono s1).mono (aq hn)).upd_ins hx2 hl
 ·exact Has.upd_ins hx2 hl (.lst ax (hv'.mono (aq hn)))
end
section
variable {P:Program} {w:World} {K:Frag} {mg:Str->Option Value} {base:Heap} {C:Addr}
theorem AT {cs:List (Rho->R D)} {f1 f2 f3:Rho->R (List D)} (F:Fun K "__init__" "Hall.__init__" st f fd) (sc:cA ["self","ends","rests","table"] ["self","ends","rests","table"] (ak st))
  (cl:Cls K C) (nE:NoAttr K C "ends") (nR:NoAttr K C "rests") (nT:NoAttr K C "table")
  (hb:∀(cdv:Value) (A:Around) (outer:List Env) (s:Shared) (H:Hp) (E:XK),Room k (A.deeper (envOfC "Hall.__init__" (ak st) s.heap.objs.size f cdv)) ->
   PSs (fh CX0 P w K mg base ["self","ends","rests","table"] "Hall.__init__" (ak st) f cdv A outer s H E).nox (bj st) (tCk C (fh CX0 P w K mg base ["self","ends","rests","table"] "Hall.__init__" (ak st) f cdv A outer s H E).nox cs (tI C (fh CX0 P w K mg base ["self","ends","rests","table"] "Hall.__init__" (ak st) f cdv A outer s H E).nox f1 f2 f3))) :
  FnOk P w K mg base CX0 (k+1) f fd ["self","ends","rests","table"] (spI K C (wf cs f1 f2 f3)):=by
 refine F.ok sc (λvs H Q E h=>?_) (λcdv A outer s H vs Q E hr h=>⟨_,hb cdv A outer s H E hr,?_⟩)
 ·obtain⟨x,dx,ve,vr,vt,e,r,t,rfl,_⟩:=h;rfl
 obtain⟨x,dx,ve,vr,vt,e,r,t,rfl,hx,h1,h2,h3,q⟩:=h;unfold wf at q;cases ec:wp cs (im e r t)with
 | exc c=>rw[ec]at q;exact q.elim
 | bad=>rw[ec]at q;exact q.elim
 | val u =>
  rw[ec]at q;cases e1:f1 (im e r t)with
  | exc c=>dsimp only[DL.R.bind]at q;rw[e1]at q;exact q.elim
  | bad=>dsimp only[DL.R.bind]at q;rw[e1]at q;exact q.elim
  | val es =>
   cases e2:f2 (im e r t)with
   | exc c=>dsimp only[DL.R.bind]at q;rw[e1,e2]at q;exact q.elim
   | bad=>dsimp only[DL.R.bind]at q;rw[e1,e2]at q;exact q.elim
   | val rs =>
    cases e3:f3 (im e r t)with
    | exc c=>dsimp only[DL.R.bind]at q;rw[e1,e2,e3]at q;exact q.elim
    | bad=>dsimp only[DL.R.bind]at q;rw[e1,e2,e3]at q;exact q.elim
    | val ts =>
     dsimp only[DL.R.bind]at q;rw[e1,e2,e3]at q;dsimp only[DL.R.bind]at q;refine vp (H0:=H) (U:=rb3 e r t) (FN h1 h2 h3) ec λH1 s1=>?_;refine lY (s1 _ _ hx) (by decide) cl nE (h1.mono s1) (h2.mono s1) (h3.mono s1) e1 λl1 Ha xa fa ka ha=>?_;refine lY xa (by show 1<3;decide) cl nR (ka _ _ (h1.mono s1)) (ka _ _ (h2.mono s1)) (ka _ _ (h3.mono s1)) e2 λl2 Hb xb fb kb hb2=>?_;refine lY xb (Nat.lt_of_le_of_lt (qM _ _ _) (by show 2<3;decide)) cl nT (kb _ _ (ka _ _ (h1.mono s1))) (kb _ _ (ka _ _ (h2.mono s1))) (kb _ _ (ka _ _ (h3.mono s1))) e3 λl3 Hc xc fc kc hc=>?_;refine q Hc (λb o eb nb=>fc _ _ (fb _ _ (fa _ _ (s1 _ _ eb) nb) nb) nb) ?_;exact .ob (dx:=dx) (ve:=.ref l1) (vr:=.ref l2) (vt:=.ref l3) xc (kc _ _ (kb _ _ ha)) (kc _ _ hb2) hc
end
def FnH (P:Program) (w:World) (K:Frag) (mg:Str->Option Value) (base:Heap) (C:Addr) (k:Nat) (den:Rho->R D):Prop :=
 ∃f fd,Mk K C f/\FnOk P w K mg base CX0 k f fd ["self","ends","rests","table"] (spI K C den)/\mg "Hall"=some (.ref C)/\Binds K fd ["self","ends","rests","table"] []
variable {es:List Expr} {Fa:Rho->R (List D)}
section
variable {C:Addr} {X:Cx}
def mkH (den:Rho->R D) (Fa:Rho->R (List D)):Rho->R D:=λU=>(Fa U).bind λds=>match ds with
 | [e,r,t]=>noex (den (im e r t))
 | _=>.bad
theorem By {den:Rho->R D} {e:Expr} (F:FnH X.prog X.w X.K X.mg X.base C k den) (hr:Room (k+1) X.A) (hg:Gl X "Hall") (ha:AD C X (e::es) Fa) (hx:X.xe=λ_ _=>False)
  (he:starEach (e::es) X.env=(false,eval e X.env)::starEach es X.env:=by rfl) (hpl:(backTo pos (starEach es X.env)).any (·.1)=false:=by rfl):ED C X (.Call (.Name "Hall" p) (e::es) [] pos) (mkH den Fa):=by
 obtain⟨f,fd,hM,hF,hm,hb⟩:=F;rintro pins s O H Q I ⟨U,⟨H0,r0⟩,q⟩;refine wpAny_Call_Name_kw (cP I hg hm ?_ (by decide));refine callWith_K (h₀:=X.base) I.ok.mod.kin hM.kp (thn (ha pos pins s O H (λvs H1=>∃a b c d,Same H H1/\eW C X U O H1 vs [a,b,c]/\den (im a b c)=.val d/\∀v H',Same H H'->bS C X U O H' v d->Q v H') I
  ⟨U,⟨H0,r0⟩,bQ (P:=λz H=>pV X (bS C X U O) z O H Q) (λ_ h=>h) (λh=>h) q λds vs H1 s1 h1 q1=>?_⟩) λus s1 ⟨vs,H1,I1,rv,a,b,c,d,s1',h1,e1,q1⟩=>⟨I1.kIn,?_⟩) he hpl
 ·split at q1
  ·rename_i a b c;cases e1:den (im a b c)with
   | val d=>rw[e1]at q1;exact⟨a,b,c,d,s1,h1,e1,q1⟩
   | exc c=>rw[e1]at q1;exact q1.elim
   | bad=>rw[e1]at q1;exact q1.elim
  ·exact q1.elim
 ·have r1:=r0.mono s1';have Z:=Rel.hid r1 I1;have J:=I1.hide Z;refine thn (w_ (E:=E0) (Q:=λv M'=>Same (cut (br U O) H1) M'/\Has X.K C M' v d) hM hF hr hb .nil nu J rv λx dx nx ndx nex=>?_) λu s2 ⟨v,M',J2,ru,sm,hv⟩=>?_
  ·rw[Ϫ];have h1:HasL X.K C (msk U O H1) vs [a,b,c]:=h1;rw[cu r0.bnd]at h1;have s0:Same (cut (br U O) H1) (upd (upd (cut (br U O) H1) dx (.own x)) x (.ins C dx [])):=λb o eb=>by
    rw[am (aD eb nx),am (aD eb ndx)];exact eb
   cases h1 with
   | @cons va _ _ _ ga h1=>cases h1 with
    | @cons vb _ _ _ gb h1=>cases h1 with
     | @cons vc _ _ _ gc h1 =>
      cases h1;refine⟨x,dx,va,vb,vc,a,b,c,rfl,ax,ga.mono s0,gb.mono s0,gc.mono s0,?_⟩;rw[e1];exact λH' fr hH=>⟨rfl,λb o eb=>fr b o (s0 _ _ eb) (aD eb nx),hH⟩
  ·obtain⟨I2,mz⟩:=I1.show' Z J2;have sj:Same H1 (jn (br U O) H1 M'):=λb o eb=>by
    by_cases hb:b∈br U O
    ·rw[ge hb];exact eb
    ·rw[a_ hb];exact sm b o (cut_some.mpr ⟨hb,eb⟩)
   have em:msk U O (jn (br U O) H1 M')=M':=by
    rw[cu r0.bnd]
    funext b
    by_cases hb:b∈br U O
    ·rw[dm hb,mz b hb]
    ·unfold cut;rw[if_neg hb,a_ hb]
   exact⟨v,_,I2,ru,q1 v _ (s1'.trans sj) (by show Has _ _ (msk U O _) v d;rw[em];exact hv)⟩
structure IsH (K:Frag) (C:Addr):Prop where
 cl:Cls K C
 ha:findIn K (.ref C) "__class__"=some (some (.builtin "object.__class__"))
 hn:specialIn K (.builtin "object.__class__") "__get__"=some (some (.builtin "getset_descriptor.__get__"))
 htk:takesIn K (.builtin "object.__class__")=some true
 hm:mroIn K C (.type "object")=some true
end
def CXd (P:Program) (w:World):CXT:=λouter H s E e s'=>∃ea cl H' ch,e=.ref ea/\fj s'.heap ea cl ch/\(∀b∈ch,s.heap.get? b=none/\H' b=none)/\s'.os=s.os/\AllBare s'.gens/\Un (frs outer) [] H H' s.heap s'.heap/\HOk P w H' s'.heap/\E cl none H'
def spX (K:Frag) (C:Addr) (mg:Str->Option Value) (n:Nat) (den:List D->R D):Sp:=λvs H Q E=>vs.length=n/\∃ds,HasL K C H vs ds/\match den ds with
 | .val d=>∀v H',Same H H'->Has K C H' v d->Q v H'
 | .exc c=>∀Cc H',mg (exN c)=some (.ref Cc)->Same H H'->E (.ref Cc) none H'
 | .bad=>False
variable {pins:List (Addr×Obj)} {O:St} {s:Shared}
theorem o6 {X:Cx} (I:Inv X pins O H s) (hx:X.ex=[]) (hb:s.heap.get? b=none):ua X pins H b:=by
 refine⟨?_,?_,λz=>?_,λz=>?_,λx c e z=>?_,λp hp z=>?_⟩
 ·cases q:H b with
  | none=>rfl
  | some o=>obtain⟨u,e⟩:=vY I.hok q;rw[hb]at e;cases e
 ·cases q:X.s₀.heap.get? b with
  | none=>rfl
  | some o =>
   obtain⟨u,e⟩:=I.base.there b o q (by rw[hx];simp);rw[hb]at e;cases e
 ·obtain⟨m,⟨o,_,_,ho,_⟩,_⟩:=I.loc;rw[<- z,hb]at ho;cases ho
 ·obtain⟨_,o,ho,_⟩:=I.stack.mem z;rw[hb]at ho;cases ho
 ·obtain⟨v,o,ho,_⟩:=I.cell x c e;rw[z,hb]at ho;cases ho
 ·have:=(I.pin p hp).1;rw[z,hb]at this;cases this
variable {ps:List Str}
section
variable {P:Program} {w:World} {K:Frag} {mg:Str->Option Value} {base:Heap} {C:Addr}
theorem BG {den:Rho->R Out} (F:Fun K x qual st f fd) (sc:cA N ps (ak st))
  (hb:∀(cdv:Value) (A:Around) (outer:List Env) (s:Shared) (H:Hp) (E:XK),Room k (A.deeper (envOfC qual (ak st) s.heap.objs.size f cdv)) ->
   SDs C (fh (CXd P w) P w K mg base N qual (ak st) f cdv A outer s H E) (bj st) den) :
  FnOk P w K mg base (CXd P w) (k+1) f fd ps (spX K C mg ps.length λds=>fin (den (st0 N ds))):=by
 obtain⟨oc,od,kV,doc,pm,an,cdv,ct,osl,rfl,lk,hcd⟩:=F.ex;refine Ce lk hcd sc (λvs H Q E h=>h.1) λA outer s H vs Q E hr h=>⟨_,hb cdv A outer s H E hr,?_⟩;obtain⟨_,ds,h,q⟩:=h;refine⟨st0 N ds,H,hW h,?_⟩;dsimp only at q;cases e:den (st0 N ds)with
 | val o =>
  rw[e]at q;cases o with
  | nx ρ'=>exact λσ' H' ⟨_,_,r⟩=>q _ H' (r.keep.trans msk_sub) .non
  | rt d=>exact λv H' s' h'=>q v H' s' h'
  | bk ρ'=>exact q.elim
  | ct ρ'=>exact q.elim
 | bad=>rw[e]at q;exact q.elim
 | exc c =>
  rw[e]at q;rintro pins σ' H' ev s' I sm ⟨ea,Cc,ch,he,hm,xr,hfx⟩;subst he;show wpAny _ _ (leaving _ (.ref ea)) _ _ s';unfold leaving;refine wpAny_bind (nB I.ok.frames I.stack rfl xr λh' ch' kb nw xr'=>?_);have I':=Inv.callX I kb hfx;refine⟨ea,.ref Cc,H',ch',rfl,xr',λb hb=>?_,I.os,I.bare,I'.base,I'.hok,q _ H' hm sm⟩;rcases nw b hb with hb|hb
  ·exact⟨(hfx b hb).2.1,(hfx b hb).1⟩
  ·have fT:=o6 I rfl hb;exact⟨fT.2.1,fT.1⟩
end
def FnX (P:Program) (w:World) (K:Frag) (mg:Str->Option Value) (base:Heap) (C:Addr) (k:Nat) (x:Str) (n:Nat) (den:List D->R D):Prop :=
 ∃f fd ps,FnOk P w K mg base (CXd P w) k f fd ps (spX K C mg n den)/\mg x=some (.ref f)/\keepIn K (.ref f)=true/\Binds K fd ps []
variable {n:Nat}
theorem FnX.fn {P:Program} {w:World} {mg:Str->Option Value} {base:Heap} {C:Addr} (F:FnX P w K mg base C k x n den):Fn P w K mg base C k x n den:=by
 obtain⟨f,fd,ps,h1,h2,h3,h4⟩:=F;have up:∀vs H Q E,spD K C n den vs H Q E->spX K C mg n den vs H Q E0:=λvs H Q E zz0=>by
  obtain⟨hl,ds,h,q⟩:=zz0;refine⟨hl,ds,h,?_⟩;cases e:den ds with
  | val d=>rw[e]at q;exact q
  | exc c=>rw[e]at q;exact q.elim
  | bad=>rw[e]at q;exact q.elim
 refine⟨f,fd,ps,⟨λvs H Q E h=>h1.len vs H Q E0 (up vs H Q E h),λA outer s H args us vs Q E hr he hb hv hs=>?_⟩,h2,h3,h4⟩;refine codeAny_mono (h1.run A outer s H args us vs Q E0 hr he hb hv (up vs H Q E hs)) λr s' hq=>?_;cases r with
 | error e=>obtain⟨_,_,_,_,_,_,_,_,_,_,_,z⟩:=hq;exact z.elim
 | ok fl =>
  cases fl with
  | ret u=>exact hq
  | next=>exact hq
  | brk=>exact hq
  | cont=>exact hq
variable {vs:List V}
section
variable {C:Addr} {X:Cx}
theorem uo {CX:CXT} {sp:Sp} {E:XK} {Q:VK} {us:List Value} (F:FnOk X.prog X.w X.K X.mg X.base CX k f fd ps sp) (hr:Room k X.A) (hb:Binds X.K fd ps [])
  (I:Inv X pins O H s) (r:Vals vs us) (h:sp vs H Q E):wpAny (model X.prog X.w) X.A (call (.ref f) us) (EP X pins O Q) (λe s'=>CX X.stack H s E e s') s:=by
 have hl:(us++[]).length=ps.length:=by rw[Ϫ,<- r.length];exact F.len _ _ _ _ h
 have hbi:=hb s us I.kIn hl;rw[Ϫ]at hbi;refine wpAny_call (codeAny_mono (F.run X.A X.stack s H ⟨us,[]⟩ us vs Q E hr I.env0 hbi r h) λr s' hq=>?_);cases r with
 | error e=>exact hq
 | ok fl =>
  cases fl with
  | ret u=>exact I.after hq
  | next=>exact False.elim hq
  | brk=>exact False.elim hq
  | cont=>exact False.elim hq
def pG (n:Nat) (den:List D->R D) (a:Rho->R (List D)):Rho->R D:=λU=>(a U).bind λds=>if ds.length=n then den ds else .bad
theorem ET {e:Expr} (F:FnX X.prog X.w X.K X.mg X.base C k x n den) (hr:Room k X.A) (hg:Gl X x) (ha:AD C X (e::es) Fa) (hex:X.ex=[])
  (hdb:(x==("__debug__":Str))=false:=by decide) (he:starEach (e::es) X.env=(false,eval e X.env)::starEach es X.env:=by rfl) (hpl:(backTo pos (starEach es X.env)).any (·.1)=false:=by rfl) :
  ED C X (.Call (.Name x p) (e::es) [] pos) (pG n den Fa):=by
 obtain⟨f,fd,ps,hF,hm,hk,hb⟩:=F;rintro pins s O H Q I ⟨U,⟨H0,r0⟩,q⟩;refine wpAny_Call_Name_kw (cP I hg hm ?_ hdb);refine callWith_K (h₀:=X.base) I.ok.mod.kin hk (thn (ha pos pins s O H (λvs H1=>∃ds,ds.length=n/\Same H H1/\eW C X U O H1 vs ds/\pV X (bS C X U O) (den ds) O H Q) I
  ⟨U,⟨H0,r0⟩,bQ (P:=λz H=>pV X (bS C X U O) z O H Q) (λ_ h=>h) (λh=>h) q λds vs H1 s1 h1 q1=>?_⟩) λus s1 ⟨vs,H1,I1,rv,ds,hl,s1',h1,q1⟩=>⟨I1.kIn,?_⟩) he hpl
 ·split at q1
  ·exact⟨ds,‹_›,s1,h1,q1⟩
  ·exact q1.elim
 ·have r1:=r0.mono s1';have Z:=Rel.hid r1 I1;have J:=I1.hide Z;have em:∀M',(∀z∈br U O,M' z=none)->msk U O (jn (br U O) H1 M')=M':=λM' mz=>by
   rw[cu r0.bnd]
   funext b
   by_cases hb:b∈br U O
   ·rw[dm hb,mz b hb]
   ·unfold cut;rw[if_neg hb,a_ hb]
  have sj:∀M',Same (cut (br U O) H1) M'->Same H1 (jn (br U O) H1 M'):=λM' sm b o eb=>by
   by_cases hb:b∈br U O
   ·rw[ge hb];exact eb
   ·rw[a_ hb];exact sm b o (cut_some.mpr ⟨hb,eb⟩)
  cases e1:den ds with
  | bad=>rw[e1]at q1;exact q1.elim
  | val d =>
   rw[e1]at q1;refine wpAny_mono (uo (E:=E0) (Q:=λv M'=>Same (cut (br U O) H1) M'/\Has X.K C M' v d) hF hr hb J rv ?_) (λu s2 ⟨v,M',J2,ru,sm,hv⟩=>?_) λe s2 ⟨_,_,_,_,_,_,_,_,_,_,_,z⟩=>z.elim
   ·refine⟨h1.len.trans hl,ds,by rw[<- cu r0.bnd];exact h1,?_⟩;rw[e1];exact λv H' s2 h2=>⟨s2,h2⟩
   ·obtain⟨I2,mz⟩:=I1.show' Z J2;exact⟨v,_,I2,ru,q1 v _ (s1'.trans (sj M' sm)) (by show Has _ _ (msk U O _) v d;rw[em M' mz];exact hv)⟩
  | exc c =>
   rw[e1]at q1;refine wpAny_mono (uo (E:=λcl _ M'=>(∃Cc,cl=.ref Cc/\X.mg (exN c)=some (.ref Cc))/\Same (cut (br U O) H1) M') (Q:=λ_ _=>False) hF hr hb J rv ?_) (λu s2 ⟨v,M',J2,ru,z⟩=>z.elim) λe s2 hq=>?_
   ·refine⟨h1.len.trans hl,ds,by rw[<- cu r0.bnd];exact h1,?_⟩;rw[e1];exact λCc H' hm' s2=>⟨⟨Cc,rfl,hm'⟩,s2⟩
   ·obtain⟨ea,cl,M',ch,he',xr,hch,hos,hbare,un,hok,⟨Cc,hcc,hmc⟩,sm⟩:=hq;subst he';subst hcc;have J2:Inv X (pins++bY (br U O) s1.heap) O M' s2:=J.call' hos un hok hbare (ch:=[]) (λb z=>nomatch z);obtain⟨I2,mz⟩:=I1.show' Z J2;refine q1 pins _ _ s2 I2 (s1'.trans (sj M' sm)) ⟨ea,Cc,ch,rfl,hmc,xr,λb hb=>?_⟩;have f1:=o6 I1 hex (hch b hb).1;refine⟨?_,f1.2⟩;rw[a_ λz=>?_]
    ·exact(hch b hb).2
    ·obtain⟨o,ho,_⟩:=Z.obj b z;rw[(hch b hb).1]at ho;cases ho
end
variable {c:Nat} {Cc:Addr}
section
variable {C:Addr} {X:Cx}
variable (C X) in
def teS (F:Rho->R Unit):TE:=λO H Q=>∃U:RB,(∃H0,b_ C X H0 U O H)/\match F U with
 | .val _=>∀(x:Str) H',Same H H'->Q (.str x) H'
 | _=>False
variable (C X) in
def SE (e:Expr) (F:Rho->R Unit):Prop:=PE X e (teS C X F)
def sK:Rho->R Unit:=λ_=>.val ()
theorem qj:SE C X (.Constant (.str x) j pos) sK:=ao DD λO H Q yy0=>by
 obtain⟨U,r,q⟩:=yy0;exact q x H (Same.refl _)
abbrev veM:List Value:=[.type "ValueError",.type "Exception",.type "BaseException",.type "object"]
def XC (K:Frag) (mg:Str->Option Value) (c:Nat):Prop:=∃Cc,mg (exN c)=some (.ref Cc)/\excIn K Cc veM "ValueError.__new__"=true
theorem uX {h:Heap} {bmB:List Value} {newId:String} (X:K.In h) (q:excIn K Cc bmB newId=true) :
  ∃bm N nm qn bs hd sn sub ab col dd k0 k1 k2 k3 k5 mN,h.get? Cc=some (excClassObj nm qn Cc N bs bm hd sn sub ab col dd k0 k1 k2 k3 k5 newId)/\h.Ns N mN/\mN "__init__"=none/\OwnTail h bmB bm:=by
 unfold excIn at q;cases ho:K.lookup Cc with
 | none=>rw[ho]at q;cases q
 | some o =>
  rw[ho]at q;split at q
  ·rename_i dd cd sl eo;cases eo;split at q
   ·rename_i C1 bm k0 k1 k2 k3 n1 k5 em es;rw[ϝ,ϝ,ϝ,ϝ,ϝ]at q;obtain⟨⟨⟨⟨⟨q1,q2⟩,q3⟩,q4⟩,q5⟩,q6⟩:=q;obtain rfl:=beq_iff_eq.mp q1;obtain rfl:=beq_iff_eq.mp q2;have hdel:cd.hasDel=false:=by simpa using q3
    clear q3;cases cd with
    | mk nm bs mro ns qn hd sn sub ab col del =>
     dsimp only at em hdel q5 q6;subst em;subst hdel;obtain⟨sl⟩:=sl;dsimp only at es;subst es;exact⟨bm,ns,nm,qn,bs,hd,sn,sub,ab,col,dd,k0,k1,k2,k3,k5,_,X _ _ ho,.of_isNs (PySem.W.isNs_of_in X q5),PySem.W.nsMap_none_of_in X q5 (beq_iff_eq.mp q6),PySem.W.tail_of_in X q4⟩
   ·cases q
  ·cases q
def rse (c:Nat) (F:Rho->R Unit):Rho->R Out:=λU=>match F U with
 | .val _=>.exc c
 | _=>.bad
theorem qk {np cpos:Pos} {e:Expr} {F:Rho->R Unit} (hX:XC X.K X.mg c) (hx:x=exN c) (hc:X.calm=true) (hex:X.ex=[]) (hg:Gl X x) (he:SE C X e F) (hst:starEach [e] X.env=(false,eval e X.env)::starEach [] X.env) (hdb:(x==("__debug__":Str))=false:=by decide) :
  SD C X (.Raise (some (.Call (.Name x np) [e] [] cpos)) none pos) (rse c F):=by
 subst hx;obtain⟨Cc,hm,hq⟩:=hX;rintro pins s O H Dn I ⟨_,H0,⟨U,rfl,r⟩,q⟩;obtain⟨bm,N,nm,qn,bs,hd,sn,sub,ab,col,dd,k0,k1,k2,k3,k5,mN,hC,hN,hni,T⟩:=uX I.mod.kin hq;have kb:∀{s2:Shared} {H2:Hp},Inv X pins O H2 s2->∀b o,X.base.get? b=some o->s2.heap.get? b=some o:=λI2=>I2.bk;unfold rse at q;cases eF:F U with
 | exc c'=>rw[eF]at q;exact q.elim
 | bad=>rw[eF]at q;exact q.elim
 | val u =>
  rw[eF]at q;refine wpAny_Raise_call_subT (C:=Cc) (nm:=nm) (q:=qn) (N:=N) (bs:=bs) (bm:=bm) (hdct:=hd) (sn:=sn) (sub:=sub) (ab:=ab) (col:=col) (dd:=dd) (k0:=k0) (k1:=k1) (k2:=k2) (k3:=k3) (k5:=k5)
   PySem.F.excBase_ValueError (mN:=mN) (T.hasType PySem.F.excBase_ValueError.hasBase) (I.ok.hd hc) (by rw[hst];rfl) hni (cP I hg hm ⟨rfl,?_⟩ hdb)
  have hp:=(aQ he bH hst) cpos pins s O H (λvs H1=>Same H H1/\vs.length=1) I ⟨U,⟨H0,r⟩,by rw[eF];exact λy H' s'=>⟨s',rfl⟩⟩;rw[hst]at hp ⊢;refine Calls.evalArgs_plain (thn hp λus s2 zz0=>?_);obtain⟨vs,H1,I2,rv,s1',hl⟩:=zz0;refine⟨rfl,by show us.length<=sizeLine;rw[<- rv.length,hl];decide,I2.bk _ _ hC,hN.keeps I2.bk,T.keeps I2.bk,λh' ea made=>?_⟩;obtain⟨t,g1,g2,g3⟩:=made.there;have I3:Inv X pins O H1 { s2 with heap:=h' }:=I2.kept (t':=s2.toks) made.keeps;refine q pins O H1 (.ref ea) _ I3 ((r.keep.trans msk_sub).trans s1') ⟨ea,Cc,[ea],rfl,hm,⟨ϓ.mpr rfl,⟨_,_,g1,rfl,rfl,rfl,by show 1<6;decide,.inl rfl⟩,λb hb=>?_⟩,λb hb=>?_⟩
  ·rw[ϓ.mp hb];exact⟨_,_,g1,rfl⟩
  ·rw[ϓ.mp hb];exact o6 I2 hex made.new
end
structure XF (K:Frag) (Cc:Addr):Prop where
 ex:excIn K Cc veM "ValueError.__new__"=true
 ga:findIn K (.ref Cc) "__getattribute__"=some (some (.builtin "BaseException.__getattribute__"))
 gn:findIn K (.ref Cc) "__getattr__"=some none
 ca:findIn K (.ref Cc) "__class__"=some (some (.builtin "object.__class__"))
 cn:specialIn K (.builtin "object.__class__") "__get__"=some (some (.builtin "getset_descriptor.__get__"))
 ct:takesIn K (.builtin "object.__class__")=some true
 mo:mroIn K Cc (.type "object")=some true
theorem XF.cls (F:XF K Cc):(PySem.W.clsIn K Cc).isSome=true:=by
 have q:=F.ex;unfold excIn at q;unfold PySem.W.clsIn;split at q
 ·rename_i ho;rw[ho];rfl
 ·cases q
theorem XF.find (F:XF K Cc):PySem.W.findObj K Cc none "__class__"=some (.bind (.builtin "getset_descriptor.__get__") (.builtin "object.__class__")):=by
 obtain⟨cd,hc⟩:=Ε.mp F.cls;unfold PySem.W.findObj;rw[hc,Option.bind_some,F.ca,Option.bind_some];simp[F.cn,F.ct]
section
variable {prog:Program} {w:World} {A:Around} {E:Value->Shared->Prop} {K:Frag} {h:Heap} {g:Array GenState} {d:Drawn} {t:Nat} {os:OsState} {x Cc:Addr} {ox:Obj}
open PySem.W in
theorem Ev {tk:Tok} {R:Result->Shared->Prop} (F:XF K Cc) (X:K.In h) (I:InstAt h x ox Cc none) (hq:R (.ok (.ret (.ref Cc))) ⟨h,g,d,t,os⟩) :
  codeAny (model prog w) A (.call (.builtin "BaseException.__getattribute__") ⟨[.ref x,.str "__class__" tk],[]⟩) R ⟨h,g,d,t,os⟩:=by
 obtain⟨bm,N,nm,qn,bs,hd,sn,sub,ab,col,dd,k0,k1,k2,k3,k5,mN,hC,hN,hni,T⟩:=uX X F.ex;have hcB:(Value.ref Cc::bm).contains (.type "BaseException")=true:=by rw[List.contains_cons,T.hasType PySem.F.excBase_ValueError.hasBase];rfl
 have hx:=I.at_;have hc:=I.cls;have L0:=I.type (M:=model prog w);have L1:=looks_find (M:=model prog w) X I F.find;refine codeAny_call_builtin PySem.F.attr_ValueError.ga.plain PySem.F.entry_bexc_ga ?_;have hk:builtinKind "BaseException.__getattribute__"=some .slot:=by decide +kernel
 have hsplit:splitId "BaseException.__getattribute__"=some ("BaseException","__getattribute__"):=by decide +kernel
 have ha:=PySem.F.args_bexc_ga (.ref x) (.str "__class__" tk);have step:∀(A':Around) (E':Value->Shared->Prop) (Q:Unit->Shared->Prop),Q () ⟨h,g,d,t,os⟩->wpAny (model prog w) A' (checkBuiltinCall "BaseException.__getattribute__" ⟨[.ref x,.str "__class__" tk],[]⟩) Q E' ⟨h,g,d,t,os⟩:=λA' E' Q q=>by
  simp only[checkBuiltinCall,hk,hsplit];refine wpAny_bind ?_;unfold isInstance
  repeat (first|(with_reducible refine wpAny_loadPart_at hx ?_;rw[hc])|(with_reducible refine wpAny_isSubtype_exc hC ?_;rw[hcB])|wp_step)
  exact q
 refine step _ _ _ ?_;unfold Builtin.«object.__getattribute__»
 repeat (any_goals (first|assumption|with_reducible refine L0.at ?_|with_reducible refine L1.at ?_|wp_step))
 refine class_get X I F.mo ?_
 repeat (any_goals (first|assumption|wp_step))
open PySem.W in
theorem v_ {Q:Option Value->Shared->Prop} (F:XF K Cc) (X:K.In s.heap) (I:InstAt s.heap x ox Cc none) (hq:Q (some (.ref Cc)) { s with toks:=s.toks+1 }):wpAny (model prog w) A (getAttr? (.ref x) "__class__") Q E s:=by
 obtain⟨h,g,d,t,os⟩:=s;have L0:=I.type (M:=model prog w);have L1:=looks_findIn (M:=model prog w) X F.ga;have L2:=looks_findIn (M:=model prog w) X F.gn;have f3:=PySem.F.attr_ValueError.ga.bind (.ref x);have hx2:(Value.builtin "BaseException.__getattribute__" == Value.builtin "object.__getattribute__")=false:=by decide +kernel
 have hx1:(onTheHeap (Value.ref Cc)&&Value.builtin "BaseException.__getattribute__" == Value.builtin "object.__getattribute__")=false:=by rw[hx2];rfl
 unfold getAttr? getAttrBy?
 repeat (any_goals (first|assumption|with_reducible refine L0.at ?_|with_reducible refine L1.at ?_|with_reducible refine L2.at ?_|wp_step))
 refine Ev F X I ?_;show wpAny _ _ (handedOut (.ref Cc)) _ _ _;exact handed_on rfl (wpAny_pure hq)
open PySem.W in
theorem qN (F : XF K Cc) : KitX K (.ref x) (.ref Cc) (fun h => ∃ ox, InstAt h x ox Cc none) where
  ty := fun _ _ _ yy0 => by
   obtain ⟨ox, I⟩ := yy0
   exact I.type
  it := fun M h X _ => by
    obtain ⟨cd, hc⟩ := Ε.mp F.cls
    unfold clsIn at hc
    split at hc
    · rename_i ho
      intro A' Q' E' s' k q
      unfold isType loadHead
      exact wpAny_bind (wpAny_loadPart (k _ _ (X _ _ ho)) (wpAny_pure q))
    · cases hc
  ne := fun h tp dd its n sl X htp => by
    obtain ⟨cd, hc⟩ := Ε.mp F.cls
    refine Bool.eq_false_iff.mpr fun q => ?_
    have e : Cc = tp := Value.ref.inj (beq_iff_eq.mp q)
    subst e
    unfold clsIn at hc
    split at hc
    · rename_i ho
      have z := (X _ _ ho).symm.trans htp
      cases z
    · cases hc
  ca := fun X ⟨ox, I⟩ k => v_ F X I k
end
structure tO (K:Frag) (mg:Str->Option Value) (S:List Nat):Prop where
 cls:∀k,k<7->∃Ck,nsIn K mainGlobals (exN k)=some (some (.ref Ck))/\mg (exN k)=some (.ref Ck)
 xf:∀c∈S,∀Cc,nsIn K mainGlobals (exN c)=some (some (.ref Cc))->XF K Cc
 kit:∀c∈S,∀k,k<7->∀Cc Ck,nsIn K mainGlobals (exN c)=some (some (.ref Cc))->nsIn K mainGlobals (exN k)=some (some (.ref Ck))->kitOne K (.ref Cc) (.ref Ck)=some (decide (c=k))
 kve:∀c∈S,∀Cc,nsIn K mainGlobals (exN c)=some (some (.ref Cc))->kitOne K (.ref Cc) (.type "ValueError")=some true
variable {S:List Nat} {p2 ap:Pos} {A:Around}
section
variable {C:Addr} {X:Cx}
theorem qP (I:Inv X pins O H s) (XA:tO X.K X.mg S) (hc:c∈S) (e:H a=some (.ext (exP X.K c a))) :
  ∃Cc,nsIn X.K mainGlobals (exN c)=some (some (.ref Cc))/\XF X.K Cc/\∃ox,InstAt s.heap a ox Cc none:=by
 obtain⟨⟨ox,Cc,h1,h2,h3,⟨vs,h4⟩,h5⟩,_⟩:=I.hok a _ e;refine⟨Cc,h5,XA.xf c hc Cc h5,ox,h1,h2,?_,by rw[h3];trivial⟩;unfold PySem.W.notCls;rw[h4]
def Hk (K:Frag) (S:List Nat) (k:Nat):List V->Hp->VK->Prop:=λvs H Q=>∃a c Ck,vs=[.ref a,.ref Ck]/\nsIn K mainGlobals (exN k)=some (some (.ref Ck))/\H a=some (.ext (exP K c a))/\c∈S/\Q (.bl (decide (c=k))) H
theorem zj (XA:tO X.K X.mg S) (hk:k<7):hV X (.builtin "isinstance") (Hk X.K S k):=by
 rintro pins s O H xs us Q I r ⟨a,c,Ck,rfl,hCk,e,hc,q⟩;cases r with
 | cons r1 r=>cases r with
  | cons r2 r =>
   cases r;obtain rfl:=(show _=Value.ref Ck from r2);obtain rfl:=(show _=Value.ref a from r1);obtain⟨Cc,hCc,F,ox,J⟩:=qP I XA hc e;exact kia_one (qN F) I.kIn ⟨ox,J⟩ (XA.kit c hc k hk Cc Ck hCc hCk) (λz=>nomatch z) λtk=>⟨.bl _,H,I.tok _,rfl,q⟩
def lZ (S:List Nat) (k:Nat):D->R D
 | .exn c=>if c∈S then .val (.bl (decide (c=k)))else .bad
 | _=>.bad
theorem EO {e:Expr} (XA:tO X.K X.mg S) (hk:k<7) (hxk:x=exN k) (hg:Gl X "isinstance") (hm:X.mg "isinstance"=none) (hgx:Gl X x) (he:EB C X e F) (hst:starEach [e,.Name x p2] X.env=(false,eval e X.env)::starEach [.Name x p2] X.env)
  (hdb:(x==("__debug__":Str))=false:=by decide):ED C X (.Call (.Name "isinstance" p) [e,.Name x p2] [] pos) (una (lZ S k) F):=by
 subst hxk;obtain⟨Ck,hCk,hmk⟩:=XA.cls k hk;refine ao (dW (zj XA hk) hg hm boot_isinstance (aQ he (aQ (uF (v:=.ref Ck) hgx hmk rfl hdb) bH dO) hst) (he:=hst) (hpl:=kR dO dJ)) λO H Q ⟨U,r0,q⟩=>⟨U,r0,au (P:=λz H=>pV X (bS C X U O) z O H Q) (λ_ h=>h) (λh=>h) q λy v H1 s1 h1 q1=>?_⟩;cases y with
 | exn c =>
  cases h1 with
  | cl h1 =>
   cases h1 with
   | exn e1 =>
    by_cases hc:c∈S
    ·unfold lZ at q1;dsimp only at q1;rw[if_pos hc]at q1;exact⟨_,c,Ck,rfl,hCk,msk_sub _ _ e1,hc,q1 _ H1 s1 (.bl _)⟩
    ·unfold lZ at q1;dsimp only at q1;rw[if_neg hc]at q1;exact q1.elim
 | _=>exact q1.elim
theorem xL {e:Expr} {T:Str} {T':String} {te:TE} (hg:Gl X "isinstance") (hm:X.mg "isinstance"=none) (hgT:Gl X T) (hmT:X.mg T=none) (hbT:bootBuiltins T=some (.type T')) (he:PE X e te) (hst:starEach [e,.Name T p2] X.env=(false,eval e X.env)::starEach [.Name T p2] X.env)
  (hn:T ≠ "__name__":=by decide) (hdb:(T==("__debug__":Str))=false:=by decide) :
  PE X (.Call (.Name "isinstance" p) [e,.Name T p2] [] pos) (λO H Q=>te O H λv H1=>∃b,(∀(pins:List (Addr×Obj)) (s:Shared) (u:Value) (Q':Value->Shared->Prop) (E':Value->Shared->Prop),Inv X pins O H1 s->RelV v u->(∀tk,Q' (.bool b) { s with toks:=tk })->wpAny (model X.prog X.w) X.A (call (.builtin "isinstance") [u,.type T']) Q' E' s)/\Q (.bl b) H1):=by
 intro pins s O H Q I h;refine wpAny_Call_Name_kw (gF I hg hm boot_isinstance ?_);refine PyProof.Rows.callWith_builtin1 ?_ hst (kR dO dJ);rw[hst];refine Calls.spliced_cons (thn (he pins s O H _ I h) λu s1 zz0=>?_);obtain⟨v,H1,I1,rv,b,hb,q⟩:=zz0;rw[dO];refine Calls.spliced_cons (gF I1 hgT hmT hbT ?_ hn hdb);refine Calls.spliced_nil ?_;exact hb pins s1 u _ _ I1 rv λtk=>⟨.bl b,H1,I1.tok _,rfl,q⟩
def yJ (S:List Nat):D->R D
 | .exn c=>if c∈S then .val (.bl true)else .bad
 | _=>.bad
theorem EQ {e : Expr} (XA : tO X.K X.mg S) (hg : Gl X "isinstance") (hm : X.mg "isinstance" = none) (hgT : Gl X "ValueError") (hmT : X.mg "ValueError" = none) (hbT : bootBuiltins "ValueError" = some (.type "ValueError")) (he : EB C X e F) (hst : starEach [e, .Name "ValueError" p2] X.env = (false, eval e X.env) :: starEach [.Name "ValueError" p2] X.env) :
    ED C X (.Call (.Name "isinstance" p) [e, .Name "ValueError" p2] [] pos) (una (yJ S) F) :=
  ao (xL hg hm hgT hmT hbT he hst) fun O H Q yy1 => by
   obtain ⟨U, r0, q⟩ := yy1
   exact ⟨U, r0, au (P := fun z H => pV X (bS C X U O) z O H Q) (fun _ h => h) (fun h => h) q fun y v H1 s1 h1 q1 => by
    cases y with
    | exn c =>
      cases h1 with
      | cl h1 =>
        cases h1 with
        | @exn a _ e1 =>
          by_cases hc : c ∈ S
          · unfold yJ at q1
            dsimp only at q1
            rw [if_pos hc] at q1
            refine ⟨true, fun pins s u Q' E' I rv hQ => ?_, q1 _ H1 s1 (.bl true)⟩
            obtain rfl := (show u = Value.ref a from rv)
            obtain ⟨Cc, hCc, F, ox, J⟩ := qP I XA hc (msk_sub _ _ e1)
            exact kia_one (qN F) I.kIn ⟨ox, J⟩ (XA.kve c hc Cc hCc) (fun z => nomatch z) hQ
          · unfold yJ at q1
            dsimp only at q1
            rw [if_neg hc] at q1
            exact q1.elim
    | _ => exact q1.elim⟩
def fi:List D->Option (List Bool)
 | []=>some []
 | .bl b::r=>(fi r).map (b :: ·)
 | _=>none
theorem fS {K:Frag} {M:Hp}:∀{xs:List D} {l:List Bool} {vs:List V},fi xs=some l->HasL K C M vs xs->vs=l.map V.bl
 | [],l,vs,e,h=>by cases e;cases h;rfl
 | x::r,l,vs,e,h=>by
  cases x with
  | bl i =>
   rw[fi]at e;cases z:fi r with
   | none=>rw[z]at e;cases e
   | some l' =>
    rw[z]at e;cases e;cases h with
    | cons a b=>cases a;rw[fS z b];rfl
  | _=>cases e
theorem fL:∀{bs:List Bool} {us:List Value},Vals (bs.map V.bl) us->us=bs.map Value.bool
 | [],_,.nil=>rfl
 | b::bs,_,.cons r t=>by rw[fL t];cases(show _=Value.bool b from r);rfl
def isT:Value->Bool
 | .bool b=>b
 | _=>false
theorem u5 (I:Inv X pins O H s) (hu:A.units<cLine) {bs:List Bool}:∀y,y∈(bs.map Value.bool).toArray->SeqAt.EqAt A s y (.bool true) (isT y):=λy hy=>by
 have hy:y∈bs.map Value.bool:=by simpa using hy
 obtain⟨b,_,rfl⟩:=ϱ.mp hy;have:=(yU (C:=(0:Addr)) I 0 (A:=A) (x:=.bl b) (y:=.bl true) (v:=.bl b) (w:=.bl true) (u:=.bool b) (t:=.bool true) (by omega) rfl rfl (.bl b) (.bl true) rfl rfl).2;have e:pyq 0 (.bl b) (.bl true)=isT (.bool b):=by cases b<;>rfl
 rw[e]at this;exact this
def FZ:V->List V->Hp->VK->Prop:=λx vs H Q=>∃(l:Addr) (bs:List Bool),x=.ref l/\vs=[.bl true]/\H l=some (.lst (bs.map V.bl))/\Q (.int ((bs.countP id:Nat):Int)) H
theorem qz (hu:X.A.units+9<cLine):MtM X "list.count" FZ:=by
 intro pins s O H x vs v us Q I rx rv h;obtain⟨l,bs,rfl,rfl,hH,q⟩:=h;cases rx;obtain⟨u1,rfl,r1⟩:=rv.one;cases(show u1=Value.bool true from r1);obtain⟨z,its,n,r,hl,e⟩:=I.lstM hH;have ei:=fL r;subst ei;refine call_meets PySem.F.slot_list_count ⟨_,e,rfl⟩ PySem.F.entry_list_count (PySem.F.args_list_count_2 _ _) (SeqAt.list_countAt l _ n none #[] (.bool true) isT) ⟨e,u5 I ?_,?_⟩
 ·have:X.A.in1.in1.units=X.A.units+2:=rfl
  first|omega|(show X.A.units+1+1<cLine;omega)|(show X.A.units+1<cLine;omega)
 ·refine⟨.int _,H,I.tok _,⟨_,rfl⟩,?_⟩;have:List.countP isT (bs.map Value.bool)=bs.countP id:=by rw[List.countP_map];rfl
  simp only[this];exact q
def FY:V->List V->Hp->VK->Prop:=λx vs H Q=>∃(l:Addr) (bs:List Bool) (j:Nat),x=.ref l/\vs=[.bl true]/\H l=some (.lst (bs.map V.bl))/\bs.length<=1000/\bs.findIdx? id=some j/\Q (.int (j:Int)) H
theorem qy (hu:X.A.units+9<cLine):MtM X "list.index" FY:=by
 intro pins s O H x vs v us Q I rx rv h;obtain⟨l,bs,j,rfl,rfl,hH,hlen,hj,q⟩:=h;cases rx;obtain⟨u1,rfl,r1⟩:=rv.one;cases(show u1=Value.bool true from r1);obtain⟨z,its,n,r,hl,e⟩:=I.lstM hH;have ei:=fL r;subst ei;obtain⟨hjl,hjt,hjn⟩:=List.findIdx?_eq_some_iff_getElem.mp hj;refine call_meets Ψ ⟨_,e,rfl⟩ PySem.F.entry_list_index (PySem.F.args_list_index_2 _ _) (SeqAt.list_indexAt l _ n none #[] (.bool true) isT j (by simpa using hjl) (by omega) (by simpa[isT]using hjt) (λm hm hlt=>by
  have:=hjn m hlt;simpa[isT]using this)) ⟨e,u5 I ?_,?_⟩
 ·first|omega|(show X.A.units+1+1<cLine;omega)|(show X.A.units+1<cLine;omega)
 ·exact⟨.int _,H,I.tok _,⟨_,rfl⟩,q⟩
def BM:D->R D
 | .lst xs=>match fi xs with
  | some bs=>.val (.int ((bs.countP id:Nat):Int))
  | none=>.bad
 | _=>.bad
def AZ:D->R D
 | .lst xs=>match fi xs with
  | some bs=>if bs.length<=1000 then match bs.findIdx? id with
   | some j=>.val (.int (j:Int))
   | none=>.bad
   else .bad
  | none=>.bad
 | _=>.bad
theorem BC (hu : X.A.units + 9 < cLine) (ho : EB C X o F)
    (hs : ∀ {to : TE} {t : TA}, PE X o to -> PA X [.Constant (.bool true) j p] t -> PE X (.Call (.Attribute o "count" ap) [.Constant (.bool true) j p] [] cp) (tBM X.K "list" FZ to t) := by
      exact fun ho ha => iX ϴ PySem.F.slot_list_count PySem.F.type_list_count (qz (by assumption)) ho ha) :
    ED C X (.Call (.Attribute o "count" ap) [.Constant (.bool true) j p] [] cp) (una BM F) :=
  ao (hs ho (aQ uG bH gy)) fun O H Q yy2 => by
   obtain ⟨U, r0, q⟩ := yy2
   exact ⟨U, r0, au (P := fun z H => pV X (bS C X U O) z O H Q) (fun _ h => h) (fun h => h) q fun y v H1 s1 h1 q1 => by
    cases y with
    | lst xs =>
      unfold BM at q1
      dsimp only at q1
      split at q1
      · rename_i bs eb
        obtain ⟨a, vs, rfl, e1, h2⟩ := h1.lst msk_sub
        obtain rfl := fS eb h2
        exact ⟨.inl ⟨rfl, _, SqL.of e1⟩, a, bs, rfl, rfl, e1, q1 _ H1 s1 (.int _)⟩
      · exact q1.elim
    | _ => exact q1.elim⟩
theorem Bx (hu : X.A.units + 9 < cLine) (ho : EB C X o F)
    (hs : ∀ {to : TE} {t : TA}, PE X o to -> PA X [.Constant (.bool true) j p] t -> PE X (.Call (.Attribute o "index" ap) [.Constant (.bool true) j p] [] cp) (tBM X.K "list" FY to t) := by
      exact fun ho ha => iX ϴ Ψ PySem.F.type_list_index (qy (by assumption)) ho ha) :
    ED C X (.Call (.Attribute o "index" ap) [.Constant (.bool true) j p] [] cp) (una AZ F) :=
  ao (hs ho (aQ uG bH gy)) fun O H Q yy3 => by
   obtain ⟨U, r0, q⟩ := yy3
   exact ⟨U, r0, au (P := fun z H => pV X (bS C X U O) z O H Q) (fun _ h => h) (fun h => h) q fun y v H1 s1 h1 q1 => by
    cases y with
    | lst xs =>
      unfold AZ at q1
      dsimp only at q1
      split at q1
      · rename_i bs eb
        by_cases hl : bs.length <= 1000
        · rw [if_pos hl] at q1
          split at q1
          · rename_i jj ej
            obtain ⟨a, vs, rfl, e1, h2⟩ := h1.lst msk_sub
            obtain rfl := fS eb h2
            exact ⟨.inl ⟨rfl, _, SqL.of e1⟩, a, bs, jj, rfl, rfl, e1, hl, ej, q1 _ H1 s1 (.int _)⟩
          · exact q1.elim
        · rw [if_neg hl] at q1; exact q1.elim
      · exact q1.elim
    | _ => exact q1.elim⟩
end
def reX (X:Cx) (A:Around) (cm:Bool) (pn:List (Addr×Obj)) (xe:Value->Shared->Prop):Cx:={ X with A:=A,calm:=cm,pn:=pn,xe:=xe }
section
variable {X:Cx} {pins pins':List (Addr×Obj)} {O:St} {H:Hp} {s:Shared} {A:Around} {cm:Bool} {xe:Value->Shared->Prop}
theorem _root_.L2.Inv.re (I:Inv X pins O H s) (hf:A.frames=X.A.frames) (hh:cm=true->A.handled=none):Inv (reX X A cm (X.pn++pins) xe) [] O H s :=
 ⟨⟨I.ok.mod,I.ok.kind,I.ok.glob,I.ok.blt,I.ok.above,I.ok.inj,I.ok.has,I.ok.cab,hh,hf.trans I.ok.frames,I.ok.stk,I.ok.exf,I.ok.bs,I.ok.bsz,I.ok.noex,I.ok.exfs,I.ok.funs,I.ok.frf⟩,I.os,I.bare,I.base,I.loc,I.cell,I.free,I.freeC,λp hp=>I.pin p (by have hp:p∈(X.pn++pins)++[]:=hp;rw[Ϫ]at hp;exact hp),I.hok,I.len⟩
theorem _root_.L2.Inv.unre (ok:X.Ok) (J:Inv (reX X A cm (X.pn++pins) xe) pins' O H s):Inv X pins O H s :=
 ⟨ok,J.os,J.bare,J.base,J.loc,J.cell,J.free,J.freeC,λp hp=>J.pin p (ϟ _ hp),J.hok,J.len⟩
theorem _root_.L2.Inv.goes {h':Heap} {v:Option Value} {m:Str->Option Value} {t':Nat} (I:Inv X pins O H s) (hN:X.N.Nodup) (hi:X.N[i]?=some x) (hn:s.heap.Ns X.env.locals m) (hn':h'.Ns X.env.locals (λy=>if y=x then v else m y)) (hs:Heap.SameBut X.env.locals s.heap h') :
  Inv X pins (O.set i none) H { s with heap:=h',toks:=t' }:=by
 have oth:∀b,b≠X.env.locals->h'.get? b=s.heap.get? b:=λb hb=>hs.2 b hb;have neL:∀b o,X.s₀.heap.get? b=some o->b≠X.env.locals:=λb o e=>ϭ (Ϛ (ϔ e) I.ok.above);obtain⟨m0,hn0,hl⟩:=I.loc;have em:m0=m:=by
  obtain⟨o,es,ep,ho,hd,_,hf⟩:=hn0;obtain⟨o',es',ep',ho',hd',_,hf'⟩:=hn;rw[ho]at ho';cases ho';rw[hd]at hd';cases hd'
  funext y
  rw[<- hf y,<- hf' y]
 subst em;refine⟨I.ok,I.os,I.bare,⟨λb o e n hb hx=>?_,λb o e n hb hx=>?_,I.base.free,λb o e hx=>?_,I.base.tups,I.base.frzs,I.base.tbls⟩,⟨_,hn',λj y v' e1 e2 e3=>?_⟩,λy c e=>?_,I.free,I.freeC,λp hp=>?_,λb ob e=>?_,by simpa using I.len⟩
 ·exact(oth b (neL b o e)).trans (I.base.keep b o e n hb hx)
 ·obtain⟨sl,q⟩:=I.base.slot b o e n hb hx;exact⟨sl,(oth b (neL b o e)).trans q⟩
 ·obtain⟨o',q⟩:=I.base.there b o e hx;exact⟨o',(oth b (neL b o e)).trans q⟩
 ·have hj:i≠j:=λz=>by
   subst z;rw[Χ]at e2;simp only[if_true]at e2;split at e2<;>cases e2
  rw[ϖ hj]at e2;obtain⟨u',r',q⟩:=hl j y v' e1 e2 e3;refine⟨u',r',?_⟩;rcases q with⟨k,e⟩|⟨k,c,e,z⟩
  ·refine .inl ⟨k,?_⟩;have:y≠x:=λe=>hj (lF hN hi (e▸e1));simp[this,e]
  ·exact .inr ⟨k,c,e,z.sameBut hs (I.cne y c e)⟩
 ·obtain⟨w',z⟩:=I.cell y c e;exact⟨w',z.sameBut hs (I.cne y c e)⟩
 ·obtain⟨e,n,ne,nf,d⟩:=I.pin p hp;exact⟨(oth p.1 ne).trans e,n,ne,nf,d⟩
 ·refine(I.hok b ob e).stay (λc w' hc q=>(oth c λz=>?_).trans q) (λ_ q=>q) λ_ _ q=>q;rcases hc with hc|hc
  ·rw[<- hc,z,I.free]at e;cases e
  ·rw[z,I.free]at hc;cases hc
theorem _root_.L2.Inv.adopt {o:HO} (I:Inv X pins O H s) (f:ua X pins H a) (ok:ObjOk X.prog X.w (upd H a o) s.heap a o):Inv X pins O (upd H a o) s:=by
 obtain⟨f1,f2,f3,f4,f5,f6⟩:=f;have up:∀b u,H b=some u->upd H a o b=some u:=λb u e=>by rw[am (λz=>by rw[z,f1]at e;cases e)];exact e
 refine⟨I.ok,I.os,I.bare,⟨I.base.keep,I.base.slot,λb u e n hx=>?_,I.base.there,λb xs e=>up _ _ (I.base.tups b xs e),λb u w e=>up _ _ (I.base.frzs b u w e),λb ps e=>?_⟩,I.loc,I.cell,?_,λx c e=>?_,λp hp=>?_,λb u e=>?_,I.len⟩
 ·rw[am (λz=>by rw[z,f2]at e;cases e)];exact I.base.free b u e n hx
 ·obtain⟨more,q⟩:=I.base.tbls b ps e;exact⟨more,up _ _ q⟩
 ·rw[am f3.symm];exact I.free
 ·rw[am (f5 x c e)];exact I.freeC x c e
 ·obtain⟨q1,q2,q3⟩:=I.pin p hp;exact⟨q1,by rw[am (f6 p hp)];exact q2,q3⟩
 ·by_cases hb:b=a
  ·subst hb;rw[ax]at e;cases e;exact ok
  ·rw[am hb]at e;exact(I.hok b u e).stay (λc w' _ q=>q) (λc q=>up _ _ q) λc xs q=>up _ _ q
end
structure XB (K:Frag) (mg:Str->Option Value) (S:List Nat) (CA:Addr):Prop where
 nm:mg "ArrowError"=some (.ref CA)
 be:kitOne K (.ref CA) (.type "BaseException")=some true
 up:∀c∈S,∀Cc,nsIn K mainGlobals (exN c)=some (some (.ref Cc))->kitOne K (.ref Cc) (.ref CA)=some true/\Cc≠CA
open PySem.W in
theorem nC {M:Model} {h:Heap} {t c:Value} {v:Bool} (X:K.In h) (e:kitOne K t c=some v) (ne:t≠c):Looks M h (typeOf c) (.type "type")/\Looks M h (isType c) true/\Looks M h (isSubtype t c) v:=by
 unfold kitOne at e;rw[if_neg (λz=>ne (beq_iff_eq.mp z))]at e;exact kit_cls X e
theorem yb {prog:Program} {w:World} {E:Value->Shared->Prop} {mg:Str->Option Value} {CA e:Addr} {Q:Bool->Shared->Prop} {ox:Obj} (X:K.In s.heap) (B:XB K mg S CA) (hc:c∈S) (hCc:nsIn K mainGlobals (exN c)=some (some (.ref Cc)))
  (I:InstAt s.heap e ox Cc none) (hq:Q true s):wpAny (model prog w) A (excMatches (.ref e) (.ref CA)) Q E s:=by
 obtain⟨L1,L2,L3⟩:=nC (M:=model prog w) X (B.up c hc Cc hCc).1 (λz=>(B.up c hc Cc hCc).2 (Value.ref.inj z));obtain⟨L4,L5,L6⟩:=nC (M:=model prog w) X B.be (λz=>by cases z);have L0:=I.type (M:=model prog w);have f:=tc_notTuple;obtain⟨h,g,d,t,os⟩:=s;unfold excMatches isInstance isExcClass
 repeat (any_goals (first|assumption|with_reducible refine L0.at ?_|with_reducible refine L1.at ?_|with_reducible refine L2.at ?_|with_reducible refine L3.at ?_|with_reducible refine L6.at ?_|wp_step))
structure RoomN (k:Nat) (A:Around):Prop where
 dp:A.depth+3*k+5<recursionLimit
 un:A.units+16*k+200<cLine
theorem RoomN.of (r:Room k A):RoomN k A:=⟨r.dp,r.un⟩
theorem RoomN.mark {h:Option Value} (r:RoomN k A):RoomN k (A.mark h):=⟨r.dp,r.un⟩
theorem RoomN.mono (r:RoomN k A) (h:j<=k):RoomN j A:=⟨by have:=r.dp;omega,by have:=r.un;omega⟩
theorem RoomN.deeper (r:RoomN (k+1) A) (env:Env):RoomN k (A.deeper env) :=
 ⟨by have:=r.dp;show A.depth+1+3*k+5<_;omega,by have:=r.un;show A.units+3+16*k+200<_;omega⟩
theorem ss (r:RoomN k A):A.units+9<cLine:=by have:=r.un;omega
def cxN (P:Program) (w:World) (K:Frag) (mg:Str->Option Value) (base:Heap) (N:List Str) (qual:Str) (scope:Scope) (f:Addr) (cd:Value) (A:Around) (outer:List Env) (s:Shared) (H:Hp):Cx :=
 {fh CX0 P w K mg base N qual scope f cd A outer s H E0 with calm:=false,xe:=λ_ _=>False }
structure GT (P:Program) (w:World) (K:Frag) (mg:Str->Option Value) (base:Heap) (k:Nat) (f:Addr) (fd:FuncData) (ps:List Str) (sp:Sp):Prop where
 len:∀vs H Q E,sp vs H Q E->vs.length=ps.length
 run:∀(A:Around) (outer:List Env) (s:Shared) (H:Hp) (args:Args) (us:List Value) (vs:List V) (Q:VK) (E:XK),RoomN k A->Env0 P w K mg base A outer s H->BindsTo s fd args (ps.zip us)->Vals vs us->sp vs H Q E ->
  codeAny (model P w) A (.call (.ref f) args) (CR CX0 outer P w H s Q E) s
section
variable {P:Program} {w:World} {K:Frag} {mg:Str->Option Value} {base:Heap} {C:Addr}
theorem sW {scope:Scope} {cd:Value} {outer:List Env} {s1:Shared} {us:List Value}
  (S:cA N ps scope) (e0:Env0 P w K mg base A outer s H) (hl:vs.length=ps.length) (r:Vals vs us)
  (x:InCallC s s.heap.objs.size (bindL (envOfC qual scope s.heap.objs.size f cd).kindOf (ps.zip us) λ_=>none) (cellsFrom (s.heap.objs.size+1) scope.names []) (bindC (envOfC qual scope s.heap.objs.size f cd).kindOf (ps.zip us) λ_=>none) s1) :
  Inv (cxN P w K mg base N qual scope f cd A outer s H) [] (L2.start N vs) H s1:=by
 have e1:Env0 P w K mg base { A with handled:=none } outer s H:=⟨e0.frames,e0.mod,e0.bs,e0.bsz,e0.funs,e0.frf,e0.hok,e0.bare⟩;have I:=nG (CX:=CX0) (E:=E0) S (show({ A with handled:=none }:Around).handled=none from rfl) e1 hl r x;exact⟨⟨I.ok.mod,I.ok.kind,I.ok.glob,I.ok.blt,I.ok.above,I.ok.inj,I.ok.has,I.ok.cab,λz=>(by cases z),Around.frames_deeper e0.frames,I.ok.stk,I.ok.exf,I.ok.bs,I.ok.bsz,I.ok.noex,I.ok.exfs,I.ok.funs,I.ok.frf⟩,I.os,I.bare,I.base,I.loc,I.cell,I.free,I.freeC,I.pin,I.hok,I.len⟩
theorem BH {den:Rho->R Out} (F:Fun K x qual st f fd) (S:cA N ps (ak st))
  (hb:∀(cdv:Value) (A:Around) (outer:List Env) (s:Shared) (H:Hp),RoomN k (A.deeper (envOfC qual (ak st) s.heap.objs.size f cdv)) ->
   SDs C (cxN P w K mg base N qual (ak st) f cdv A outer s H) (bj st) den) :
  GT P w K mg base (k+1) f fd ps (spD K C ps.length λds=>fin (den (st0 N ds))):=by
 obtain⟨oc,od,kV,doc,pm,an,cdv,ct,osl,rfl,lk,hcd⟩:=F.ex;refine⟨λvs H Q E h=>h.1,λA outer s H args us vs Q E hr e0 hbi r hsp=>?_⟩;have hl:vs.length=ps.length:=hsp.1;have KX:K.In s.heap:=e0.mod.kin.keeps λb o e=>(e0.bs b o e).1;have lim:s.heap.NoLimit:=e0.mod.nolimit.keeps λb o e=>(e0.bs b o e).1;have hkind:∀y∈ps.zip us,(ak st).names.lookup y.1=some .local\/((ak st).names.lookup y.1=some .cell/\((cellsFrom (s.heap.objs.size+1) (ak st).names []).lookup y.1).isSome=true):=λ⟨n,v⟩ hy=>by
  rcases S.par n (List.of_mem_zip hy).1 with q|q
  ·exact .inl q
  ·exact .inr ⟨q,cellsFrom_some _ _ _ (.inl q)⟩
 refine codeAny_call_function (by have:=hr.dp;omega) (KX _ _ lk) rfl S.co S.gen rfl (PySem.W.codeRec_of KX hcd) (hbi _ _ _ _ ?_);refine wpAny_newFunctionEnv_cells S.kind hkind λenv he s1 x=>?_;subst he;refine⟨lim.keeps x.toInCall.keep,codeAny_func ?_⟩;have I:=sW (cd:=cdv) S e0 hl r x;have hq:tsD C (cxN P w K mg base N qual (ak st) f cdv A outer s H) den { nx:=λ_ H'=>Q .non H',rt:=Q } (L2.start N vs) H:=by
  obtain⟨_,ds,h,q⟩:=hsp;refine⟨st0 N ds,H,hW h,?_⟩;dsimp only at q;cases e:den (st0 N ds)with
  | val o =>
   rw[e]at q;cases o with
   | nx ρ'=>exact λσ' H' ⟨_,_,r⟩=>q _ H' (r.keep.trans msk_sub) .non
   | rt d=>exact λv H' s' h'=>q v H' s' h'
   | bk ρ'=>exact q.elim
   | ct ρ'=>exact q.elim
  | exc c=>rw[e]at q;exact q.elim
  | bad=>rw[e]at q;exact q.elim
 refine wpAny_mono (hb cdv A outer s H (hr.deeper _) [] s1 (L2.start N vs) H _ I hq) (λfl s' hs=>?_) λe s' hs=>hs.elim;have fin:∀{σ':St} {H':Hp} {v:V} {u:Value},Inv (cxN P w K mg base N qual (ak st) f cdv A outer s H) [] σ' H' s'->RelV v u->Q v H'->CE outer P w H s Q u s' :=
  λ{σ' H' v u} J rv q=>⟨v,H',J.os,J.bare,J.base,J.hok,rv,q⟩
 cases fl with
 | ret u =>
  obtain⟨v,σ',H',J,rv,q⟩:=hs;exact fin J rv q
 | next =>
  obtain⟨σ',H',J,q⟩:=hs;exact fin (v:=V.non) (u:=Value.none) J rfl q
 | brk =>
  obtain⟨_,_,_,q⟩:=hs;exact False.elim q
 | cont =>
  obtain⟨_,_,_,q⟩:=hs;exact False.elim q
end
def FnN (P:Program) (w:World) (K:Frag) (mg:Str->Option Value) (base:Heap) (C:Addr) (k:Nat) (x:Str) (n:Nat) (den:List D->R D):Prop :=
 ∃f fd ps,GT P w K mg base k f fd ps (spD K C n den)/\mg x=some (.ref f)/\keepIn K (.ref f)=true/\Binds K fd ps []
section
variable {C:Addr} {X:Cx}
theorem EU {e:Expr} (F:FnN X.prog X.w X.K X.mg X.base C k x n den) (hr:RoomN k X.A) (hg:Gl X x) (ha:AD C X (e::es) Fa)
  (hdb:(x==("__debug__":Str))=false:=by decide) (he:starEach (e::es) X.env=(false,eval e X.env)::starEach es X.env:=by rfl) (hpl:(backTo pos (starEach es X.env)).any (·.1)=false:=by rfl) :
  ED C X (.Call (.Name x p) (e::es) [] pos) (cal n den Fa):=by
 obtain⟨f,fd,ps,hF,hm,hk,hb⟩:=F;rintro pins s O H Q I ⟨U,⟨H0,r0⟩,q⟩;refine wpAny_Call_Name_kw (cP I hg hm ?_ hdb);refine callWith_K (h₀:=X.base) I.ok.mod.kin hk (thn (ha pos pins s O H (λvs H1=>∃ds d,ds.length=n/\Same H H1/\eW C X U O H1 vs ds/\den ds=.val d/\∀v H',Same H H'->bS C X U O H' v d->Q v H') I
  ⟨U,⟨H0,r0⟩,bQ (P:=λz H=>pV X (bS C X U O) z O H Q) (λ_ h=>h) (λh=>h) q λds vs H1 s1 h1 q1=>?_⟩) λus s1 ⟨vs,H1,I1,rv,ds,d,hl,s1',h1,e1,q1⟩=>⟨I1.kIn,?_⟩) he hpl
 ·split at q1
  ·rename_i hl;cases e1:den ds with
   | val d=>rw[e1]at q1;exact⟨ds,d,hl,s1,h1,e1,q1⟩
   | exc c=>rw[e1]at q1;exact q1.elim
   | bad=>rw[e1]at q1;exact q1.elim
  ·exact q1.elim
 ·have r1:=r0.mono s1';have Z:=Rel.hid r1 I1;have J:=I1.hide Z;have hsp:spD X.K C n den vs (cut (br U O) H1) (λv M'=>Same (cut (br U O) H1) M'/\Has X.K C M' v d) E0:=by
   refine⟨h1.len.trans hl,ds,by rw[<- cu r0.bnd];exact h1,?_⟩;rw[e1];exact λv H' s2 h2=>⟨s2,h2⟩
  have hlen:(us++[]).length=ps.length:=by rw[Ϫ,<- rv.length];exact hF.len _ _ _ _ hsp
  have hbi:=hb s1 us J.kIn hlen;rw[Ϫ]at hbi;refine wpAny_call (codeAny_mono (hF.run X.A X.stack s1 _ ⟨us,[]⟩ us vs _ E0 hr J.env0 hbi rv hsp) λr s2 hq=>?_);cases r with
  | error e=>exact hq.elim
  | ok fl =>
   cases fl with
   | ret u =>
    obtain⟨v,M',J2,ru,sm,hv⟩:=J.after hq;obtain⟨I2,mz⟩:=I1.show' Z J2;have sj:Same H1 (jn (br U O) H1 M'):=λb o eb=>by
     by_cases hb:b∈br U O
     ·rw[ge hb];exact eb
     ·rw[a_ hb];exact sm b o (cut_some.mpr ⟨hb,eb⟩)
    have em:msk U O (jn (br U O) H1 M')=M':=by
     rw[cu r0.bnd]
     funext b
     by_cases hb:b∈br U O
     ·rw[dm hb,mz b hb]
     ·unfold cut;rw[if_neg hb,a_ hb]
    exact⟨v,_,I2,ru,q1 v _ (s1'.trans sj) (by show Has _ _ (msk U O _) v d;rw[em];exact hv)⟩
   | next=>exact False.elim hq
   | brk=>exact False.elim hq
   | cont=>exact False.elim hq
end
structure KTy (K:Frag) (T:String):Prop where
 i:kitOne K (.type "int") (.type T)=some (decide (T="int"))
 b:kitOne K (.type "bool") (.type T)=some (decide (T="int")||decide (T="bool"))
 n:kitOne K (.type "NoneType") (.type T)=some false
 l:kitOne K (.type "list") (.type T)=some (decide (T="list"))
 t:kitOne K (.type "tuple") (.type T)=some (decide (T="tuple"))
def iP (T:String):D->R D
 | .int _=>.val (.bl (decide (T="int")))
 | .bl _=>.val (.bl (decide (T="int")||decide (T="bool")))
 | .non=>.val (.bl false)
 | .lst _=>.val (.bl (decide (T="list")))
 | .tup _=>.val (.bl (decide (T="tuple")))
 | _=>.bad
section
variable {C:Addr} {X:Cx}
theorem pj {e:Expr} {T:Str} {T':String} (KT:KTy X.K T') (hg:Gl X "isinstance") (hm:X.mg "isinstance"=none) (hgT:Gl X T) (hmT:X.mg T=none) (hbT:bootBuiltins T=some (.type T')) (he:EB C X e F) (hst:starEach [e,.Name T p2] X.env=(false,eval e X.env)::starEach [.Name T p2] X.env)
    (hn:T ≠ "__name__":=by decide) (hdb:(T==("__debug__":Str))=false:=by decide):ED C X (.Call (.Name "isinstance" p) [e,.Name T p2] [] pos) (una (iP T') F) :=
  ao (xL hg hm hgT hmT hbT he hst hn hdb) λO H Q yy1=>by
   obtain⟨U,r0,q⟩:=yy1;exact⟨U,r0,au (P:=λz H=>pV X (bS C X U O) z O H Q) (λ_ h=>h) (λh=>h) q λy v H1 s1 h1 q1=>by
    have go:∀{t:Value} {b:Bool},jY X.K H1 v t->kitOne X.K t (.type T')=some b->(∀v H',Same H H'->bS C X U O H' v (.bl b)->Q v H')->∃b,(∀(pins:List (Addr×Obj)) (s:Shared) (u:Value) (Q':Value->Shared->Prop) (E':Value->Shared->Prop),Inv X pins O H1 s->RelV v u->(∀tk,Q' (.bool b) { s with toks:=tk })->wpAny (model X.prog X.w) X.A (call (.builtin "isinstance") [u,.type T']) Q' E' s)/\Q (.bl b) H1 :=
      λ{t b} ty ek kq=>⟨b,λpins s u Q' E' I rv hQ=>vX I rv ty ek hQ,kq _ H1 s1 (.bl b)⟩
    cases y with
    | int i=>obtain rfl:=h1.int;exact go (.int i) KT.i q1
    | bl i=>obtain rfl:=h1.bl;exact go (.bl i) KT.b q1
    | non =>
      have hv:v=.non:=by cases h1 with|cl h=>cases h;rfl
      subst hv;exact go .non KT.n q1
    | lst xs =>
      obtain⟨a,vs,rfl,e1,_⟩:=h1.lst msk_sub;exact go (.lst e1) KT.l q1
    | tup xs =>
      obtain⟨a,vs,rfl,e1,_⟩:=h1.tup msk_sub;exact go (.tup e1) KT.t q1
    | _=>exact q1.elim⟩
end
def o_:D->R D
 | .lst xs=>match fi xs with
  | some bs=>.val (.bl (bs.all id))
  | none=>.bad
 | _=>.bad
def zp:List D->List D->List D
 | x::xs,y::ys=>.tup [x,y]::zp xs ys
 | _,_=>[]
def Cp:List D->R (List D)
 | [.lst xs,.lst ys]=>.val (zp xs ys)
 | _=>.bad
def jb (F:Rho->R (List D)):Rho->R (List D):=λU=>(F U).bind Cp
def yd:List D->R (List D)
 | [.int j]=>if -(2 ^ 62)<=j/\j<=100000 then .val (rng 0 j.toNat)else .bad
 | _=>.bad
def jS (F:Rho->R (List D)):Rho->R (List D):=λU=>(F U).bind yd
variable {ws:List V}
section
variable {C:Addr} {X:Cx}
def Hm:List V->Hp->VK->Prop:=λvs H Q=>∃(l:Addr) (bs:List Bool),vs=[.ref l]/\H l=some (.lst (bs.map V.bl))/\Q (.bl (bs.all id)) H
theorem wo (bs:List Bool):(List.range bs.length).all (λi=>bs.getD i false)=bs.all id:=by
 rw[Bool.eq_iff_iff,ύ,ύ];constructor
 ·intro h b hb;obtain⟨i,hi,rfl⟩:=ϲ.mp hb;have:=h i (ό.mpr hi);rw[ϊ,Ϗ hi]at this;exact this
 ·intro h i hi;have hi:=ό.mp hi;rw[ϊ,Ϗ hi];exact h _ (Ϙ hi)
theorem zk (hc:X.calm=true):hV X (.builtin "all") Hm:=by
 intro pins s O H xs us Q I rv h;obtain⟨l,bs,rfl,e,q⟩:=h;obtain⟨u,rfl,ru⟩:=lj rv;obtain rfl:=(show u=Value.ref l from ru);obtain⟨z,its,m,r,hl,eo⟩:=I.lstM e;obtain rfl:=fL r;have hL:s.heap.IsList l (bs.map Value.bool).toArray:=⟨_,eo,rfl,m,rfl⟩;have hne:l≠s.heap.objs.size:=ϭ (ϔ eo);have W:=Walks.list (prog:=X.prog) (w:=X.w) (A:=X.A.in1) (I.ok.hd hc) s.heap.objs.size l hne (bs.map Value.bool).toArray;refine call_all_walk (wpAny_pyIter_list hL ⟨_,_,_,_,_,_,λi=>bs.getD i false,rfl,W,⟨⟨_,ϧ _ rfl,rfl,rfl⟩,hL.push _⟩,λi v s2 Q2 E2 hP hQ=>?_,λh' tk hk=>?_⟩)
 ·have hP':(bs.map Value.bool)[i]?=some v:=by simpa using hP
  rw[ϥ]at hP';cases z2:bs[i]? with
  | none=>rw[z2]at hP';cases hP'
  | some b =>
   rw[z2]at hP';cases hP';have hb:bs.getD i false=b:=by rw[ϊ,z2];rfl
   dsimp only at hQ;rw[hb]at hQ;exact wpAny_truthy_bool hQ
 ·have hz:(bs.map Value.bool).toArray.size=bs.length:=by simp
  rw[hz,wo];refine⟨.bl (bs.all id),H,I.kept λb o eo2=>hk b o (λhm=>?_) (ϒ _ eo2),rfl,q⟩;have:=ϔ eo2;rw[ϓ.mp hm]at this;exact Ϻ _ this
theorem EY {e:Expr} (hc:X.calm=true) (hg:Gl X "all") (hm:X.mg "all"=none) (hst:starEach [e] X.env=(false,eval e X.env)::starEach [] X.env) (he:EB C X e F) :
    ED C X (.Call (.Name "all" p) [e] [] pos) (una o_ F) :=
  ao (dW (zk hc) hg hm boot_all (aQ he bH hst) (he:=hst) (hpl:=dJ)) λO H Q yy0=>by
   obtain⟨U,r0,q⟩:=yy0;exact⟨U,r0,au (P:=λz H=>pV X (bS C X U O) z O H Q) (λ_ h=>h) (λh=>h) q λy v H1 s1 h1 q1=>by
    cases y with
    | lst xs =>
      unfold o_ at q1;dsimp only at q1;cases eb:fi xs with
      | none=>rw[eb]at q1;exact q1.elim
      | some bs =>
        rw[eb]at q1;obtain⟨a,vs,rfl,e1,h2⟩:=h1.lst msk_sub;obtain rfl:=fS eb h2;exact⟨a,bs,rfl,e1,q1 _ H1 s1 (.bl _)⟩
    | _=>exact q1.elim⟩
def Itz (K:Frag) (a b:Addr):It :=
 ⟨λi H=>∃xs ys x y,SqL K H a xs/\SqL K H b ys/\xs[i]?=some x/\ys[i]?=some y,λi H v H'=>∃p x y,H p=none/\v=.ref p/\H'=upd H p (.tup [x,y])/\(∀xs,SqL K H a xs->xs[i]?=some x)/\∀ys,SqL K H b ys->ys[i]?=some y,λi H=>∃xs ys,SqL K H a xs/\SqL K H b ys/\(xs.length<=i\/ys.length<=i)⟩
theorem wH {P:Program} {w:World} (a b z TI TO i1 i2:Addr) (D:ZipApart z TI TO i1 i2 a b) :
  tP P w K (.Tuple es k pos) (Itz K a b) [z,TI,TO,i1,i2] z (λi h=>IsZip h z TI TO .none/\IsPair h TI (.ref i1) (.ref i2)/\(∃x y,IsPair h TO x y)/\h.IsListIter i1 a i/\h.IsListIter i2 b i) where
 mem:=by simp
 obj:=λi h st c hc=>by
  obtain⟨hz,hTI,⟨x,y,hTO⟩,⟨o1,e1,c1,d1⟩,o2,e2,c2,d2⟩:=st;have hc:c=z\/c=TI\/c=TO\/c=i1\/c=i2:=by simpa using hc
  rcases hc with rfl|rfl|rfl|rfl|rfl
  ·exact⟨_,hz,λv q=>by have q':Data.fields _=Data.cell v:=q;cases q'⟩
  ·exact⟨_,hTI,λv q=>by have q':Data.seq _ _=Data.cell v:=q;cases q'⟩
  ·exact⟨_,hTO,λv q=>by have q':Data.seq _ _=Data.cell v:=q;cases q'⟩
  ·exact⟨o1,e1,λv q=>by rw[d1]at q;cases q⟩
  ·exact⟨o2,e2,λv q=>by rw[d2]at q;cases q⟩
 keep:=λi h h' st kk=>by
  obtain⟨hz,hTI,⟨x,y,hTO⟩,h1,h2⟩:=st;exact⟨kk z (by simp) _ hz,kk TI (by simp) _ hTI,⟨x,y,kk TO (by simp) _ hTO⟩,h1.at λo q=>kk i1 (by simp) o q,h2.at λo q=>kk i2 (by simp) o q⟩
 item:=by
  intro X hP hw hK hc i pins s O H E I hf st hg;subst hP hw hK;obtain⟨hz,hTI,⟨x0,y0,hTO⟩,h1,h2⟩:=st;obtain⟨xs,ys,x,y,hq1,hq2,hx,hy⟩:=hg;obtain⟨its1,rv1,p1,hz1⟩:=I.list hq1;obtain⟨its2,rv2,p2,hz2⟩:=I.list hq2;obtain⟨u1,hu1,ru1⟩:=rv1.get hx;obtain⟨u2,hu2,ru2⟩:=rv2.get hy;refine wpAny_pyNext_zip_item D hz hTI hTO h1 h2 p1.isList p2.isList (x:=u1) (y:=u2) (by simpa using hu1) (by simpa using hu2) λh' a1 a2 a3 a4 a5 a6 hk=>?_;refine⟨_,rfl,wpAny_letOwnedTupleGo_zip a1 λh'' hz'' sb=>?_⟩;have fr:=I.fresh;have hk2:∀c o,c≠z->c≠TO->c≠i1->c≠i2->s.heap.get? c=some o->h''.get? c=some o:=λc o n1 n2 n3 n4 eo=>(sb.2 c n1).trans (hk c o n1 n2 n3 n4 eo);have hse:s.heap.objs.size≠z:=Nat.ne_of_gt (ϔ hz);have ht2:h''.get? s.heap.objs.size=some { cls:=.type "tuple",data:=.seq #[u1,u2] }:=(sb.2 _ hse).trans a5;have ne':∀c,H c≠none->c≠z/\c≠TO/\c≠i1/\c≠i2:=λc hb=>⟨λq=>hb (by rw[q];exact(hf z (by simp)).1),λq=>hb (by rw[q];exact(hf TO (by simp)).1),λq=>hb (by rw[q];exact(hf i1 (by simp)).1),λq=>hb (by rw[q];exact(hf i2 (by simp)).1)⟩;have out:∀c,c∉[z,TO,i1,i2]->c≠z/\c≠TO/\c≠i1/\c≠i2:=λc h=>⟨λq=>h (by simp[q]),λq=>h (by simp[q]),λq=>h (by simp[q]),λq=>h (by simp[q])⟩;have hk3:∀c o,c∉[z,TO,i1,i2]->s.heap.get? c=some o->h''.get? c=some o:=λc o h eo=>by
   obtain⟨n1,n2,n3,n4⟩:=out c h;exact hk2 c o n1 n2 n3 n4 eo
  have I1:Inv X pins O (upd H s.heap.objs.size (.tup [x,y])) { s with heap:=h'' }:=by
   refine I.call' (s':={ s with heap:=h'' }) (ch:=[z,TO,i1,i2]) rfl ⟨λb o q n hfs hx=>hk3 b o hx q,λb o q n hfs hx=>⟨o.slots,hk3 b o hx q⟩,
    λb o q n hx=>?_,λb o q hx=>⟨o,hk3 b o hx q⟩,λb ys q=>?_,λb o v q=>?_,λb ps q=>?_⟩ (λb o q=>?_) I.bare λb hb=>?_
   ·rw[am (ϭ (ϔ q))];exact n
   ·rw[am (aD q fr)];exact q
   ·rw[am (aD q fr)];exact q
   ·exact⟨#[],by rw[am (aD q fr),q];simp⟩
   ·by_cases hb:b=s.heap.objs.size
    ·subst hb;rw[ax]at q;cases q;exact⟨by show 2<=sizeLine;decide,[u1,u2],.cons ru1 (.cons ru2 .nil),⟨_,ht2,rfl,_,rfl⟩⟩
    ·rw[am hb]at q;refine(I.hok b o q).stay (λc v hc qv=>?_) (λc qc=>by rw[am (aD qc fr)];exact qc) λc ys qc=>by rw[am (aD qc fr)];exact qc
     have hcn:H c≠none:=by
      rcases hc with q|q
      ·rw[q,‹H b=some o›];simp
      ·rw[q];simp
     obtain⟨n1,n2,n3,n4⟩:=ne' c hcn;exact hk2 c v n1 n2 n3 n4 qv
   ·have hb':b∈[z,TI,TO,i1,i2]:=by
     have hb:b=z\/b=TO\/b=i1\/b=i2:=by simpa using hb
     rcases hb with q|q|q|q<;>simp[q]
    obtain⟨g0,g1,g2,g3,g4,g5⟩:=hf b hb';exact⟨g3,g1,g4,g5⟩
  have lt1:i1<s.heap.objs.size:=by obtain⟨o,eo,_⟩:=h1;exact ϔ eo
  have lt2:i2<s.heap.objs.size:=by obtain⟨o,eo,_⟩:=h2;exact ϔ eo
  refine⟨.ref s.heap.objs.size,_,I1,rfl,⟨_,x,y,fr,rfl,rfl,λzs hz=>by rw[I.list_inj hz hq1];exact hx,λzs hz=>by rw[I.list_inj hz hq2];exact hy⟩,⟨hz'',(sb.2 _ D.TIz).trans (hk _ _ D.TIz D.TITO D.TIi1 D.TIi2 hTI),⟨_,_,(sb.2 _ D.TOz).trans a2⟩,a3.at λo q=>(sb.2 _ D.i1z).trans q,a4.at λo q=>(sb.2 _ D.i2z).trans q⟩,λc hc=>?_⟩;have hb':=(hf c hc).1;have hlt:c<s.heap.objs.size:=by
   have hc:c=z\/c=TI\/c=TO\/c=i1\/c=i2:=by simpa using hc
   rcases hc with rfl|rfl|rfl|rfl|rfl
   ·exact ϔ hz
   ·exact ϔ hTI
   ·exact ϔ hTO
   ·exact lt1
   ·exact lt2
  rw[am (ϭ hlt)];exact hb'
 done:=by
  intro X hP hw hK hc i pins s O H E I hf st hg;subst hP hw hK;obtain⟨hz,hTI,⟨x0,y0,hTO⟩,h1,h2⟩:=st;obtain⟨xs,ys,hq1,hq2,hx⟩:=hg;obtain⟨its1,rv1,p1,hz1⟩:=I.list hq1;obtain⟨its2,rv2,p2,hz2⟩:=I.list hq2;have l1:=rv1.length;have l2:=rv2.length;refine wpAny_pyNext_zip_end (I.ok.hd hc) D hz hTI hTO h1 h2 p1.isList p2.isList ?_ λh' hk=>⟨rfl,?_⟩
  ·rcases hx with h|h
   ·exact .inl (by simp;omega)
   ·exact .inr (by simp;omega)
  ·have out:∀c,c∉[z,TO,i1,i2]->c≠z/\c≠TO/\c≠i1/\c≠i2:=λc h=>⟨λq=>h (by simp[q]),λq=>h (by simp[q]),λq=>h (by simp[q]),λq=>h (by simp[q])⟩;have hk3:∀c o,c∉[z,TO,i1,i2]->s.heap.get? c=some o->h'.get? c=some o:=λc o h eo=>by
    obtain⟨n1,n2,n3,n4⟩:=out c h;exact hk c o n1 n2 n3 n4 eo
   have ne':∀c,H c≠none->c≠z/\c≠TO/\c≠i1/\c≠i2:=λc hb=>⟨λq=>hb (by rw[q];exact(hf z (by simp)).1),λq=>hb (by rw[q];exact(hf TO (by simp)).1),λq=>hb (by rw[q];exact(hf i1 (by simp)).1),λq=>hb (by rw[q];exact(hf i2 (by simp)).1)⟩;refine I.call' (s':={ s with heap:=h' }) (ch:=[z,TO,i1,i2]) rfl ⟨λb o q n hfs hx=>hk3 b o hx q,λb o q n hfs hx=>⟨o.slots,hk3 b o hx q⟩,
    λb o q n hx=>n,λb o q hx=>⟨o,hk3 b o hx q⟩,λb ys q=>q,λb o v q=>q,λb ps q=>⟨#[],by rw[q];simp⟩⟩ (λb o q=>?_) I.bare λb hb=>?_
   ·refine(I.hok b o q).stay (λc v hc qv=>?_) (λc qc=>qc) λc ys qc=>qc;have hcn:H c≠none:=by
     rcases hc with q|q
     ·rw[q,‹H b=some o›];simp
     ·rw[q];simp
    obtain⟨n1,n2,n3,n4⟩:=ne' c hcn;exact hk c v n1 n2 n3 n4 qv
   ·have hb':b∈[z,TI,TO,i1,i2]:=by
     have hb:b=z\/b=TO\/b=i1\/b=i2:=by simpa using hb
     rcases hb with q|q|q|q<;>simp[q]
    obtain⟨g0,g1,g2,g3,g4,g5⟩:=hf b hb';exact⟨g3,g1,g4,g5⟩
 self:=λ_ _ _ _ _ st h=>wpAny_pyIter_zip st.1 h
theorem wA:∀{xs ys:List D} {i:Nat} {d:D},(zp xs ys)[i]?=some d->∃x y,xs[i]?=some x/\ys[i]?=some y/\d=.tup [x,y]
 | [],_,_,_,e=>by unfold zp at e;simp at e
 | _::_,[],_,_,e=>by unfold zp at e;simp at e
 | x::xs,y::ys,0,d,e=>by
  unfold zp at e;rw[π]at e;cases e;exact⟨x,y,rfl,rfl,rfl⟩
 | x::xs,y::ys,i+1,d,e=>by
  unfold zp at e;rw[Β]at e;obtain⟨x',y',h1,h2,h3⟩:=wA e;exact⟨x',y',by rw[Β];exact h1,by rw[Β];exact h2,h3⟩
theorem wB:∀(xs ys:List D),xs.length<=(zp xs ys).length\/ys.length<=(zp xs ys).length
 | [],_=>.inl (Ρ _)
 | _::_,[]=>.inr (Ρ _)
 | x::xs,y::ys=>by
  unfold zp;rw[ϫ,ϫ,ϫ];rcases wB xs ys with h|h
  ·exact .inl (Nat.succ_le_succ h)
  ·exact .inr (Nat.succ_le_succ h)
theorem wD {ys:List D} {M:Hp} (e:M a=some (.lst vs)) (h:HasL K C M vs xs) (e':M b=some (.lst ws)) (h':HasL K C M ws ys):pW K C (Itz K a b) (zp xs ys) M where
 go:=λi d H2 s hy=>by
  obtain⟨x,y,hx,hy',rfl⟩:=wA hy;obtain⟨v,e1,h1⟩:=h.get hx;obtain⟨v',e1',h1'⟩:=h'.get hy';refine⟨⟨vs,ws,v,v',SqL.of (s _ _ e),SqL.of (s _ _ e'),e1,e1'⟩,λu H3 q=>?_⟩;obtain⟨p,x',y',hp,rfl,rfl,q1,q2⟩:=q;have e2:=q1 vs (SqL.of (s _ _ e));rw[e1]at e2;cases e2;have e3:=q2 ws (SqL.of (s _ _ e'));rw[e1']at e3;cases e3;refine⟨aq hp,λU O hown m=>?_⟩;have em:msk U O (upd H2 p (.tup [v,v'])) p=some (.tup [v,v']):=msk_some.mpr ⟨λz=>hown p z hp,ax⟩;exact .tup em (.cons (h1.mono (m.trans (az (aq hp)))) (.cons (h1'.mono (m.trans (az (aq hp)))) .nil))
 stop:=λH2 s=>⟨vs,ws,SqL.of (s _ _ e),SqL.of (s _ _ e'),by rw[h.len,h'.len];exact wB xs ys⟩
theorem Dz {tp:Pos} {l m:Expr} {ta:TA} (hg:Gl X "zip") (hm:X.mg "zip"=none) (ha:PA X [l,m] ta) (he:starEach [l,m] X.env=(false,eval l X.env)::starEach [m] X.env) (hpl:(backTo pos (starEach [m] X.env)).any (·.1)=false) :
  PI X (.Tuple es k tp) (.Call (.Name "zip" p) [l,m] [] pos) (λO H R=>ta O H λvs H1=>∃a b xs ys,vs=[.ref a,.ref b]/\SqL X.K H1 a xs/\SqL X.K H1 b ys/\R (Itz X.K a b) H1):=by
 intro pins s O H R I h;refine Call_ (gF I hg hm boot_zip (Ο (thn (ha pos pins s O H _ I h) λus s1 zz0=>?_) he hpl));obtain⟨vs,H1,I1,r1,q1⟩:=zz0;obtain⟨a,b,xs,ys,e,hq,hq',q⟩:=q1;subst e;cases r1 with
 | cons r rr =>
  cases rr with
  | cons r' rr =>
   cases rr;cases r;cases r';obtain⟨its,rv,pl,hz⟩:=I1.list hq;obtain⟨its',rv',pl',hz'⟩:=I1.list hq';have la:a<s1.heap.objs.size:=by obtain⟨_,e,_⟩:=pl.isList;exact ϔ e
   have lb:b<s1.heap.objs.size:=by obtain⟨_,e,_⟩:=pl'.isList;exact ϔ e
   refine call_zip_2 pl.isList pl'.isList λh' iz iTI iTO i1 i2 hsz kp=>?_;have I2:Inv X pins O H1 { s1 with heap:=h' }:=I1.kept (t':=s1.toks) kp;refine wpAny_pyIter_zip iz ?_;refine⟨s1.heap.objs.size+4,[s1.heap.objs.size+4,s1.heap.objs.size+2,s1.heap.objs.size+3,s1.heap.objs.size,s1.heap.objs.size+1],_,_,H1,rfl,I2,wH a b _ _ _ _ _ (zipApart_new la lb),⟨iz,iTI,⟨_,_,iTO⟩,i1,i2⟩,λc hc=>?_,q⟩;have hle:s1.heap.objs.size<=c:=by
    have hc:c=s1.heap.objs.size+4\/c=s1.heap.objs.size+2\/c=s1.heap.objs.size+3\/c=s1.heap.objs.size\/c=s1.heap.objs.size+1:=by simpa using hc
    rcases hc with z|z|z|z|z<;>rw[z]
    ·exact η _ _
    ·exact η _ _
    ·exact η _ _
    ·exact ϗ _
    ·exact η _ _
   exact I1.fpOk hle (I1.hok.fresh hle)
theorem Eh {tp:Pos} {l m:Expr} {F:Rho->R (List D)} (hg:Gl X "zip") (hm:X.mg "zip"=none) (ha:AD C X [l,m] F) (he:starEach [l,m] X.env=(false,eval l X.env)::starEach [m] X.env) (hpl:(backTo pos (starEach [m] X.env)).any (·.1)=false) :
    ID C X (.Tuple es k tp) (.Call (.Name "zip" p) [l,m] [] pos) (jb F):=kS (Dz hg hm ha he hpl) λO H R yy0=>by
     obtain⟨U,⟨H0,r⟩,q⟩:=yy0;refine⟨U,⟨H0,r⟩,?_⟩;unfold jb at q;cases e:F U with
     | val ds =>
       rw[e]at q;intro vs H1 s1 h1;dsimp only[DL.R.bind]at q;cases h1 with
       | nil=>exact q.elim
       | @cons v1 d1 vs1 ds1 a1 h1 =>
         cases h1 with
         | nil=>cases d1<;>exact q.elim
         | @cons v2 d2 vs2 ds2 a2 h1 =>
           cases h1 with
           | cons _ _=>cases d1<;>cases d2<;>exact q.elim
           | nil =>
             cases a1 with
             | lst e1 g1 =>
               cases a2 with
               | lst e2 g2=>exact⟨_,_,_,_,rfl,SqL.of (msk_sub _ _ e1),SqL.of (msk_sub _ _ e2),q _ H1 s1 (wD e1 g1 e2 g2)⟩
               | _=>exact q.elim
             | _=>cases d2<;>exact q.elim
     | exc c=>rw[e]at q;exact q
     | bad=>rw[e]at q;exact q
def Dk:List V->Hp->VK->Prop:=λxs H Q=>∃r j,xs=[.ref r]/\H r=some (.rng 0 j)/\-(2 ^ 62)<=j/\j<=100000/\∀p,H p=none->Q (.ref p) (upd H p (.lst ((List.range j.toNat).map λ(k:Nat)=>V.int (0+(k:Int)))))
theorem rz (hc:X.calm=true):hV X (.type "list") Dk:=by
 intro pins s O H xs us Q I r h;obtain⟨ra,j,rfl,hq,hj0,hj,q⟩:=h;obtain⟨u,rfl,rx⟩:=lj r;cases rx;obtain⟨t,u',v',e⟩:=I.hok ra _ hq;have hn:Builtin.Range.rangeSize 0 j 1=(j.toNat:Nat):=by rw[rangeSize_one];split<;>omega
 have hsm:Builtin.Range.small 0 j 1=true:=small_one (by decide) (by decide) hj0 (by omega);refine call_list_range (n:=j.toNat) (I.ok.hd hc) e hsm hn (by omega) λh' tk acc c hk hacc hit=>?_;have hv:Vals ((List.range j.toNat).map λ(k:Nat)=>V.int (0+(k:Int))) acc.toList:=li (by simpa using hit.1) λi v q=>hit.2 i v (by simpa using q);have I2:Inv X pins O (upd H s.heap.objs.size (.lst ((List.range j.toNat).map λ(k:Nat)=>V.int (0+(k:Int))))) { s with heap:=h',toks:=tk } :=
  I.laid (t':=tk) (λb o e=>hk b o e) (ϗ _) (show ObjOk X.prog X.w _ _ _ (.lst _)from⟨by rw[ϋ,ϸ];exact ϣ (show j.toNat<=100000 by omega) (by decide),acc.toList,c,hv,by simpa using hacc⟩)
 exact⟨.ref s.heap.objs.size,_,I2,rfl,q _ I.fresh⟩
theorem Es {a : Expr} {pos2 : Pos} {F : Rho -> R (List D)} (hc : X.calm = true) (ha : AD C X [a] F) (hgr : Gl X "range") (hmr : X.mg "range" = none) (hgt : Gl X "list") (hmt : X.mg "list" = none)
    (hs : starEach [a] X.env = [(false, eval a X.env)]) : FD C X (.Call (.Name "list" p) [.Call (.Name "range" p2) [a] [] pos2] [] pos) (jS F) :=
  ao (df (rz hc) hgt hmt boot_list (aQ (xJ hgr hmr ha hs) bH oq) (he := oq) (hpl := dJ)) fun O H Q yy0 => by
   obtain ⟨U, ⟨H0, r⟩, q⟩ := yy0
   exact ⟨U, ⟨H0, r⟩, bQ (P := fun z H => pF (X := X) (eW C X U O) z O H Q) (fun _ h => h) (fun h => h) q fun ds vs H1 s1 h1 q1 => by
    cases h1 with
    | nil => exact q1.elim
    | @cons v1 d1 vs1 ds1 a1 h1 =>
      cases h1 with
      | cons _ _ => cases d1 <;> exact q1.elim
      | nil =>
        cases a1 with
        | int j =>
          unfold yd at q1
          dsimp only at q1
          by_cases hj : -(2 ^ 62) <= j /\ j <= 100000
          · rw [if_pos hj] at q1
            exact ⟨j, rfl, hj.1, by omega, fun ra hra => ⟨ra, j, rfl, ax, hj.1, hj.2, fun pa hpa => q1 pa _ _ (s1.trans (aq hra)) hpa (qQ _)⟩⟩
          · rw [if_neg hj] at q1; exact q1.elim
        | _ => exact q1.elim⟩
end
section
variable (C:Addr) (X:Cx)
abbrev zx (H:Hp) (v:V) (d:D):Prop:=Has X.K C H v d
abbrev vw (H:Hp) (v:List V) (d:List D):Prop:=HasL X.K C H v d
def teR (F:Rho->R D):TE:=λO H Q=>∃U:RB,(∃H0,b_ C X H0 U O H)/\pV X (zx C X) (F U) O H Q
def taR (F:Rho->R (List D)):TA:=λO H Q=>∃U:RB,(∃H0,b_ C X H0 U O H)/\pL X (vw C X) (F U) O H Q
def ER (e:Expr) (F:Rho->R D):Prop:=PE X e (teR C X F)
def AR (es:List Expr) (F:Rho->R (List D)):Prop:=PA X es (taR C X F)
end
variable {Fb:Rho->R D}
section
variable {C:Addr} {X:Cx} {U:RB} {O:St} {H H':Hp}
theorem GE {e:Expr} (h:EB C X e F):ER C X e F:=ao h λO H Q ⟨U,r,q⟩=>⟨U,r,by
 cases z:F U with
 | val d=>rw[z]at q;exact λv H' s h=>q v H' s (h.has msk_sub)
 | exc c=>rw[z]at q;exact q
 | bad=>rw[z]at q;exact q⟩
def va (i:Nat):Rho->R D:=λU=>match U[i]? with
 | some (some (.shr d))=>.val d
 | some (some (.own xs))=>.val (.lst xs)
 | some (some (.tre _ d))=>.val d
 | _=>.bad
theorem Ey (h:PE X (.Name x pos) (c8 i)):ER C X (.Name x pos) (va i):=by
 refine ao h λO H Q zz1=>?_;obtain⟨U,⟨H0,r⟩,q⟩:=zz1;unfold va at q;split at q
 ·rename_i d e;obtain⟨v,e1,h1⟩:=r.at_ i _ e;exact⟨v,e1,q v H (Same.refl _) (h1.mono msk_sub)⟩
 ·rename_i xs e;obtain⟨a,vs,e1,_,h1,h2⟩:=r.at_ i _ e;exact⟨_,e1,q _ H (Same.refl _) (.lst h1 (h2.mono msk_sub))⟩
 ·rename_i k d e;obtain⟨v,B,e1,_,h1⟩:=r.at_ i _ e;exact⟨_,e1,q _ H (Same.refl _) (h1.has msk_sub)⟩
 ·exact q.elim
def rb0 (O:St):RB:=⟨List.replicate O.length none,λ_=>[]⟩
theorem AJ:msk (rb0 O) O H=H:=by
 funext b
 unfold msk;exact if_neg λ⟨_,z⟩=>Ϡ z
theorem Hg:b_ C X H (rb0 O) O H:=by
 refine⟨by unfold rb0;simp,by rw[AJ];exact Same.refl _,λi sl e=>?_,λi j a z=>(Ϡ z).elim,λi a z=>(Ϡ z).elim,λi a z=>(Ϡ z).elim⟩;unfold rb0 at e;rw[Ι]at e;split at e<;>cases e
theorem zK {r:R2} {f:D->D->R D} {Fa:Rho->R D} (hf:cL f) (ho:OpD C X r f) {O:St} {H:Hp} {Q:VK} (h:teR C X (bin f Fa Fb) O H Q):tOp r (teR C X Fa) (teR C X Fb) O H Q:=by
 obtain⟨U,⟨H0,r0⟩,q⟩:=h;refine⟨U,⟨H0,r0⟩,au (P:=λz H=>pV X (zx C X) z O H Q) (λ_ h=>h) (λh=>h) q λx v H1 s1 h1 q1=>?_⟩;refine⟨U,⟨H0,r0.mono s1⟩,au (P:=λz H=>pV X (zx C X) z O H Q) (λ_ h=>h) (λh=>h) (q1.mono s1) λy w H2 s2 h2 q2=>?_⟩;cases e:f x y with
 | val z =>
  rw[e]at q2;refine ho (rb0 O) O H2 v w x y z Q ⟨H2,Hg⟩ (.cl (by rw[AJ];exact h1.mono s2)) (.cl (by rw[AJ];exact h2)) e λu H3 s3 h3=>q2 u H3 (s2.trans s3) ?_;have h3:Has X.K C (msk (rb0 O) O H3) u z:=h3;rw[AJ]at h3;exact h3
 | exc c=>exact(hf x y c e).elim
 | bad=>rw[e]at q2;exact q2.elim
theorem GH {a b:Expr} {Fa:Rho->R D} (ha:ER C X a Fa) (hb:ER C X b Fb) (hs:ik b:=by exact λ_ _=>rfl):ER C X (.Subscript a b pos) (bin fix Fa Fb) :=
 ao (uE sT ha hb hs) λO H Q q=>zK B7 xQ q
def flF (F:Rho->R D):Rho->R D:=λU=>(F U).bind λd=>match d with
 | .int i=>.val (.int i)
 | .bl b=>.val (.bl b)
 | .non=>.val .non
 | _=>.bad
theorem Bz {e:Expr} (h:ER C X e F):ED C X e (flF F):=ao h λO H Q ⟨U,r,q⟩=>⟨U,r,by
 unfold flF at q;cases z:F U with
 | val d =>
  rw[z]at q;intro v H' s h;cases d with
  | int i=>cases h;exact q _ H' s (.int i)
  | bl i=>cases h;exact q _ H' s (.bl i)
  | non=>cases h;exact q _ H' s .non
  | _=>exact q.elim
 | exc c=>rw[z]at q;exact q
 | bad=>rw[z]at q;exact q⟩
theorem E8:AR C X [] aN:=kU bH λO H Q ⟨U,r0,q⟩=>q [] H (Same.refl _) .nil
theorem BS {e:Expr} {Fa:Rho->R D} {Fr:Rho->R (List D)} (ha:ER C X e Fa) (hr:AR C X es Fr) (hs:starEach (e::es) X.env=(false,eval e X.env)::starEach es X.env:=by rfl):AR C X (e::es) (aC Fa Fr) :=
 kU (aQ ha hr hs) λO H Q ⟨U,⟨H0,r0⟩,q⟩=>⟨U,⟨H0,r0⟩,au (P:=λz H=>pL X (vw C X) z O H Q) (λ_ h=>h) (λh=>h) q λx v H1 s1 h1 q1 =>
  ⟨U,⟨H0,r0.mono s1⟩,bQ (P:=λz H=>pL X (vw C X) z O H Q) (λ_ h=>h) (λh=>h) (q1.mono s1) λxs vs H2 s2 h2 q2=>q2 _ H2 s2 (.cons (h1.mono s2) h2)⟩⟩
theorem Ez {e:Expr} (h:ER C X e F) (hg:Gl X "len") (hm:X.mg "len"=none) (hst:starEach [e] X.env=(false,eval e X.env)::starEach [] X.env:=by rfl)
  (hs:∀t:TA,PA X [e] t->PE X (.Call (.Name "len" p) [e] [] pos) (tCB (λxs H Q=>∃p ys,xs=[.ref p]/\(SqL X.K H p ys\/SqT X.K H p ys)/\Q (.int ys.length) H) t):=by
   exact λt ha=>dW jy (by assumption) (by assumption) PySem.boot_len ha):ED C X (.Call (.Name "len" p) [e] [] pos) (una aj F) :=
 ao (hs _ (aQ h bH hst)) λO H Q ⟨U,r0,q⟩=>⟨U,r0,au (P:=λz H=>pV X (bS C X U O) z O H Q) (λ_ h=>h) (λh=>h) q λx v H1 s1 h1 q1=>by
  cases h1 with
  | lst e1 h2=>exact⟨_,_,rfl,.inl (SqL.of e1),q1 _ H1 s1 (by rw[h2.len];exact .int _)⟩
  | tup e1 h2=>exact⟨_,_,rfl,.inr (SqT.of e1),q1 _ H1 s1 (by rw[h2.len];exact .int _)⟩
  | scr e1=>exact⟨_,_,rfl,.inl e1,q1 _ H1 s1 (by rw[ϋ];exact .int _)⟩
  | _=>exact q1.elim⟩
theorem GG {e:Expr} (F:Fn X.prog X.w X.K X.mg X.base C k x n den) (hr:Room k X.A) (hg:Gl X x) (ha:AR C X (e::es) Fa)
  (hdb:(x==("__debug__":Str))=false:=by decide) (he:starEach (e::es) X.env=(false,eval e X.env)::starEach es X.env:=by rfl) (hpl:(backTo pos (starEach es X.env)).any (·.1)=false:=by rfl) :
  ER C X (.Call (.Name x p) (e::es) [] pos) (cal n den Fa):=by
 obtain⟨f,fd,ps,F,hm,hk,hb⟩:=F;rintro pins s O H Q I ⟨U,⟨H0,r0⟩,q⟩;refine wpAny_Call_Name_kw (cP I hg hm ?_ hdb);refine callWith_K (h₀:=X.base) I.ok.mod.kin hk (thn (ha pos pins s O H (λvs H1=>∃ds d,ds.length=n/\Same H H1/\vw C X H1 vs ds/\den ds=.val d/\∀v H',Same H H'->zx C X H' v d->Q v H') I
  ⟨U,⟨H0,r0⟩,bQ (P:=λz H=>pV X (zx C X) z O H Q) (λ_ h=>h) (λh=>h) q λds vs H1 s1 h1 q1=>?_⟩) λus s1 ⟨vs,H1,I1,rv,ds,d,hl,s1',h1,e1,q1⟩=>⟨I1.kIn,?_⟩) he hpl
 ·split at q1
  ·rename_i hl;cases e1:den ds with
   | val d=>rw[e1]at q1;exact⟨ds,d,hl,s1,h1,e1,q1⟩
   | exc c=>rw[e1]at q1;exact q1.elim
   | bad=>rw[e1]at q1;exact q1.elim
  ·exact q1.elim
 ·refine thn (lx (E:=E0) (Q:=λv M'=>Same H1 M'/\Has X.K C M' v d) F hr hb .nil nu I1 rv ?_) λu s2 ⟨v,M',J2,ru,sm,hv⟩=>⟨v,M',J2,ru,q1 v M' (s1'.trans sm) hv⟩;rw[Ϫ];refine⟨h1.len.trans hl,ds,h1,?_⟩;rw[e1];exact λv H' s2 h2=>⟨s2,h2⟩
end
def spK (K:Frag) (C:Addr) (n:Nat) (kr:OK) (den:List D->R D):Sp:=λvs H Q _=>vs.length=n/\∃ds,HasL K C H vs ds/\match den ds with
 | .val d=>∀v H' A,Same H H'->(∀a∈A,H a=none)->Tre K C (cut A H') H' kr v d A->Q v H'
 | _=>False
def FnK (P:Program) (w:World) (K:Frag) (mg:Str->Option Value) (base:Heap) (C:Addr) (k:Nat) (x:Str) (n:Nat) (kr:OK) (den:List D->R D):Prop :=
 ∃f fd ps,FnOk P w K mg base CX0 k f fd ps (spK K C n kr den)/\mg x=some (.ref f)/\keepIn K (.ref f)=true/\Binds K fd ps []
section
variable (C:Addr) (X:Cx)
def pR (kr:OK) (r:R D) (H0:Hp) (Q:VK):Prop:=match r with
 | .val d=>∀v H' A,Same H0 H'->(∀a∈A,H0 a=none)->Tre X.K C (cut A H') H' kr v d A->Q v H'
 | _=>False
def tsK (kr:OK) (F:Rho->R D):TS:=λDn O H=>∃U H0,iq C X H0 U O H/\pR C X kr (F U) H0 Dn.rt
def tQ (kr:OK) (st:List Stmt) (F:Rho->R D):Prop:=PSs X st (tsK C X kr F)
end
def sqK (F:Rho->R Out) (G:Rho->R D):Rho->R D:=λU=>match F U with
 | .val (.nx ρ')=>G ρ'
 | _=>.bad
variable {kr:OK}
section
variable {C:Addr} {X:Cx}
theorem wX {rest:List Stmt} {F:Rho->R Out} {G:Rho->R D} (h1:SD C X st F) (h2:tQ C X kr rest G):tQ C X kr (st::rest) (sqK F G) :=
 cg (fk h1 h2) λD O H ⟨U,H0,r,q⟩=>by
  refine⟨U,H0,r,?_⟩;unfold sqK at q;cases e:F U with
  | val o =>
   rw[e]at q;cases o with
   | nx ρ'=>exact λσ' H' r'=>⟨ρ',H0,r',q⟩
   | rt d=>exact q.elim
   | bk ρ'=>exact q.elim
   | ct ρ'=>exact q.elim
  | exc c=>rw[e]at q;exact q.elim
  | bad=>rw[e]at q;exact q.elim
theorem zV {e:Expr} (he:KD C X kr e F):tQ C X kr [.Return (some e) pos] F :=
 cg (eI (oG he)) λD O H ⟨_,H0,⟨U,er,r⟩,q⟩=>by
  subst er;refine⟨U,⟨H0,r⟩,?_⟩;cases z:F U with
  | val d =>
   rw[z]at q;exact λv H' A s hA h=>q v H' A ((r.keep.trans msk_sub).trans s) (λa ha=>dQ (r.keep.trans msk_sub) (hA a ha)) (h.stay (λb o e=>cut_some.mpr ⟨(cut_some.mp e).1,(msk_some.mp (cut_some.mp e).2).2⟩) (.of (Same.refl _)))
  | exc c=>rw[z]at q;exact q.elim
  | bad=>rw[z]at q;exact q.elim
theorem Gv {e:Expr} (F:FnK X.prog X.w X.K X.mg X.base C k x n kr den) (hr:Room k X.A) (hg:Gl X x) (ha:AD C X (e::es) Fa)
  (hdb:(x==("__debug__":Str))=false:=by decide) (he:starEach (e::es) X.env=(false,eval e X.env)::starEach es X.env:=by rfl) (hpl:(backTo pos (starEach es X.env)).any (·.1)=false:=by rfl) :
  KD C X kr (.Call (.Name x p) (e::es) [] pos) (cal n den Fa):=by
 obtain⟨f,fd,ps,F,hm,hk,hb⟩:=F;rintro pins s O H Q I ⟨U,⟨H0,r0⟩,q⟩;refine wpAny_Call_Name_kw (cP I hg hm ?_ hdb);refine callWith_K (h₀:=X.base) I.ok.mod.kin hk (thn (ha pos pins s O H (λvs H1=>∃ds d,ds.length=n/\Same H H1/\eW C X U O H1 vs ds/\den ds=.val d/\∀v H' A,Same H H'->(∀a∈A,H a=none)->Tre X.K C (cut A (msk U O H')) H' kr v d A->Q v H') I
  ⟨U,⟨H0,r0⟩,bQ (P:=λz H=>pK C X kr U z O H Q) (λ_ h=>h) (λh=>h) q λds vs H1 s1 h1 q1=>?_⟩) λus s1 ⟨vs,H1,I1,rv,ds,d,hl,s1',h1,e1,q1⟩=>⟨I1.kIn,?_⟩) he hpl
 ·split at q1
  ·rename_i hl;cases e1:den ds with
   | val d=>rw[e1]at q1;exact⟨ds,d,hl,s1,h1,e1,q1⟩
   | exc c=>rw[e1]at q1;exact q1.elim
   | bad=>rw[e1]at q1;exact q1.elim
  ·exact q1.elim
 ·have r1:=r0.mono s1';have Z:=Rel.hid r1 I1;have J:=I1.hide Z;refine thn (lx (E:=E0) (Q:=λv M'=>∃A,Same (cut (br U O) H1) M'/\(∀a∈A,cut (br U O) H1 a=none)/\Tre X.K C (cut A M') M' kr v d A) F hr hb .nil nu J rv ?_) λu s2 ⟨v,M',J2,ru,A,sm,hA,hv⟩=>?_
  ·rw[Ϫ];refine⟨h1.len.trans hl,ds,by rw[<- cu r0.bnd];exact h1,?_⟩;rw[e1];exact λv H' A s2 hA h2=>⟨A,s2,hA,h2⟩
  ·obtain⟨I2,mz⟩:=I1.show' Z J2;have sj:Same H1 (jn (br U O) H1 M'):=λb o eb=>by
    by_cases hb:b∈br U O
    ·rw[ge hb];exact eb
    ·rw[a_ hb];exact sm b o (cut_some.mpr ⟨hb,eb⟩)
   have em:msk U O (jn (br U O) H1 M')=M':=by
    rw[cu r0.bnd]
    funext b
    by_cases hb:b∈br U O
    ·rw[dm hb,mz b hb]
    ·unfold cut;rw[if_neg hb,a_ hb]
   have nz:∀b o,M' b=some o->jn (br U O) H1 M' b=some o:=λb o eb=>by
    rw[a_ λhb=>by rw[mz b hb]at eb;cases eb];exact eb
   refine⟨v,_,I2,ru,q1 v _ A (s1'.trans sj) (λa ha=>?_) (by rw[em];exact hv.stay (Same.refl _) (.of nz))⟩;obtain⟨us,ea⟩:=hv.lists a ha;have na:a∉br U O:=λhb=>by rw[mz a hb]at ea;cases ea
   have:=hA a ha;unfold cut at this;rw[if_neg na]at this;exact dQ s1' this
def Cf:D->Bool
 | .int _=>true
 | .bl _=>true
 | .non=>true
 | _=>false
def bB:OK->D->Bool
 | .s,d=>Cf d
 | .l k,.lst xs=>xs.all (bB k)
 | .p j k,.tup [a,b]=>bB j a&&bB k b
 | _,_=>false
def qS:List OK->List D->Bool
 | k::ks,d::ds=>bB k d&&qS ks ds
 | [],[]=>true
 | _,_=>false
theorem nK {k:OK} {Y:Type}:∀{vs:List Y} {ds:List D},vs.length=ds.length->ds.all (bB k)=true->qS (vs.map λ_=>k) ds=true
 | [],[],_,_=>rfl
 | _::vs,d::ds,hl,h=>by
  rw[List.all_cons,ϝ]at h;show(bB k d&&qS _ ds)=true;rw[h.1,nK (Nat.succ.inj hl) h.2];rfl
 | [],_::_,hl,_=>by cases hl
 | _::_,[],hl,_=>by cases hl
mutual
theorem Tre.remask {K:Frag} {M M' H:Hp}:∀{k:OK} {v:V} {d:D} {A:List Addr},Tre K C M H k v d A->bB k d=true->Tre K C M' H k v d A
 | _,_,d,_,.s h,f=>by
  unfold bB at f;cases h with
  | int i=>exact .s (.int i)
  | bl i=>exact .s (.bl i)
  | non=>exact .s .non
  | _=>cases f
 | _,_,_,_,.l (k:=k) e h n,f=>by
  unfold bB at f;exact .l e (TreP.remask h (nK h.len.1 f)) n
 | _,_,_,_,.p (j:=j) (k:=k) e h,f=>by
  refine .p e (TreP.remask h ?_);cases h with
  | cons h1 t _=>cases t with
   | cons h2 t _=>cases t with
    | nil =>
     unfold bB at f;rw[ϝ]at f;show(bB j _&&(bB k _&&true))=true;rw[f.1,f.2];rfl
theorem TreP.remask {K:Frag} {M M' H:Hp}:∀{ks:List OK} {vs:List V} {ds:List D} {A:List Addr},TreP K C M H ks vs ds A->qS ks ds=true->TreP K C M' H ks vs ds A
 | _,_,_,_,.nil,_=>.nil
 | _,_,_,_,.cons h t n,f=>by
  have f:(bB _ _&&qS _ _)=true:=f;rw[ϝ]at f;exact .cons (Tre.remask h f.1) (TreP.remask t f.2) n
end
end
section
variable {P:Program} {w:World} {K:Frag} {mg:Str->Option Value} {base:Heap} {C:Addr}
theorem BI {den:Rho->R D} (F:Fun K x qual st f fd) (sc:cA N ps (ak st))
  (hb:∀(cdv:Value) (A:Around) (outer:List Env) (s:Shared) (H:Hp) (E:XK),Room k (A.deeper (envOfC qual (ak st) s.heap.objs.size f cdv)) ->
   tQ C (fh CX0 P w K mg base N qual (ak st) f cdv A outer s H E).nox kr (bj st) den) :
  FnOk P w K mg base CX0 (k+1) f fd ps (spK K C ps.length kr λds=>den (st0 N ds)):=by
 refine F.ok sc (λvs H Q E h=>h.1) (λcdv A outer s H vs Q E hr h=>⟨_,hb cdv A outer s H E hr,?_⟩);obtain⟨_,ds,h,q⟩:=h;exact⟨st0 N ds,H,hW h,q⟩
end
def gv:D->List Nat->Option D
 | d,[]=>some d
 | .lst xs,j::p=>match xs[j]? with
  | some d=>gv d p
  | none=>none
 | .tup xs,j::p=>match xs[j]? with
  | some d=>gv d p
  | none=>none
 | _,_::_=>none
def io:D->List Nat->D->D
 | _,[],e=>e
 | .lst xs,j::p,e=>match xs[j]? with
  | some d=>.lst (xs.set j (io d p e))
  | none=>.lst xs
 | .tup xs,j::p,e=>match xs[j]? with
  | some d=>.tup (xs.set j (io d p e))
  | none=>.tup xs
 | d,_::_,_=>d
def eE:OK->List Nat->Option OK
 | k,[]=>some k
 | .l k,_::p=>eE k p
 | .p j _,0::p=>eE j p
 | .p _ k,1::p=>eE k p
 | _,_::_=>none
inductive Reach (H:Hp):V->List Nat->V->Prop where
 | nil {v:V}:Reach H v [] v
 | lst {a:Addr} {vs:List V} {j:Nat} {p:List Nat} {v w:V}:H a=some (.lst vs)->vs[j]?=some v->Reach H v p w->Reach H (.ref a) (j::p) w
 | tup {a:Addr} {vs:List V} {j:Nat} {p:List Nat} {v w:V}:H a=some (.tup vs)->vs[j]?=some v->Reach H v p w->Reach H (.ref a) (j::p) w
variable {w v:V} {k':OK}
section
variable {K:Frag} {C:Addr} {M M' H H':Hp}
theorem Reach.mono (s:Same H H') {p:List Nat} (h:Reach H v p w):Reach H' v p w:=by
 induction h with
 | nil=>exact .nil
 | lst e q _ ih=>exact .lst (s _ _ e) q ih
 | tup e q _ ih=>exact .tup (s _ _ e) q ih
structure GV (A B:List Addr) (H H':Hp):Prop where
 at_:∀a∈A,a∉B->∀o,H a=some o->H' a=some o
 tup:∀a vs,H a=some (.tup vs)->H' a=some (.tup vs)
theorem TreP.pick:∀{ks:List OK} {vs:List V} {ds:List D} {A:List Addr} {j:Nat} {d:D},TreP K C M H ks vs ds A->ds[j]?=some d->∃k v A1,ks[j]?=some k/\vs[j]?=some v/\Tre K C M H k v d A1/\(∀a∈A1,a∈A) /\
  ∀{M' H':Hp} {d':D} {A2:List Addr},Same M M'->GV A A1 H H'->Tre K C M' H' k v d' A2->(∀a∈A2,a∈A1\/a∉A)->∃A',TreP K C M' H' ks vs (ds.set j d') A'/\∀a∈A',a∈A\/a∈A2
 | _,_,_,_,_,_,.nil,e=>by simp at e
 | _,_,_,_,0,d,.cons (k:=k) (v:=v) (A:=A1) (B:=A3) h t n,e=>by
  rw[π]at e;cases e;refine⟨k,v,A1,rfl,rfl,h,λa ha=>ϟ _ ha,λ{M' H' d' A2} s w h2 f=>⟨A2++A3,.cons h2 (t.stay s ⟨λa ha o q=>w.at_ a (ϐ _ ha) (λz=>n a z ha) o q,w.tup⟩) λa ha hb=>?_,λa ha=>?_⟩⟩
  ·rcases f a ha with z|z
   ·exact n a z hb
   ·exact z (ϐ _ hb)
  ·rcases Ϩ.mp ha with z|z
   ·exact .inr z
   ·exact .inl (ϐ _ z)
 | _,_,_,_,j+1,d,.cons (k:=k0) (v:=v0) (d:=d0) (A:=A0) (B:=A3) h t n,e=>by
  rw[Β]at e;obtain⟨k,v,A1,e1,e2,h1,s1,up⟩:=TreP.pick t e;refine⟨k,v,A1,e1,e2,h1,λa ha=>ϐ _ (s1 a ha),λ{M' H' d' A2} s w h2 f=>?_⟩;obtain⟨A',h3,s3⟩:=up (M':=M') (H':=H') s ⟨λa ha na o q=>w.at_ a (ϐ _ ha) na o q,w.tup⟩ h2 λa ha=>(f a ha).imp id λz y=>z (ϐ _ y);refine⟨A0++A',.cons (h.stay s ⟨λa ha o q=>w.at_ a (ϟ _ ha) (λz=>n a ha (s1 a z)) o q,w.tup⟩) h3 λa ha hb=>?_,λa ha=>?_⟩
  ·rcases s3 a hb with z|z
   ·exact n a ha z
   ·rcases f a z with y|y
    ·exact n a ha (s1 a y)
    ·exact y (ϟ _ ha)
  ·rcases Ϩ.mp ha with z|z
   ·exact .inl (ϟ _ z)
   ·exact(s3 a z).imp (λy=>ϐ _ y) id
theorem AQ {Y:Type} {k:OK} {vs:List Y} (h:(vs.map λ_=>k)[j]?=some k'):k'=k:=by
 rw[ϥ]at h;cases e:vs[j]? with
 | none=>rw[e]at h;cases h
 | some v=>rw[e]at h;exact(Ϥ h).symm
theorem Tre.path:∀{pp:List Nat} {k k':OK} {v:V} {d d':D} {A:List Addr},Tre K C M H k v d A->gv d pp=some d'->eE k pp=some k'->∃v' A1,Tre K C M H k' v' d' A1/\(∀a∈A1,a∈A)/\Reach H v pp v' /\
  ∀{M' H':Hp} {e:D} {A2:List Addr},Same M M'->GV A A1 H H'->Tre K C M' H' k' v' e A2->(∀a∈A2,a∈A1\/a∉A)->∃A',Tre K C M' H' k v (io d pp e) A'/\∀a∈A',a∈A\/a∈A2
 | [],k,k',v,d,d',A,h,ed,ek=>by
  unfold gv at ed;unfold eE at ek;cases ed;cases ek;exact⟨v,A,h,λa ha=>ha,.nil,λ{M' H' e A2} _ _ h2 _=>⟨A2,by unfold io;exact h2,λa ha=>.inr ha⟩⟩
 | j::pp,_,k',_,_,d',_,.s h,ed,ek=>by unfold eE at ek;cases ek
 | j::pp,_,k',_,_,d',_,.l (k:=k) (a:=a) (vs:=vs) (xs:=xs) (A:=A) ha hp hn,ed,ek=>by
  unfold gv at ed;unfold eE at ek;split at ed
  ·rename_i d0 e0;obtain⟨k0,v0,A0,q1,q2,h0,s0,up0⟩:=hp.pick e0;have:=AQ q1;subst this;obtain⟨v',A1,h1,s1,rc,up1⟩:=Tre.path h0 ed ek;refine⟨v',A1,h1,λb hb=>ϑ _ (s0 b (s1 b hb)),.lst ha q2 rc,λ{M' H' e A2} s w h2 f=>?_⟩;obtain⟨A3,h3,s3⟩:=up1 (M':=M') (H':=H') s ⟨λb hb nb o q=>w.at_ b (ϑ _ (s0 b hb)) nb o q,w.tup⟩ h2 λb hb=>(f b hb).imp id λz y=>z (ϑ _ (s0 b y));have f3:∀b∈A3,b∈A0\/b∉A:=λb hb=>by
    rcases s3 b hb with z|z
    ·exact .inl z
    ·rcases f b z with y|y
     ·exact .inl (s1 b y)
     ·exact .inr λx=>y (ϑ _ x)
   obtain⟨A4,h4,s4⟩:=up0 (M':=M') (H':=H') s ⟨λb hb nb o q=>w.at_ b (ϑ _ hb) (λz=>nb (s1 b z)) o q,w.tup⟩ h3 f3;have na:a∉A2:=λz=>by
    rcases f a z with y|y
    ·exact hn (s0 a (s1 a y))
    ·exact y ϛ
   refine⟨a::A4,?_,λb hb=>?_⟩
   ·unfold io;rw[e0];refine .l (w.at_ a ϛ (λz=>hn (s0 a (s1 a z))) _ ha) h4 λz=>?_;rcases s4 a z with y|y
    ·exact hn y
    ·rcases s3 a y with x|x
     ·exact hn (s0 a x)
     ·exact na x
   ·rcases Ϣ.mp hb with rfl|hb
    ·exact .inl ϛ
    ·rcases s4 b hb with y|y
     ·exact .inl (ϑ _ y)
     ·exact(s3 b y).imp (λx=>ϑ _ (s0 b x)) id
  ·cases ed
 | j::pp,_,k',_,_,d',_,.p (j:=k1) (k:=k2) (a:=a) (vs:=vs) (xs:=xs) (A:=A) ha hp,ed,ek=>by
  unfold gv at ed;split at ed
  ·rename_i d0 e0;obtain⟨k0,v0,A0,q1,q2,h0,s0,up0⟩:=hp.pick e0;have ek0:eE k0 pp=some k':=by
    match j,q1,ek with
    | 0,q1,ek=>cases q1;unfold eE at ek;exact ek
    | 1,q1,ek=>cases q1;unfold eE at ek;exact ek
    | n+2,q1,ek=>cases q1
   obtain⟨v',A1,h1,s1,rc,up1⟩:=Tre.path h0 ed ek0;refine⟨v',A1,h1,λb hb=>s0 b (s1 b hb),.tup ha q2 rc,λ{M' H' e A2} s w h2 f=>?_⟩;obtain⟨A3,h3,s3⟩:=up1 (M':=M') (H':=H') s ⟨λb hb nb o q=>w.at_ b (s0 b hb) nb o q,w.tup⟩ h2 λb hb=>(f b hb).imp id λz y=>z (s0 b y);have f3:∀b∈A3,b∈A0\/b∉A:=λb hb=>by
    rcases s3 b hb with z|z
    ·exact .inl z
    ·rcases f b z with y|y
     ·exact .inl (s1 b y)
     ·exact .inr y
   obtain⟨A4,h4,s4⟩:=up0 (M':=M') (H':=H') s ⟨λb hb nb o q=>w.at_ b hb (λz=>nb (s1 b z)) o q,w.tup⟩ h3 f3;refine⟨A4,?_,λb hb=>?_⟩
   ·unfold io;rw[e0];exact .p (w.tup _ _ ha) h4
   ·rcases s4 b hb with y|y
    ·exact .inl y
    ·exact(s3 b y).imp (λx=>s0 b x) id
  ·cases ed
end
variable {pp:List Nat}
section
variable {K:Frag} {C:Addr} {H0 H:Hp} {U:RB} {O:St}
theorem Rel.node (r:Rel K C H0 U O H) {k:OK} {d:D} (e:U.rho[i]?=some (some (.tre k d))) (ek:eE k pp=some (.l k')) (ed:gv d pp=some (.lst xs)) :
  ∃v a vs A0,O[i]?=some (some v)/\Reach H v pp (.ref a)/\H a=some (.lst vs)/\TreP K C (msk U O H) H (vs.map λ_=>k') vs xs A0/\a∉A0 /\
   ∀{H2:Hp} {ws:List V} {ys:List D} {N B:List Addr},Same H H2->(∀b∈N,H b=none)->TreP K C (cut N (msk U O H2)) (upd H2 a (.lst ws)) (ws.map λ_=>k') ws ys B->(∀b∈B,b∈A0\/b∈N) ->
    Rel K C H0 (U.put i (.tre k (io d pp (.lst ys))) (U.ad i++B)) O (upd H2 a (.lst ws)):=by
 obtain⟨v,Bt,e1,hB,h⟩:=r.at_ i _ e;obtain⟨v',A1,h1,s1,rc,up⟩:=h.path ed ek;cases h1 with
 | @l _ a vs _ A0 ha hp hn =>
  have aI:a∈U.ad i:=hB a (s1 a ϛ);have A0I:∀b∈A0,b∈U.ad i:=λb hb=>hB b (s1 b (ϑ _ hb));refine⟨v,a,vs,A0,e1,rc,ha,hp,hn,λ{H2 ws ys N B} s hN ht hs=>?_⟩;have nN:∀b,b∈U.ad i->b∉N:=λb hb z=>by
   have:=r.ownAt (O:=O) ⟨i,hb⟩;exact this (hN b z)
  have ne:∀b vs',H b=some (.tup vs')->b≠a:=λb vs' q z=>by rw[z,ha]at q;cases q
  refine r.put rfl (λj _=>rfl) (λb hb=>?_) (λj hj=>⟨λb hb o q=>?_,λb vs' q=>?_⟩) (λb o q=>?_) (λb hb=>?_) λhi sub=>?_
  ·rcases Ϩ.mp hb with hb|hb
   ·exact .inl hb
   ·rcases hs b hb with z|z
    ·exact .inl (A0I b z)
    ·exact .inr (hN b z)
  ·rw[am λ(z:b=a)=>hj (r.inj j i b hb (z▸aI))];exact s b o q
  ·rw[am (ne b vs' q)];exact s b _ q
  ·obtain⟨g1,g2⟩:=msk_some.mp q;rw[am λ(z:b=a)=>g1 ⟨i,z▸aI⟩];exact s b o g2
  ·by_cases z:b=a
   ·exact .inl ⟨ws,by rw[z];exact ax⟩
   ·rcases Ϩ.mp hb with hb|hb
    ·rw[am z];exact(r.kin i b hb).imp (λ⟨us,q⟩=>⟨us,s _ _ q⟩) λ⟨us,q⟩=>⟨us,s _ _ q⟩
    ·exact .inl (ht.lists b hb)
  ·have aB:a∉B:=λz=>by
    rcases hs a z with y|y
    ·exact hn y
    ·exact nN a aI y
   obtain⟨A',h3,s3⟩:=up (M':=msk (U.put i (.tre k (io d pp (.lst ys))) (U.ad i++B)) O (upd H2 a (.lst ws))) (H':=upd H2 a (.lst ws)) sub ⟨λb hb nb o q=>by rw[am λ(z:b=a)=>nb (z▸ϛ)];exact s b o q,λb vs' q=>by rw[am (ne b vs' q)];exact s b _ q⟩
    (.l (k:=k') ax (ht.stay (λb o q=>by
     obtain⟨g1,g2⟩:=cut_some.mp q;obtain⟨g3,g4⟩:=msk_some.mp g2;refine msk_some.mpr ⟨λ⟨j,z⟩=>?_,by rw[am λ(z:b=a)=>g3 ⟨i,z▸aI⟩];exact g4⟩;rcases dU z with⟨_,_,z⟩|⟨_,z⟩
     ·rcases Ϩ.mp z with z|z
      ·exact g3 ⟨i,z⟩
      ·rcases hs b z with y|y
       ·exact g3 ⟨i,A0I b y⟩
       ·exact g1 y
     ·exact g3 ⟨j,z⟩) (.of (Same.refl _))) aB) (λb hb=>by
     rcases Ϣ.mp hb with z|z
     ·exact .inl (z▸ϛ)
     ·rcases hs b z with y|y
      ·exact .inl (ϑ _ y)
      ·exact .inr λx=>nN b (hB b x) y)
   refine⟨v,A',e1,λb hb=>?_,h3⟩;rcases s3 b hb with z|z
   ·exact ϟ _ (hB b z)
   ·rcases Ϣ.mp z with z|z
    ·exact ϟ _ (z▸aI)
    ·exact ϐ _ z
theorem Reach.det {w':V} (h:Reach H v pp w) (h':Reach H v pp w'):w=w':=by
 induction h with
 | nil=>cases h';rfl
 | lst e q _ ih =>
  cases h' with
  | lst e' q' h'=>rw[e]at e';cases e';rw[q]at q';cases q';exact ih h'
  | tup e' q' h'=>rw[e]at e';cases e'
 | tup e q _ ih =>
  cases h' with
  | lst e' q' h'=>rw[e]at e';cases e'
  | tup e' q' h'=>rw[e]at e';cases e';rw[q]at q';cases q';exact ih h'
theorem Reach.snocL {u:V} (h:Reach H v pp w) (ew:w=.ref a) (e:H a=some (.lst vs)) (q:vs[j]?=some u):Reach H v (pp++[j]) u:=by
 induction h with
 | nil=>subst ew;exact .lst e q .nil
 | lst e' q' _ ih=>exact .lst e' q' (ih ew)
 | tup e' q' _ ih=>exact .tup e' q' (ih ew)
theorem Reach.snocT {u:V} (h:Reach H v pp w) (ew:w=.ref a) (e:H a=some (.tup vs)) (q:vs[j]?=some u):Reach H v (pp++[j]) u:=by
 induction h with
 | nil=>subst ew;exact .tup e q .nil
 | lst e' q' _ ih=>exact .lst e' q' (ih ew)
 | tup e' q' _ ih=>exact .tup e' q' (ih ew)
end
variable {P:Rho->R (List Nat)}
section
variable {C:Addr} {X:Cx}
def pN0 (i:Nat):Rho->R (List Nat):=λU=>match U[i]? with
 | some (some (.tre _ _))=>.val []
 | _=>.bad
def pIx (k:OK) (d:D) (pp:List Nat) (n:Int):R (List Nat):=match eE k pp,gv d pp with
 | some (.l _),some (.lst xs)=>match ixN xs.length n with
  | some j=>.val (pp++[j])
  | none=>.bad
 | some (.p _ _),some (.tup xs)=>match ixN xs.length n with
  | some j=>.val (pp++[j])
  | none=>.bad
 | _,_=>.bad
def pN (i:Nat) (P:Rho->R (List Nat)) (b:Rho->R D):Rho->R (List Nat):=λU=>(P U).bind λpp=>(b U).bind λn=>match U[i]?,n with
 | some (some (.tre k d)),.int n=>pIx k d pp n
 | _,_=>.bad
variable (C X) in
def teN (i:Nat) (P:Rho->R (List Nat)):TE:=λO H Q=>∃U:RB,(∃H0,b_ C X H0 U O H)/\match P U with
 | .val pp=>∀v w H',O[i]?=some (some v)->Same H H'->Reach H' v pp w->Q w H'
 | .exc c=>XE X c O H
 | .bad=>False
variable (C X) in
def ND (i:Nat) (o:Expr) (P:Rho->R (List Nat)):Prop:=PE X o (teN C X i P)
theorem AH (h:PE X (.Name x pos) (c8 i)):ND C X i (.Name x pos) (pN0 i):=by
 refine ao h λO H Q ⟨U,⟨H0,r⟩,q⟩=>?_;unfold pN0 at q;split at q
 ·rename_i e;split at e
  ·rename_i k d e0;cases e;obtain⟨v,B,e1,_,_⟩:=r.at_ i _ e0;exact⟨v,e1,q v v H e1 (Same.refl _) .nil⟩
  ·cases e
 ·rename_i e;split at e<;>cases e
 ·exact q.elim
theorem zq {Y:Type} {vs:List Y} {n:Int} (e:ixN vs.length n=some j):atI vs n=vs[j]?:=by
 unfold atI;rw[e];rfl
theorem yh {m:Nat} {n:Int} (e:ixN m n=some j):j<m:=by
 unfold ixN at e;split at e
 ·split at e
  ·cases e;omega
  ·cases e
 ·split at e
  ·cases e;omega
  ·cases e
theorem Gh {b:Expr} (ho:ND C X i o P) (hb:ED C X b Fb) (hs:ik b:=by exact λ_ _=>rfl):ND C X i (.Subscript o b pos) (pN i P Fb) :=
 ao (uE sT ho hb hs) λO H Q ⟨U,⟨H0,r⟩,q⟩=>by
  refine⟨U,⟨H0,r⟩,?_⟩;unfold pN at q;cases eP:P U with
  | exc c=>rw[eP]at q;exact q
  | bad=>rw[eP]at q;exact q
  | val pp =>
   rw[eP]at q;dsimp only[DL.R.bind]at q;intro v w H1 e1 s1 rc;refine⟨U,⟨H0,r.mono s1⟩,?_⟩;cases eb:Fb U with
   | exc c=>rw[eb]at q;exact XE.mono s1 q
   | bad=>rw[eb]at q;exact q
   | val n =>
    rw[eb]at q;dsimp only at q;intro y H2 s2 hy;split at q
    ·rename_i pq e0;split at e0
     ·rename_i k d n' er;cases hy;unfold pIx at e0;obtain⟨v0,B,e2,_,h⟩:=r.at_ i _ er;rw[e1]at e2;cases e2;split at e0
      ·rename_i k1 xs ek ed;split at e0
       ·rename_i j ej;cases e0;obtain⟨v',A1,h1,_,rc',_⟩:=h.path ed ek;have:=Reach.det (rc'.mono s1) rc;subst this;cases h1 with
        | @l _ a vs _ A0 ha hp hn =>
         have ha2:=s2 _ _ (s1 _ _ ha);have hl:vs.length=xs.length:=hp.len.1;have hj:j<vs.length:=by rw[hl];exact yh ej
         exact .inl ⟨a,vs,n',vs[j],rfl,rfl,SqL.of ha2,by rw[zq (j:=j) (by rw[hl];exact ej)];exact Ϗ hj,q v _ H2 e1 (s1.trans s2) ((rc.mono s2).snocL rfl ha2 (Ϗ hj))⟩
       ·cases e0
      ·rename_i k1 k2 xs ek ed;split at e0
       ·rename_i j ej;cases e0;obtain⟨v',A1,h1,_,rc',_⟩:=h.path ed ek;have:=Reach.det (rc'.mono s1) rc;subst this;cases h1 with
        | @p _ _ a vs _ A0 ha hp =>
         have ha2:=s2 _ _ (s1 _ _ ha);have hl:vs.length=xs.length:=hp.len.1;have hj:j<vs.length:=by rw[hl];exact yh ej
         exact .inr (.inl ⟨a,vs,n',vs[j],rfl,rfl,SqT.of ha2,by rw[zq (j:=j) (by rw[hl];exact ej)];exact Ϗ hj,q v _ H2 e1 (s1.trans s2) ((rc.mono s2).snocT rfl ha2 (Ϗ hj))⟩)
       ·cases e0
      ·cases e0
     ·cases e0
    ·rename_i c e0;exfalso;split at e0
     ·unfold pIx at e0;split at e0
      ·split at e0<;>cases e0
      ·split at e0<;>cases e0
      ·cases e0
     ·cases e0
    ·exact q.elim
end
section
variable (C:Addr) (X:Cx)
def pI (O:St) (z:R Rho) (H0:Hp) (Dn:gt):Prop:=match z with
 | .val ρ'=>∀H',iq C X H0 ρ' O H'->Dn.nx O H'
 | .exc c=>XS X c H0
 | .bad=>False
def tsI (F:Rho->R Rho):TS:=λDn O H=>∃U H0,iq C X H0 U O H/\pI C X O (F U) H0 Dn
def SDi (st:Stmt) (F:Rho->R Rho):Prop:=PS X st (tsI C X F)
end
section
variable {K:Frag} {C:Addr} {M H:Hp}
theorem TreP.setK {k:OK} {v:V} {d:D} {B:List Addr} (h:Tre K C M H k v d B):∀{ks:List OK} {vs:List V} {ds:List D} {A:List Addr} (j:Nat),TreP K C M H ks vs ds A->(∀a∈A,a∉B)->∃A',(∀a∈A',a∈A\/a∈B)/\TreP K C M H (ks.set j k) (vs.set j v) (ds.set j d) A'
 | _,_,_,_,_,.nil,_=>⟨[],λa ha=>.inl ha,.nil⟩
 | _,_,_,_,0,.cons (A:=A1) (B:=A2) g t n,f=>⟨B++A2,λa ha=>(Ϩ.mp ha).elim .inr λz=>.inl (ϐ _ z),.cons h t λa ha hb=>f a (ϐ _ hb) ha⟩
 | _,_,_,_,j+1,.cons (A:=A1) (B:=A2) g t n,f=>by
  obtain⟨A',h1,h2⟩:=TreP.setK h j t λa ha=>f a (ϐ _ ha);refine⟨A1++A',λa ha=>?_,.cons g h2 λa ha hb=>?_⟩
  ·rcases Ϩ.mp ha with z|z
   ·exact .inl (ϟ _ z)
   ·exact(h1 a z).imp (λy=>ϐ _ y) id
  ·rcases h1 a hb with z|z
   ·exact n a ha z
   ·exact f a (ϟ _ ha) z
end
def lq (i:Nat) (k':OK) (pp:List Nat) (f:List D->R (List D)):Rho->R Rho:=λU=>match U[i]? with
 | some (some (.tre k d))=>if eE k pp=some (.l k')then(match gv d pp with
  | some (.lst xs)=>(f xs).bind λys=>.val (U.set i (some (.tre k (io d pp (.lst ys)))))
  | _=>.bad)else .bad
 | _=>.bad
def apF (x:D) (xs:List D):R (List D):=if xs.length<LIM then .val (xs++[x])else .bad
def stF (n:D) (x:D) (xs:List D):R (List D):=match n with
 | .int n=>match ixN xs.length n with
  | some j=>.val (xs.set j x)
  | none=>.bad
 | _=>.bad
theorem E9 {x:D}:∀xs c,apF x xs ≠ .exc c:=λxs c e=>by unfold apF at e;split at e<;>cases e
theorem CO {n x:D}:∀xs c,stF n x xs ≠ .exc c:=λxs c e=>by
 unfold stF at e;split at e
 ·split at e<;>cases e
 ·cases e
def apP (i:Nat) (k':OK) (P:Rho->R (List Nat)) (e:Rho->R D):Rho->R Rho:=λU=>(P U).bind λpp=>(noE (e U)).bind λx=>lq i k' pp (apF x) U
def stP (i:Nat) (k':OK) (P:Rho->R (List Nat)) (b e:Rho->R D):Rho->R Rho:=λU=>(e U).bind λx=>(P U).bind λpp=>(b U).bind λn=>lq i k' pp (stF n x) U
variable {H0:Hp} {U:RB}
section
variable {C:Addr} {X:Cx}
def asO (F:Rho->R Rho):Rho->R Out:=λU=>(F U).bind λρ'=>.val (.nx ρ')
theorem FK {F:Rho->R Rho} (h:SDi C X st F):SD C X st (asO F):=aH h λD O H ⟨U,H0,r,q⟩=>⟨U,H0,r,by
 unfold asO at q;cases e:F U with
 | val ρ'=>rw[e]at q;exact λH' r'=>q O H' r'
 | exc c=>rw[e]at q;exact q
 | bad=>rw[e]at q;exact q⟩
theorem oM {Dn:gt} (r:b_ C X H0 U O H) (h:pI C X O (.exc c) H0 Dn):XE X c O H:=XS.xe (r.keep.trans msk_sub) h
theorem p_ {f:List D->R (List D)} {D:gt} (hf:∀xs c,f xs ≠ .exc c) (r:b_ C X H0 U O H) (q:pI C X O (lq i k' pp f U) H0 D) :
  ∃xs ys v a vs A0,f xs=.val ys/\O[i]?=some (some v)/\Reach H v pp (.ref a)/\H a=some (.lst vs)/\TreP X.K C (msk U O H) H (vs.map λ_=>k') vs xs A0/\a∉A0 /\
   ∀{H2:Hp} {ws:List V} {N B:List Addr},Same H H2->(∀b∈N,H b=none)->TreP X.K C (cut N (msk U O H2)) (upd H2 a (.lst ws)) (ws.map λ_=>k') ws ys B->(∀b∈B,b∈A0\/b∈N)->D.nx O (upd H2 a (.lst ws)):=by
 unfold lq at q;split at q
 ·rename_i k d er;by_cases ek:eE k pp=some (.l k')
  ·rw[if_pos ek]at q;split at q
   ·rename_i xs ed;cases ef:f xs with
    | val ys =>
     rw[ef]at q;obtain⟨v,a,vs,A0,e1,rc,ha,hp,hn,up⟩:=r.node er ek ed;exact⟨xs,ys,v,a,vs,A0,ef,e1,rc,ha,hp,hn,λ{H2 ws N B} s hN ht hs=>q _ ⟨_,rfl,up s hN ht hs⟩⟩
    | exc c=>exact(hf xs c ef).elim
    | bad=>rw[ef]at q;exact q.elim
   ·exact q.elim
  ·rw[if_neg ek]at q;exact q.elim
 ·exact q.elim
theorem nv {H2:Hp} {A0 N:List Addr} (r:b_ C X H0 U O H) (s:Same H H2) (ha:H a=some (.lst vs)) (hn:a∉A0) (hN:∀b∈N,H b=none) (hp:TreP X.K C (msk U O H) H (vs.map λ_=>k') vs xs A0) :
  TreP X.K C (cut N (msk U O H2)) (upd H2 a (.lst ws)) (vs.map λ_=>k') vs xs A0 :=
 hp.stay (λb o e=>cut_some.mpr ⟨λz=>Option.some_ne_none _ ((msk_some.mp e).2.symm.trans (hN b z)),az s b o e⟩)
  ⟨λb hb o e=>by rw[am λ(z:b=a)=>hn (z▸hb)];exact s b o e,λb us e=>by rw[am λ(z:b=a)=>by rw[z,ha]at e;cases e];exact s b _ e⟩
theorem qx {H1 H2:Hp} {y:V} {x:D} {N:List Addr} (ha:H a=some (.lst vs)) (s1:Same H H1) (s2:Same H1 H2) (hN:∀b∈N,H b=none) (h:Tre X.K C (cut N (msk U O H1)) H1 k' y x N) :
  Tre X.K C (cut N (msk U O H2)) (upd H2 a (.lst ws)) k' y x N :=
 h.stay (λb o e=>cut_some.mpr ⟨(cut_some.mp e).1,az s2 b o (cut_some.mp e).2⟩)
  ⟨λb hb o e=>by rw[am λ(z:b=a)=>Option.some_ne_none _ (ha.symm.trans (z▸hN b hb))];exact s2 b o e,λb us e=>by rw[am λ(z:b=a)=>by rw[z,s1 _ _ ha]at e;cases e];exact s2 b _ e⟩
theorem n0 {A0 N:List Addr} (hN:∀b∈N,H b=none) (hp:TreP X.K C (msk U O H) H (vs.map λ_=>k') vs xs A0):∀b∈A0,b∉N:=λb hb z=>by
 obtain⟨us,e⟩:=hp.lists b hb;rw[hN b z]at e;cases e
theorem w5 {e:Expr} (ho:ND C X i o P) (he:KD C X k' e F)
  (hs:∀{to:TE} {t:TA},PE X o to->PA X [e] t->PS X (.Expr (.Call (.Attribute o "append" ap) [e] [] cp) pos) (j4 (tBM X.K "list" oC to t)):=by
   exact λho ha=>fR (iX ϴ PySem.F.slot_list_append PySem.F.type_list_append jJ ho ha))
  (hst:starEach [e] X.env=(false,eval e X.env)::starEach [] X.env:=by rfl) :
  SDi C X (.Expr (.Call (.Attribute o "append" ap) [e] [] cp) pos) (apP i k' P F) :=
 aH (hs ho (aQ he bH hst)) λD O H ⟨_,H0,⟨U,er,r⟩,q⟩=>by
  subst er;refine⟨U,⟨H0,r⟩,?_⟩;unfold apP at q;cases eP:P U with
  | exc c=>rw[eP]at q;exact oM r q
  | bad=>rw[eP]at q;exact q.elim
  | val pp =>
   rw[eP]at q;dsimp only[DL.R.bind]at q;intro v w H1 e1 s1 rc;cases eF:F U with
   | exc c=>rw[eF]at q;exact q.elim
   | bad=>rw[eF]at q;exact q.elim
   | val x =>
    rw[eF]at q;obtain⟨xs,ys,v0,a,vs,A0,ef,e2,rc0,ha,hp,hn,up⟩:=p_ E9 r q;rw[e1]at e2;cases e2;have:=Reach.det (rc0.mono s1) rc;subst this;unfold apF at ef;by_cases hl:xs.length<LIM
    ·rw[if_pos hl]at ef;cases ef;refine⟨.inl ⟨rfl,_,SqL.of (s1 _ _ ha)⟩,U,⟨H0,r.mono s1⟩,?_⟩;rw[eF];intro y H2 N s2 hN hy;have hN':∀b∈N,H b=none:=λb hb=>dQ s1 (hN b hb);refine⟨a,vs,y,rfl,rfl,s2 _ _ (s1 _ _ ha),by rw[hp.len.1];exact Ϛ hl (by decide),?_⟩;obtain⟨B,hB,h3⟩:=TreP.app (qx (ws:=vs++[y]) ha (s1.trans s2) (Same.refl _) hN' hy) (nv (ws:=vs++[y]) r (s1.trans s2) ha hn hN' hp) (n0 hN' hp);exact up (s1.trans s2) hN' (by rw[Ϭ];exact h3) λb hb=>(hB b).mp hb
    ·rw[if_neg hl]at ef;cases ef
theorem uk {b e:Expr} {sp:Pos} (ho:ND C X i o P) (hb:ED C X b Fb) (he:KD C X k' e F)
  (ha:∀v,assign (.Subscript o b sp) X.env v=(do
   let ov <- holding [v] (eval o X.env)
   let iv <- holding [v,ov] (eval b X.env)
   standAt sp
   holding [v,ov,iv] (setItem ov iv v)
   release [v,ov,iv] []):=by intro _;rfl)
  (hs:swapsWithSole [.Subscript o b sp] e pos.line X.env=pure false:=by rfl) (hw:swappedStores [.Subscript o b sp] e X.env=pure none:=by rfl)
  (h1:(assignEach [.Subscript o b sp] X.env).map (·.2)=[assign (.Subscript o b sp) X.env]:=by rfl) :
  SDi C X (.Assign [.Subscript o b sp] e pos) (stP i k' P Fb F) :=
 aH (oH he (sC ho hb wT ha) hs hw h1) λD O H ⟨_,H0,⟨U,er,r⟩,q⟩=>by
  subst er;refine⟨U,⟨H0,r⟩,?_⟩;unfold stP at q;cases eF:F U with
  | exc c=>rw[eF]at q;exact oM r q
  | bad=>rw[eF]at q;exact q.elim
  | val x =>
   rw[eF]at q;dsimp only[DL.R.bind]at q;intro y H1 N s1 hN hy;refine⟨U,⟨H0,r.mono s1⟩,?_⟩;cases eP:P U with
   | exc c=>rw[eP]at q;exact oM (r.mono s1) q
   | bad=>rw[eP]at q;exact q.elim
   | val pp =>
    rw[eP]at q;dsimp only at q;intro v w H2 e1 s2 rc;refine⟨U,⟨H0,(r.mono s1).mono s2⟩,?_⟩;cases eb:Fb U with
    | exc c=>rw[eb]at q;exact oM ((r.mono s1).mono s2) q
    | bad=>rw[eb]at q;exact q.elim
    | val n =>
     rw[eb]at q;dsimp only at q;intro iv H3 s3 hiv;obtain⟨xs,ys,v0,a,vs,A0,ef,e2,rc0,hA,hp,hn,up⟩:=p_ CO r q;rw[e1]at e2;cases e2;have:=Reach.det (rc0.mono (s1.trans s2)) rc;subst this;unfold stF at ef;cases n with
     | int n =>
      cases hiv;dsimp only at ef;cases ej:ixN xs.length n with
      | none=>rw[ej]at ef;cases ef
      | some j =>
       rw[ej]at ef;cases ef;have s:Same H H3:=(s1.trans s2).trans s3;refine⟨a,vs,n,j,rfl,rfl,s _ _ hA,by rw[hp.len.1];exact ej,?_⟩;obtain⟨B,hB,h3⟩:=TreP.setK (qx (ws:=vs.set j y) hA s1 (s2.trans s3) hN hy) j (nv (ws:=vs.set j y) r s hA hn hN hp) (n0 hN hp);exact up s hN (by rw[List.map_set];exact h3) hB
     | _=>cases ef
end
section
variable {K:Frag} {C:Addr} {M M' H:Hp}
theorem TreP.each:∀{ks:List OK} {vs:List V} {ds:List D} {A:List Addr},TreP K C M H ks vs ds A->∃f:Nat->List Addr,(∀(j:Nat) k d,ks[j]?=some k->ds[j]?=some d->∃v,vs[j]?=some v/\Tre K C M H k v d (f j))/\(∀j a,a∈f j->a∈A/\j<ks.length)/\(∀i j a,a∈f i->a∈f j->i=j)/\∀a∈A,∃j,a∈f j
 | _,_,_,_,.nil=>⟨λ_=>[],λj k d e=>by simp at e,λj a h=>(Ϡ h).elim,λi j a h=>(Ϡ h).elim,λa h=>(Ϡ h).elim⟩
 | _,_,_,_,.cons (v:=v) (A:=A1) (B:=A2) h t n=>by
  obtain⟨f,h1,h2,h3,h4⟩:=TreP.each t;refine⟨λj=>match j with|0=>A1|j+1=>f j,λj k d e1 e2=>?_,λj a ha=>?_,λi j a x y=>?_,λa ha=>?_⟩
  ·cases j with
   | zero=>cases e1;cases e2;exact⟨v,rfl,h⟩
   | succ j=>exact h1 j k d e1 e2
  ·cases j with
   | zero=>exact⟨ϟ _ ha,Nat.succ_pos _⟩
   | succ j=>exact⟨ϐ _ (h2 j a ha).1,Nat.succ_lt_succ (h2 j a ha).2⟩
  ·cases i with
   | zero=>cases j with
    | zero=>rfl
    | succ j=>exact absurd (h2 j a y).1 (n a x)
   | succ i=>cases j with
    | zero=>exact absurd (h2 i a x).1 (n a y)
    | succ j=>exact congrArg Nat.succ (h3 i j a x y)
  ·rcases Ϩ.mp ha with z|z
   ·exact⟨0,z⟩
   ·obtain⟨j,z⟩:=h4 a z;exact⟨j+1,z⟩
theorem TreP.join:∀{ks:List OK} {vs:List V} {ds:List D} (f:Nat->List Addr),ks.length=ds.length->vs.length=ds.length->(∀(j:Nat) k v d,ks[j]?=some k->vs[j]?=some v->ds[j]?=some d->∃B,(∀a∈B,a∈f j)/\Tre K C M H k v d B)->(∀i j a,a∈f i->a∈f j->i=j)->∃A,(∀a∈A,∃j,a∈f j)/\TreP K C M H ks vs ds A
 | [],[],[],f,_,_,_,_=>⟨[],λa h=>(Ϡ h).elim,.nil⟩
 | k::ks,v::vs,d::ds,f,l1,l2,h,dj=>by
  obtain⟨B,b1,b2⟩:=h 0 k v d rfl rfl rfl;obtain⟨A,a1,a2⟩:=TreP.join (ks:=ks) (vs:=vs) (ds:=ds) (λj=>f (j+1)) (Nat.succ.inj l1) (Nat.succ.inj l2) (λj k v d e1 e2 e3=>h (j+1) k v d e1 e2 e3) λi j a x y=>Nat.succ.inj (dj (i+1) (j+1) a x y);refine⟨B++A,λa ha=>?_,.cons b2 a2 λa ha hb=>?_⟩
  ·rcases Ϩ.mp ha with z|z
   ·exact⟨0,b1 a z⟩
   ·obtain⟨j,z⟩:=a1 a z;exact⟨j+1,z⟩
  ·obtain⟨j,z⟩:=a1 a hb;cases dj 0 (j+1) a (b1 a ha) z
 | [],_::_,[],_,_,l2,_,_=>by cases l2
 | [],_,_::_,_,l1,_,_,_=>by cases l1
 | _::_,_,[],_,l1,_,_,_=>by cases l1
 | _::_,[],_::_,_,_,l2,_,_=>by cases l2
end
def stM (N:List Str) (ks:List OK) (ds es:List D):Rho:=(List.zipWith (λk d=>some (Slt.tre k d)) ks ds)++(es.map (λd=>some (Slt.shr d))++List.replicate (N.length-ds.length-es.length) none)
theorem CN {ks:List OK} {ds es:List D} (hl:ks.length=ds.length) (h:(stM N ks ds es)[i]?=some (some sl)):(∃k d,ks[i]?=some k/\ds[i]?=some d/\sl=.tre k d)\/∃j d,i=ds.length+j/\es[j]?=some d/\sl=.shr d:=by
 unfold stM at h;have zl:(List.zipWith (λk d=>some (Slt.tre k d)) ks ds).length=ds.length:=by rw[List.length_zipWith,hl,Nat.min_self]
 by_cases hi:i<ds.length
 ·rw[ϡ (by rw[zl];exact hi),List.getElem?_zipWith]at h;rw[Ϗ (by rw[hl];exact hi),Ϗ hi]at h;cases h;exact .inl ⟨_,_,Ϗ (by rw[hl];exact hi),Ϗ hi,rfl⟩
 ·rw[Ϸ (by rw[zl];omega),zl]at h;by_cases hj:i-ds.length<es.length
  ·rw[ϡ (by rw[ϋ];exact hj),ϥ,Ϗ hj]at h;cases h;exact .inr ⟨i-ds.length,_,by omega,Ϗ hj,rfl⟩
  ·rw[Ϸ (by rw[ϋ];omega),Ι]at h;split at h<;>cases h
def lD:List OK->Rho->R (List D)
 | [],_=>.val []
 | k::ks,some (.tre k' d)::U=>if k'=k then(lD ks U).bind λds=>.val (d::ds)else .bad
 | _::_,_=>.bad
theorem qs:∀{ks:List OK} {U:Rho} {ds:List D},lD ks U=.val ds->ks.length=ds.length/\∀(j:Nat) k d,ks[j]?=some k->ds[j]?=some d->U[j]?=some (some (.tre k d))
 | [],U,ds,h=>by unfold lD at h;cases h;exact⟨rfl,λj k d e=>by simp at e⟩
 | k::ks,[],ds,h=>by unfold lD at h;cases h
 | k::ks,o::U,ds,h=>by
  cases o with
  | none=>unfold lD at h;cases h
  | some sl =>
   cases sl with
   | tre k' d =>
    unfold lD at h;by_cases ek:k'=k
    ·rw[if_pos ek]at h;cases e:lD ks U with
     | val ds2 =>
      rw[e]at h;cases h;obtain⟨h1,h2⟩:=qs e;refine⟨congrArg Nat.succ h1,λj k2 d2 e1 e2=>?_⟩;cases j with
      | zero=>cases e1;cases e2;rw[ek];rfl
      | succ j=>exact h2 j k2 d2 e1 e2
     | exc c=>rw[e]at h;cases h
     | bad=>rw[e]at h;cases h
    ·rw[if_neg ek]at h;cases h
   | _=>unfold lD at h;cases h
section
variable (C:Addr) (X:Cx)
def pJ (m:Nat) (O:St) (z:R Rho) (H0:Hp) (Dn:gt):Prop:=match z with
 | .val ρ'=>∀σ' H',(∀i:Nat,i<m->σ'[i]?=O[i]?)->iq C X H0 ρ' σ' H'->Dn.nx σ' H'
 | _=>False
def tsJ (m:Nat) (F:Rho->R Rho):TS:=λDn O H=>∃U H0,iq C X H0 U O H/\pJ C X m O (F U) H0 Dn
def SDj (m:Nat) (st:Stmt) (F:Rho->R Rho):Prop:=PS X st (tsJ C X m F)
def wt (m:Nat) (st:List Stmt) (F:Rho->R Rho):Prop:=PSs X st (tsJ C X m F)
end
def ifJ (t:Rho->R Bool) (a b:Rho->R Rho):Rho->R Rho:=λU=>(t U).bind λc=>if c=true then a U else b U
def nxJ:Rho->R Rho:=λU=>.val U
section
variable {C:Addr} {X:Cx} {m:Nat}
theorem FI {F:Rho->R Rho} (h:SDi C X st F):SDj C X m st F:=aH h λD O H ⟨U,H0,r,q⟩=>⟨U,H0,r,by
 cases e:F U with
 | val ρ'=>rw[e]at q;exact λH' r'=>q O H' (λ_ _=>rfl) r'
 | exc c=>rw[e]at q;exact q.elim
 | bad=>rw[e]at q;exact q⟩
theorem wZ:wt C X m [] nxJ:=cg uz λD O H ⟨U,H0,r,q⟩=>q O H (λ_ _=>rfl) r
theorem wY {F:Rho->R Rho} (h:SDj C X m st F):wt C X m [st] F:=eI h
theorem CY {c:Expr} {a b:List Stmt} {Ft:Rho->R Bool} {Fa Fb:Rho->R Rho} (hc:TD C X c Ft) (ha:wt C X m a Fa) (hb:wt C X m b Fb):SDj C X m (.If c a b pos) (ifJ Ft Fa Fb) :=
 aH (xz hc ha hb) λD O H ⟨_,H0,⟨U,er,r⟩,q⟩=>by
  subst er;refine⟨U,⟨H0,r⟩,?_⟩;unfold ifJ at q;cases e:Ft U with
  | val c =>
   rw[e]at q;intro H1 s1;cases c with
   | true=>exact sU ⟨U,H0,(r.mono s1).e,q⟩
   | false=>exact sV ⟨U,H0,(r.mono s1).e,q⟩
  | exc c=>rw[e]at q;exact q.elim
  | bad=>rw[e]at q;exact q.elim
end
section
variable {P:Program} {w:World} {K:Frag} {mg:Str->Option Value} {base:Heap} {C:Addr}
theorem su {ks:List OK} {us:List V} {ds es:List D} {A:List Addr} (h1:TreP K C (cut A H) H ks us ds A) (h2:HasL K C (cut A H) ws es) (hl:ds.length+es.length<=N.length):tR K C (cut A H) (stM N ks ds es) (L2.start N (us++ws)) H:=by
 obtain⟨f,f1,f2,f3,f4⟩:=h1.each;obtain⟨l1,l2⟩:=h1.len;have zl:(List.zipWith (λk d=>some (Slt.tre k d)) ks ds).length=ds.length:=by rw[List.length_zipWith,l2,Nat.min_self]
 have st:∀{i:Nat} {v:V},(us++ws)[i]?=some v->(L2.start N (us++ws))[i]?=some (some v):=λ{i v} e=>by
  have hi:i<(us++ws).length:=(ώ.mp e).1;unfold L2.start;rw[ϡ (by simpa using hi),ϥ,e];rfl
 have sub:Same (cut A H) (msk ⟨stM N ks ds es,f⟩ (L2.start N (us++ws)) H):=λb o e=>by
  obtain⟨g1,g2⟩:=cut_some.mp e;exact msk_some.mpr ⟨λ⟨j,z⟩=>g1 (f2 j b z).1,g2⟩
 refine⟨⟨stM N ks ds es,f⟩,rfl,?_,sub,λi sl e=>?_,f3,λi a z=>.inl (h1.lists a (f2 i a z).1),λi a z=>?_⟩
 ·show(stM N ks ds es).length=_;unfold stM L2.start;rw[Ϝ,zl,Ϝ,ϋ,ϻ,Ϝ,ϋ,Ϝ,ϻ,l1,h2.len];omega
 ·rcases CN l2 e with⟨k,d,e1,e2,rfl⟩|⟨j,d,rfl,e2,rfl⟩
  ·obtain⟨v,e3,h3⟩:=f1 i k d e1 e2;exact⟨v,f i,st (by rw[ϡ (ώ.mp e3).1];exact e3),λa ha=>ha,h3.stay sub (.of (Same.refl _))⟩
  ·obtain⟨v,e3,h3⟩:=h2.get e2;exact⟨v,st (by rw[Ϸ (by omega),l1,Nat.add_sub_cancel_left];exact e3),h3.mono sub⟩
 ·show i<(stM N ks ds es).length;unfold stM;rw[Ϝ,zl,<- l2];exact Ϛ (f2 i a z).2 (η _ _)
end
section
variable {C:Addr} {X:Cx}
end
def ip:List Int->Int
 | []=>0
 | [i]=>i
 | i::j::r=>max i (ip (j::r))
theorem qL:∀{l:List Int},l≠[]->ip l∈l
 | [i],_=>ϓ.mpr rfl
 | i::j::r,_=>by
  unfold ip;rcases Int.le_total i (ip (j::r))with h|h
  ·rw[Int.max_eq_right h];exact ϑ _ (qL (by simp))
  ·rw[Int.max_eq_left h];exact ϛ
theorem uP:∀{l:List Int} {a:Int},a∈l->a<=ip l
 | [i],a,h=>by rw[ϓ.mp h];exact Int.le_refl _
 | i::j::r,a,h=>by
  unfold ip;rcases Ϣ.mp h with rfl|h
  ·exact Int.le_max_left _ _
  ·exact Int.le_trans (uP h) (Int.le_max_right _ _)
theorem vV {l:List Int} {m:Int} (h1:m∈l) (h2:∀a∈l,a<=m):m=ip l :=
 Int.le_antisymm (uP h1) (h2 _ (qL (List.ne_nil_of_mem h1)))
def gJ:D->R D
 | .lst xs=>match fA xs with
  | some is=>if 0<is.length then .val (.int (ip is))else .bad
  | none=>.bad
 | _=>.bad
section
variable {C:Addr} {X:Cx}
def FS:List V->Hp->VK->Prop:=λvs H Q=>∃(l:Addr) (is:List Int),vs=[.ref l]/\H l=some (.lst (is.map V.int))/\0<is.length/\Q (.int (ip is)) H
theorem wn (hc:X.calm=true):hV X (.builtin "max") FS:=by
 intro pins s O H xs us Q I rv h;obtain⟨l,is,rfl,e,hl0,q⟩:=h;obtain⟨u,rfl,ru⟩:=lj rv;obtain rfl:=(show u=Value.ref l from ru);obtain⟨z,its,m,r,hl,eo⟩:=I.lstM e;have hi:=lT r;obtain⟨ys,ey⟩:=hi.allInts.items;have hns:is=ys.toList.map (·.1):=by rw[<- hi.numsOf,<- nums_intItems,<- ey]
 have hsz:0<ys.size:=by have h3:=hl0;rw[hns,ϋ,ν]at h3;exact h3
 have hL:s.heap.IsList l (intItems ys):=by rw[<- ey];exact⟨_,eo,rfl,m,rfl⟩
 refine max_intList (I.ok.hd hc) hL hsz λv h' tk hv hk=>?_;obtain⟨t,rfl⟩:=intItems_at hv;obtain⟨h1,h2⟩:=argBest_gt (numAt ys) (ys.size-1);refine⟨.int (ip is),H,I.kept (t':=tk) hk,⟨t,?_⟩,q⟩;have:numAt ys (argBest (λi j=>decide (numAt ys i>numAt ys j)) (ys.size-1))=ip is:=by
  refine vV ?_ λa ha=>?_
  ·rw[hns,numAt_eq];exact getD_mem (by rw[ϋ,ν];omega)
  ·rw[hns]at ha;obtain⟨j,hj,rfl⟩:=mem_getD ha;rw[ϋ,ν]at hj;rw[<- numAt_eq];exact h2 j (by omega)
 rw[this]
theorem Bw {e:Expr} (hc:X.calm=true) (hg:Gl X "max") (hm:X.mg "max"=none) (hst:starEach [e] X.env=(false,eval e X.env)::starEach [] X.env) (he:EB C X e F) :
  ED C X (.Call (.Name "max" p) [e] [] pos) (una gJ F) :=
 ao (dW (wn hc) hg hm boot_max (aQ he bH hst) (he:=hst) (hpl:=dJ)) λO H Q ⟨U,r0,q⟩=>⟨U,r0,au (P:=λz H=>pV X (bS C X U O) z O H Q) (λ_ h=>h) (λh=>h) q λy v H1 s1 h1 q1=>by
  cases y with
  | lst xs =>
   unfold gJ at q1;dsimp only at q1;split at q1
   ·rename_i is eb;obtain⟨a,vs,rfl,e1,h2⟩:=h1.lst msk_sub;obtain rfl:=ib eb h2;by_cases hl:0<is.length
    ·rw[if_pos hl]at q1;exact⟨a,is,rfl,e1,hl,q1 _ H1 s1 (.int _)⟩
    ·rw[if_neg hl]at q1;exact q1.elim
   ·exact q1.elim
  | _=>exact q1.elim⟩
def isN (t:Int):Value->Bool
 | .int a _=>a==t
 | _=>false
def B6:V->List V->Hp->VK->Prop:=λx vs H Q=>∃(l:Addr) (is:List Int) (t:Int) (j:Nat),x=.ref l/\vs=[.int t]/\H l=some (.lst (is.map V.int))/\is.length<=100000/\is.findIdx? (· == t)=some j/\Q (.int (j:Int)) H
theorem gu:∀{is:List Int} {us:List Value} {m:Nat} {y:Value},Vals (is.map V.int) us->us[m]?=some y->∃i t,is[m]?=some i/\y=.int i t
 | [],_,_,_,.nil,e=>by simp at e
 | i::is,_,0,y,.cons r t,e=>by
  rw[π]at e;cases e;obtain⟨tk,rfl⟩:=(show ∃t,_=Value.int i t from r);exact⟨i,tk,rfl,rfl⟩
 | i::is,_,m+1,y,.cons r t,e=>by
  rw[Β]at e;obtain⟨i',t',e1,e2⟩:=gu t e;exact⟨i',t',by rw[Β];exact e1,e2⟩
theorem vS:MtM X "list.index" B6:=by
 intro pins s O H x vs v us Q I rx rv h;obtain⟨l,is,t,j,rfl,rfl,hH,hlen,hj,q⟩:=h;cases rx;obtain⟨u1,rfl,r1⟩:=rv.one;obtain⟨tk,rfl⟩:=(show ∃tk,u1=Value.int t tk from r1);obtain⟨z,its,n,r,hl,e⟩:=I.lstM hH;obtain⟨hjl,hjt,hjn⟩:=List.findIdx?_eq_some_iff_getElem.mp hj;have hil:its.length=is.length:=by have:=r.length;rw[ϋ]at this;exact this.symm
 have at_:∀(m:Nat) (hm:m<its.length),isN t its[m]=(is[m]'(by omega)==t):=λm hm=>by
  obtain⟨i,tk',e1,e2⟩:=gu r (Ϗ hm);have hm2:m<is.length:=by omega
  rw[Ϗ hm2]at e1;rw[e2,<- Ϥ e1];rfl
 refine call_meets Ψ ⟨_,e,rfl⟩ PySem.F.entry_list_index (PySem.F.args_list_index_2 _ _) (SeqAt.list_indexAt l _ n none #[] (.int t tk) (isN t) j (by simp;omega) (by omega) (by
  have:=at_ j (by omega);simp only[List.getElem_toArray];rw[this];simpa using hjt) (λm hm hlt=>by
  have hm':m<its.length:=by simpa using hm
  have:=at_ m hm';simp only[List.getElem_toArray];rw[this];have:=hjn m hlt;simpa using this)) ⟨e,λy hy=>?_,?_⟩
 ·have hy:y∈its:=by simpa using hy
  obtain⟨m,hm⟩:=List.getElem?_of_mem hy;obtain⟨i,tk',_,rfl⟩:=gu r hm;exact SeqAt.EqAt.int_int i tk' t tk
 ·exact⟨.int _,H,I.tok _,⟨_,rfl⟩,q⟩
def yK:D->D->R D
 | .lst xs,.int t=>match fA xs with
  | some is=>if is.length<=100000 then match is.findIdx? (· == t)with
   | some j=>.val (.int (j:Int))
   | none=>.bad
   else .bad
  | none=>.bad
 | _,_=>.bad
def sX (Fo F:Rho->R D):Rho->R D:=λU=>(Fo U).bind λx=>match x with
 | .lst xs=>(F U).bind (yK (.lst xs))
 | _=>.bad
theorem y7 {e:Expr} {Fo:Rho->R D} (ho:EB C X o Fo) (he:ED C X e F) (hst:starEach [e] X.env=(false,eval e X.env)::starEach [] X.env)
  (hs:∀{to:TE} {t:TA},PE X o to->PA X [e] t->PE X (.Call (.Attribute o "index" ap) [e] [] cp) (tBM X.K "list" B6 to t):=by
   exact λho ha=>iX ϴ Ψ PySem.F.type_list_index vS ho ha) :
  ED C X (.Call (.Attribute o "index" ap) [e] [] cp) (sX Fo F) :=
 ao (hs ho (aQ he bH hst)) λO H Q ⟨U,⟨H0,r0⟩,q⟩=>⟨U,⟨H0,r0⟩,au (P:=λz H=>pV X (bS C X U O) z O H Q) (λ_ h=>h) (λh=>h) q λy v H1 s1 h1 q1=>by
  cases y with
  | lst xs =>
   obtain⟨a,vs,rfl,e1,h2⟩:=h1.lst msk_sub;refine⟨.inl ⟨rfl,_,SqL.of e1⟩,U,⟨H0,r0.mono s1⟩,au (P:=λz H=>pV X (bS C X U O) z O H Q) (λ_ h=>h) (λh=>h) (q1.mono s1) λy w H2 s2 h3 q2=>?_⟩;cases y with
   | int t =>
    cases h3;unfold yK at q2;dsimp only at q2;split at q2
    ·rename_i is eb;obtain rfl:=ib eb h2;by_cases hl:is.length<=100000
     ·rw[if_pos hl]at q2;split at q2
      ·rename_i j ej;exact⟨a,is,t,j,rfl,rfl,s2 _ _ e1,hl,ej,q2 _ H2 s2 (.int _)⟩
      ·exact q2.elim
     ·rw[if_neg hl]at q2;exact q2.elim
    ·exact q2.elim
   | _=>exact q2.elim
  | _=>exact q1.elim⟩
end
section
variable {C:Addr} {X:Cx}
def pFR (C:Addr) (X:Cx) (r:R (List D)) (O:St) (H:Hp) (Q:VK):Prop:=match r with
 | .val xs=>∀a vs H1,Same H H1->H1 a=none->HasL X.K C H1 vs xs->Q (.ref a) (upd H1 a (.lst vs))
 | .exc c=>XE X c O H
 | .bad=>False
variable (C X) in
def G2 (F:Rho->R (List D)):TE:=λO H Q=>∃U:RB,(∃H0,b_ C X H0 U O H)/\pFR C X (F U) O H Q
variable (C X) in
def FR (e:Expr) (F:Rho->R (List D)):Prop:=PE X e (G2 C X F)
theorem GF {e:Expr} {F:Rho->R (List D)} (h:FR C X e F):ER C X e (eLs F):=ao h λO H Q ⟨U,r0,q⟩=>⟨U,r0,by
 unfold eLs at q;cases z:F U with
 | val xs=>rw[z]at q;exact λa vs H1 s1 hn h1=>q _ _ (s1.trans (aq hn)) (.lst ax (h1.mono (aq hn)))
 | exc c=>rw[z]at q;exact q
 | bad=>rw[z]at q;exact q⟩
def jU (xs:List D) (lo hi:Option Int):List D:=(xs.drop (HT.sIx xs.length 0 lo)).take (HT.sIx xs.length xs.length hi-HT.sIx xs.length 0 lo)
theorem HasL.cut {lo hi:Option Int} (h:HasL K C H vs xs):HasL K C H (wl vs lo hi) (jU xs lo hi):=by
 unfold wl jU;rw[h.len];exact(h.drop _).take _
variable (C X) in
def toP (F:Rho->R (Option Int)):TO:=λO H Q=>∃U:RB,(∃H0,b_ C X H0 U O H)/\match F U with
 | .val o=>∀H',Same H H'->Q o H'
 | .exc c=>XE X c O H
 | .bad=>False
variable (C X) in
def PD (e:Option Expr) (F:Rho->R (Option Int)):Prop:=PO X e (toP C X F)
def oN:Rho->R (Option Int):=λ_=>.val none
def oS (F:Rho->R D):Rho->R (Option Int):=λU=>(F U).bind λd=>match d with
 | .int i=>.val (some i)
 | _=>.bad
theorem Ao:PD C X none oN:=λpins s O H Q I ⟨U,r,q⟩=>Af pins s O H Q I (q H (Same.refl _))
theorem An {e:Expr} (h:ED C X e F):PD C X (some e) (oS F):=λpins s O H Q I ⟨U,r,q⟩=>Ae h pins s O H Q I ⟨U,r,by
 unfold oS at q;cases z:F U with
 | val d =>
  rw[z]at q;intro v H' s' hv;cases d with
  | int i=>cases hv;exact⟨i,rfl,q H' s'⟩
  | _=>exact q.elim
 | exc c=>rw[z]at q;exact q
 | bad=>rw[z]at q;exact q⟩
def fSl (F:Rho->R D) (Fl Fh:Rho->R (Option Int)):Rho->R (List D):=λU=>(F U).bind λx=>(Fl U).bind λl=>(Fh U).bind λh=>match x with
 | .lst xs=>.val (jU xs l h)
 | _=>.bad
theorem yL {e:Expr} {lo hi:Option Expr} {Fl Fh:Rho->R (Option Int)} (he:EB C X e F) (hl:PD C X lo Fl) (hh:PD C X hi Fh):FD C X (.Subscript e (.Slice lo hi none p2) pos) (fSl F Fl Fh) :=
 ao (qr uf he hl hh) λO H Q ⟨U,⟨H0,r0⟩,q⟩=>⟨U,⟨H0,r0⟩,au (P:=λz H=>pF (X:=X) (eW C X U O) z O H Q) (λ_ h=>h) (λh=>h) q λx v H1 s1 h1 q1=>by
  refine⟨U,⟨H0,r0.mono s1⟩,?_⟩;cases zl:Fl U with
  | exc c=>rw[zl]at q1;exact XE.mono s1 q1
  | bad=>rw[zl]at q1;exact q1
  | val l =>
   rw[zl]at q1;dsimp only[DL.R.bind]at q1;intro H2 s2;refine⟨U,⟨H0,(r0.mono s1).mono s2⟩,?_⟩;cases zh:Fh U with
   | exc c=>rw[zh]at q1;exact XE.mono (s1.trans s2) q1
   | bad=>rw[zh]at q1;exact q1
   | val h =>
    rw[zh]at q1;dsimp only at q1;intro H3 s3;cases x with
    | lst xs =>
     obtain⟨a,vs,rfl,e1,h2⟩:=h1.lst msk_sub;exact⟨a,vs,rfl,SqL.of (s3 _ _ (s2 _ _ e1)),λp hp=>q1 p _ H3 ((s1.trans s2).trans s3) hp (HasL.cut (h2.mono (az (s2.trans s3))))⟩
    | _=>exact q1.elim⟩
theorem yr {e:Expr} {lo hi:Option Expr} {Fl Fh:Rho->R (Option Int)} (he:ER C X e F) (hl:PD C X lo Fl) (hh:PD C X hi Fh):FR C X (.Subscript e (.Slice lo hi none p2) pos) (fSl F Fl Fh) :=
 ao (qr uf he hl hh) λO H Q ⟨U,⟨H0,r0⟩,q⟩=>⟨U,⟨H0,r0⟩,au (P:=λz H=>pFR C X z O H Q) (λ_ h=>h) (λh=>h) q λx v H1 s1 h1 q1=>by
  refine⟨U,⟨H0,r0.mono s1⟩,?_⟩;cases zl:Fl U with
  | exc c=>rw[zl]at q1;exact XE.mono s1 q1
  | bad=>rw[zl]at q1;exact q1
  | val l =>
   rw[zl]at q1;dsimp only[DL.R.bind]at q1;intro H2 s2;refine⟨U,⟨H0,(r0.mono s1).mono s2⟩,?_⟩;cases zh:Fh U with
   | exc c=>rw[zh]at q1;exact XE.mono (s1.trans s2) q1
   | bad=>rw[zh]at q1;exact q1
   | val h =>
    rw[zh]at q1;dsimp only at q1;intro H3 s3;cases h1 with
    | lst e1 h2=>exact⟨_,_,rfl,SqL.of (s3 _ _ (s2 _ _ e1)),λp hp=>q1 p _ H3 ((s1.trans s2).trans s3) hp (HasL.cut (h2.mono (s2.trans s3)))⟩
    | _=>exact q1.elim⟩
def oK (i j:Nat) (k0 k1:OK) (F0 F1:Rho->R D):Rho->R Out:=λU=>(F0 U).bind λx=>(F1 U).bind λy=>if bB k1 y=true then .val (.nx ((U.set i (some (.tre k0 x))).set j (some (.tre k1 y))))else .bad
theorem um {k0 k1:OK} {e0 e1:Expr} {F0 F1:Rho->R D} (h0:KD C X k0 e0 F0) (h1:KD C X k1 e1 F1) (hs0:starEach [e0,e1] X.env=(false,eval e0 X.env)::starEach [e1] X.env) (hs1:starEach [e1] X.env=(false,eval e1 X.env)::starEach [] X.env)
  (h:∀{t:TA},PA X [e0,e1] t->PS X st (zJ i j t)):SD C X st (oK i j k0 k1 F0 F1) :=
 aH (h (aQ h0 (aQ h1 bH hs1) hs0)) λD O H ⟨_,H0,⟨U,er,r⟩,q⟩=>by
  subst er;refine⟨U,⟨H0,r⟩,?_⟩;unfold oK at q;cases z0:F0 U with
  | exc c=>rw[z0]at q;exact bN r q
  | bad=>rw[z0]at q;exact q
  | val x =>
   rw[z0]at q;dsimp only[DL.R.bind]at q;intro v H1 A s1 hA hv;refine⟨U,⟨H0,r.mono s1⟩,?_⟩;cases z1:F1 U with
   | exc c=>rw[z1]at q;exact bN (r.mono s1) q
   | bad=>rw[z1]at q;exact q
   | val y =>
    rw[z1]at q;dsimp only at q;by_cases hf:bB k1 y=true
    ·rw[if_pos hf]at q;intro w H2 B s2 hB hw;have r1:=r.setTre (i:=i) s1 hA hv;exact⟨v,w,rfl,q _ _ ⟨_,rfl,r1.setTre (i:=j) s2 hB (hw.remask hf)⟩⟩
    ·rw[if_neg hf]at q;exact q.elim
end
section
variable {C:Addr} {X:Cx}
end
section
variable {K:Frag} {C:Addr} {H0 H M:Hp} {U:RB} {O:St}
end
section
variable {K:Frag} {C:Addr} {H0 H M:Hp} {U:RB} {O:St}
end
section
variable {C:Addr} {X:Cx}
end
section
variable {C:Addr} {X:Cx}
end
end DL
namespace DL
end DL
namespace DL
open PySem.W PyProof.Rows
section
variable {n:Nat} {r:Nat->Nat}
end
end DL
namespace DL
open PySem PySem.Spec PyProof.Rows L2
open PySem.MeetsSeq3 in
open PySem.AutoSeq1 (wpAny_loadPart') in
open PySem.MeetsSeq3 in
open PySem.AutoSeq1 (wpAny_loadPart') in
section
variable {prog:Program} {w:World} {A:Around} {E:Value->Shared->Prop} {s:Shared}
end
section
variable {prog:Program} {w:World} {A:Around} {E:Value->Shared->Prop} {s:Shared}
end
section
variable {C:Addr} {X:Cx}
end
section
variable (C:Addr) (X:Cx)
def pE (O:St) (H:Hp) (o:R Out) (H0:Hp) (Dn:gt):Prop:=match o with
 | .exc c=>XE X c O H
 | o=>pS C X o H0 Dn
def tsE (F:Rho->R Out):TS:=λDn O H=>∃U H0,iq C X H0 U O H/\pE C X O H (F U) H0 Dn
def SDe (st:Stmt) (F:Rho->R Out):Prop:=PS X st (tsE C X F)
def B0 (st:List Stmt) (F:Rho->R Out):Prop:=PSs X st (tsE C X F)
end
variable {st:Stmt} {F:Rho->R D} {pos:Pos}
section
variable {C:Addr} {X:Cx}
theorem w6 {F:Rho->R Out} (h:SDe C X st F):B0 C X [st] F:=eI h
theorem w8 {e:Expr} (he:EB C X e F) (hs:swapsWith e none pos.line X.env=pure false:=by rfl):SDe C X (.Expr e pos) (drp F) :=
  aH (fR he hs) λD O H yy1=>by
   obtain⟨_,H0,⟨U,rfl,r⟩,q⟩:=yy1;exact⟨U,⟨H0,r⟩,au (P:=λz _=>pE C X O H z H0 D) (λc h=>h) (λh=>h) q λd v H1 s1 h1 q1=>q1 _ _ ⟨_,rfl,r.mono s1⟩⟩
end
section
variable {K:Frag} {C:Addr} {H0 H:Hp} {U:RB} {O:St}
theorem Rel.goes (r0:Rel K C H0 U O H) (i:Nat) (o:Option V):Rel K C H0 (U.del i) (O.set i o) H:=by
 have r:=r0.forget i;have em:msk (U.del i) (O.set i o)=msk (U.del i) O:=sE λ_=>rfl;refine⟨by rw[ϰ];exact r.len,by rw[em];exact r.keep,λj sl e=>?_,r.inj,r.kin,r.bnd⟩;rw[em,ϖ (jO e).1];exact r.at_ j sl e
end
def vA (S:List Nat) (ie:Nat) (F G:Rho->R Out):Rho->R Out:=λU=>match F U with
 | .val o=>.val o
 | .bad=>.bad
 | .exc c=>if c∈S then match G (U.set ie (some (.shr (.exn c))))with
  | .val (.nx ρ')=>.val (.nx (ρ'.set ie none))
  | _=>.bad
  else .bad
section
variable {C:Addr} {X:Cx}
theorem SP.unre {pins pins':List (Addr×Obj)} {Dn:gt} {f:Flow} {s:Shared} {A:Around} {cm:Bool} {xe:Value->Shared->Prop} (ok:X.Ok) (h:SP (reX X A cm (X.pn++pins) xe) pins' Dn f s):SP X pins Dn f s:=by
 cases f with
 | next=>obtain⟨σ',H',I,q⟩:=h;exact⟨σ',H',I.unre ok,q⟩
 | brk=>obtain⟨σ',H',I,q⟩:=h;exact⟨σ',H',I.unre ok,q⟩
 | cont=>obtain⟨σ',H',I,q⟩:=h;exact⟨σ',H',I.unre ok,q⟩
 | ret u=>obtain⟨v,σ',H',I,r,q⟩:=h;exact⟨v,σ',H',I.unre ok,r,q⟩
theorem qW {h:Heap} {ea Cc:Addr} {ch:List Addr} (xr:fj h ea (.ref Cc) ch):∃ox,InstAt h ea ox Cc none/\h.get? ea=some ox/\ox.cls=.ref Cc/\ox.dict=none/\∃vs,ox.data=.fields vs:=by
 obtain⟨_,⟨oe,vs,he,hc,hdc,hd,_,_⟩,_⟩:=xr;refine⟨oe,⟨he,hc,?_,by rw[hdc];trivial⟩,he,hc,hdc,vs,hd⟩;unfold PySem.W.notCls;rw[hd]
theorem CZ {S:List Nat} {CA:Addr} {ie:Nat} {en:Str} {body:List Stmt} {b0:Stmt} {bs:List Stmt} {np hp:Pos} {F G:Rho->R Out} (B:XB X.K X.mg S CA) (XA:tO X.K X.mg S) (hS:∀c∈S,c<7) (hgA:Gl X "ArrowError")
  (hN:X.N.Nodup) (hie:X.N[ie]?=some en) (hloc:X.env.kindOf en=some .local) (hlo:X.env.scope.names.lookup en=some .local) (hpm:(X.env.scope.kind == .class||(X.env.scope.kind == .module&&X.env.locals != X.env.globals))=false)
  (hex:X.ex=[]) (hstk:X.stack=X.env::X.outer) (hfrm:X.env.frame=some X.env.locals)
  (hb:∀pn xe,B0 C (reX X X.A X.calm pn xe) body F)
  (hh:∀ev pn,SDs C (reX X (X.A.mark (some ev)) false pn (λ_ _=>False)) (b0::bs) G) :
  SD C X (.Try body [.ExceptHandler (some (.Name "ArrowError" np)) (some en) (b0::bs) hp] [] [] pos) (vA S ie F G):=by
 rintro pins s O H Dn I ⟨_,H0,⟨U,rfl,r⟩,q⟩;refine wpAny_Try_except ?_;have I0:Inv (reX X X.A X.calm (X.pn++pins) (λe s1=>wpAny (model X.prog X.w) X.A (noteFrame e X.env) (λ_ s2=>wpAny (model X.prog X.w) X.A (setFlight e none) (λ_ s3=>wpAny (model X.prog X.w) X.A (handleBy e X.env [.ExceptHandler (some (.Name "ArrowError" np)) (some en) (b0::bs) hp]) (SP X pins Dn) X.xe s3) X.xe s2) X.xe s1)) [] O H s:=I.re rfl I.ok.hd;refine thn (hb _ _ [] s O H Dn I0 ⟨_,H0,⟨U,rfl,r⟩,?_⟩) λf s1 hq=>?_
 ·unfold vA at q;cases e:F U with
  | val o=>rw[e]at q;cases o<;>exact q
  | bad=>rw[e]at q;exact q
  | exc c =>
   rw[e]at q;dsimp only at q;by_cases hc:c∈S
   ·rw[if_pos hc]at q;rintro pins' H' ev s' I' sm ⟨ea,Cc,ch,he,hm,xr,hfx⟩;subst he;have fr:X.A.frames=some (X.env::X.outer):=by rw[<- hstk];exact I.ok.frames
    have fs:s'.heap.FunFrames X.base (X.env::X.outer):=by have:=I'.stack;rw[show(reX X X.A X.calm (X.pn++pins) (λe s1=>wpAny (model X.prog X.w) X.A (noteFrame e X.env) (λ_ s2=>wpAny (model X.prog X.w) X.A (setFlight e none) (λ_ s3=>wpAny (model X.prog X.w) X.A (handleBy e X.env [.ExceptHandler (some (.Name "ArrowError" np)) (some en) (b0::bs) hp]) (SP X pins Dn) X.xe s3) X.xe s2) X.xe s1)).stack=X.env::X.outer from hstk]at this;exact this
    refine nB fr fs hfrm xr λh' ch' kb nw xr'=>?_;rw[<- hstk]at kb;have U':=I'.unre I.ok;have fx0:∀b∈ch,ua X pins H' b:=λb hb=>by
     obtain⟨a1,a2,a3,a4,a5,a6⟩:=hfx b hb;exact⟨a1,a2,a3,a4,a5,λp hp=>a6 p (ϟ _ hp)⟩
    have I1:=Inv.callX U' kb fx0;have fx1:∀b∈ch',ua X pins H' b:=λb hb=>by
     rcases nw b hb with hb|hb
     ·exact fx0 b hb
     ·exact o6 U' hex hb
    have I3:Inv (reX X (X.A.mark (some (.ref ea))) false (X.pn++pins) (λ_ _=>False)) [] O H' { s' with heap:=h' }:=I1.re rfl (by intro z;cases z);obtain⟨Ck,hCk,hmk⟩:=XA.cls c (hS c hc);have hmk':some (Value.ref Cc)=some (.ref Ck):=hm.symm.trans hmk;cases hmk';obtain⟨ox,inst,_⟩:=qW xr';refine wpAny_handleBy_cons (codeAny_handlers_test (cP (pos:=np) I3 hgA B.nm (yb (prog:=X.prog) (w:=X.w) I1.kIn B hc hCk inst (codeAny_handlers_suite_as ?_)))) (by intro z;cases z);refine lX (fs:=frs X.stack) xr' λh2 kb2 xr2=>?_;have fx3:∀b∈ch',ua (reX X (X.A.mark (some (.ref ea))) false (X.pn++pins) (λ_ _=>False)) [] H' b:=λb hb=>by
     obtain⟨a1,a2,a3,a4,a5,a6⟩:=fx1 b hb;exact⟨a1,a2,a3,a4,a5,λp hp=>a6 p (by have hp:p∈(X.pn++pins)++[]:=hp;rw[Ϫ]at hp;exact hp)⟩
    have I4:=Inv.callX I3 kb2 fx3;obtain⟨ox2,inst2,g1,g2,g3,g4⟩:=qW xr2;have I5:=I4.adopt (a:=ea) (o:=.ext (exP X.K c ea)) (fx3 ea xr2.mem) ⟨⟨ox2,Cc,g1,g2,g3,g4,hCk⟩,⟨ox2,g1⟩,λk1 k2 ⟨ox,D,p1,p2⟩ hk=>⟨ox,D,hk _ p1,p2⟩⟩;have hn:H' ea=none:=(fx3 ea xr2.mem).1;have r1:=(r.mono sm).mono (aq (o:=.ext (exP X.K c ea)) hn);have r2:=r1.setShr (i:=ie) (v:=.ref ea) (d:=.exn c) (.exn ((r.mono sm).new hn));refine gw (X:=reX X (X.A.mark (some (.ref ea))) false (X.pn++pins) (λ_ _=>False)) I5 hN hie (.inl hlo) (show RelV (.ref ea) (.ref ea)from rfl) (λs4 I6=>?_) (.inr hlo);cases eG:G (U.rho.set ie (some (.shr (.exn c))))with
    | exc c=>rw[eG]at q;exact q.elim
    | bad=>rw[eG]at q;exact q.elim
    | val o =>
     rw[eG]at q;cases o with
     | rt d=>exact q.elim
     | bk ρ'=>exact q.elim
     | ct ρ'=>exact q.elim
     | nx ρ' =>
      refine wpAny_mono (hh (.ref ea) _ [] s4 _ _ { nx:=λσ' H''=>iq C X H0 ρ' σ' H'',rt:=λ_ _=>False } I6 ⟨_,H0,⟨_,rfl,r2⟩,by rw[show(U.put ie (.shr (.exn c)) []).rho=U.rho.set ie (some (.shr (.exn c)))from rfl,eG];exact λσ' H'' z=>z⟩) (λf s5 hq=>?_) λ_ _ z=>z.elim;cases f with
      | brk=>obtain⟨_,_,_,z⟩:=hq;exact z.elim
      | cont=>obtain⟨_,_,_,z⟩:=hq;exact z.elim
      | ret u=>obtain⟨_,_,_,_,_,z⟩:=hq;exact z.elim
      | next =>
       obtain⟨O5,H5,I7,β,e5,r5⟩:=hq;obtain⟨m,hn5,_⟩:=I7.loc;refine wpAny_nameGoes_keeps hloc hn5 hpm λh6 v hn6 hs6=>?_;exact⟨_,H5,(I7.goes (t':=s5.toks+1) hN hie hn5 hn6 hs6).unre I.ok,q _ _ ⟨_,by rw[<- e5];rfl,r5.goes ie none⟩⟩
   ·rw[if_neg hc]at q;exact q.elim
 ·cases f with
  | next =>
   obtain⟨σ',H',I',q'⟩:=hq;exact wpAny_execs_nil ⟨σ',H',I'.unre I.ok,q'⟩
  | brk=>exact SP.unre (f:=.brk) I.ok hq
  | cont=>exact SP.unre (f:=.cont) I.ok hq
  | ret u=>exact SP.unre (f:=.ret u) I.ok hq
end
variable {k n:Nat} {x:Str} {p:Pos} {Fa:Rho->R (List D)}
section
variable {C:Addr} {X:Cx}
theorem EV {den:List D->R D} {e:Expr} {es:List Expr} (F:Fn X.prog X.w X.K X.mg X.base C k x n den) (hr:Room k X.A) (hg:Gl X x) (ha:AD C X (e::es) Fa)
  (hdb:(x==("__debug__":Str))=false:=by decide) (he:starEach (e::es) X.env=(false,eval e X.env)::starEach es X.env:=by rfl) (hpl:(backTo pos (starEach es X.env)).any (·.1)=false:=by rfl) :
  ED C X (.Call (.Name x p) (e::es) [] pos) (cal n den Fa):=by
 obtain⟨f,fd,ps,h1,h2,h3,h4⟩:=F;exact BD h1 hr hg h2 h3 h4 nu ha hdb he hpl
end
section
variable {C:Addr} {X:Cx}
end
section
variable {prog:Program} {w:World} {A:Around} {R:Result->Shared->Prop} {I:Addr} {fp wr:List Addr} {n:Nat} {P:Nat->Value->Prop} {St:Nat->Heap->Prop}
end
section
variable {C:Addr} {X:Cx}
end
section
variable {C:Addr} {X:Cx}
end
variable {i:Nat} {a b:Expr}
section
variable {C:Addr} {X:Cx}
theorem Ac {j:Nat} {y:Str} {ta:TA} {px py pt:Pos} {kt k2 pt2} (hc:X.calm=true) (hN:X.N.Nodup) (hi:X.N[i]?=some x) (hj:X.N[j]?=some y)
  (hx:Loc X.env.scope x) (hy:Loc X.env.scope y) (ha:PA X [a,b] ta)
  (hw:swappedStores [.Tuple [.Name x px,.Name y py] kt pt] (.Tuple [a,b] k2 pt2) X.env=pure none)
  (fx:X.fn x=true\/X.env.scope.names.lookup x=some .local) (fy:X.fn y=true\/X.env.scope.names.lookup y=some .local)
  (hs:swapsWithSole [.Tuple [.Name x px,.Name y py] kt pt] (.Tuple [a,b] k2 pt2) pos.line X.env=pure false:=by rfl) :
  PS X (.Assign [.Tuple [.Name x px,.Name y py] kt pt] (.Tuple [a,b] k2 pt2) pos) (zJ i j ta):=by
 intro pins s O H D I h;refine wpAny_Assign_stores (Tuple_ (thn (ha _ pins s O H _ I h) λus s1 zz=>?_)) hs hw;obtain⟨vs,H1,I1,r1,v,w,e1,q1⟩:=zz;subst e1;obtain⟨u1,u2,rfl,rv,rw'⟩:∃u1 u2,us=[u1,u2]/\RelV v u1/\RelV w u2:=by
  cases r1 with
  | cons p q =>
   cases q with
   | cons p' q' =>
    cases q';exact⟨_,_,rfl,p,p'⟩
 refine wpAny_newObj_type ?_ (by show 2<=sizeLine;decide);have I2:Inv X pins O H1 { s1 with heap:=s1.heap.push { cls:=.type "tuple",data:=.seq [u1,u2].toArray } }:=I1.kept (t':=s1.toks) λb o e=>ϒ _ e;show wpAny (model X.prog X.w) X.A (assign (.Tuple [.Name x px,.Name y py] kt pt) X.env (.ref s1.heap.objs.size)) _ _ _;refine assign_Tuple_tuple (items:=#[u1,u2]) (I.ok.hd hc) (IsTup.new s1.heap _) rfl rfl λh' hx'=>?_;have I3:=I2.kept (h':=h') (t':=s1.toks) λb o e=>hx' b o (ϭ (ϔ e)) e;refine assignInOrder_cons (thn (kT hN hi hx (hf:=fx) pins _ O H1 v u1 (λσ' H'=>O.set i (some v)=σ'/\H1=H') I3 rv ⟨rfl,rfl⟩) λ_ s2 zz=>?_);obtain⟨_,_,I4,rfl,rfl⟩:=zz;refine assignInOrder_cons (thn (kT hN hj hy (hf:=fy) pins _ _ _ w u2 (λσ' H'=>(O.set i (some v)).set j (some w)=σ'/\H1=H') I4 rw' ⟨rfl,rfl⟩) λ_ s3 zz=>?_);obtain⟨_,_,I5,rfl,rfl⟩:=zz;exact assignInOrder_nil ⟨_,_,I5,q1⟩
end
section
variable {C:Addr} {X:Cx}
end
section
variable {C:Addr} {X:Cx} {tg elt iter:Expr} {scope:Scope} {pos:Pos} {N':List Str} {ix:List Nat} {T:D->Rho->Option Rho} {e:Rho->R D} {n:Nat} {src:Rho->R (List D)}
end
section
variable {C:Addr} {X:Cx}
def rNt:R2:=λx y H Q=>∃a b,x=.bl a/\y=.bl b/\Q (.bl (a != b)) H
theorem AA:OpR X (compareOp .IsNot) rNt:=by
 intro pins s O H x y v u Q I rx ry h;obtain⟨a,b,rfl,rfl,q⟩:=h;obtain rfl:=(show v=Value.bool a from rx);obtain rfl:=(show u=Value.bool b from ry);have:compareOp .IsNot (.bool a) (.bool b)=pure (.bool (a != b)):=by cases a<;>cases b<;>rfl
 rw[this];exact wpAny_pure ⟨.bl _,H,I,rfl,q⟩
def fnt:D->D->R D
 | .bl a,.bl b=>.val (.bl (a != b))
 | _,_=>.bad
theorem yA:cL fnt:=λx y c e=>by unfold fnt at e;split at e<;>cases e
theorem El:OpD C X rNt fnt:=by
 intro U O H v w x y z Q _ hv hw e k;unfold fnt at e;split at e
 ·cases e;exact⟨_,_,hv.bl,hw.bl,k _ _ (Same.refl _) (.bl _)⟩
 ·cases e
theorem zF {Fa Fb:Rho->R D} (ha:EB C X a Fa) (hb:EB C X b Fb) (hm:behindInMarks .IsNot b=false:=by rfl):TD C X (.Compare a [.IsNot] [b] pos) (tst (bin fnt Fa Fb)):=iK AA yA El ha hb hm
def rtP (i j:Nat) (k1 k2:OK):Rho->R D:=λU=>match U[i]?,U[j]? with
 | some (some (.tre a d)),some (some (.tre b e))=>if a=k1/\b=k2 then .val (.tup [d,e])else .bad
 | _,_=>.bad
theorem wW {k1 k2:OK} {j:Nat} {y:Str} {p1 p2 pt:Pos} {x1} (hij:i≠j) (hi:PE X (.Name x p1) (c8 i)) (hj:PE X (.Name y p2) (c8 j)):tQ C X (.p k1 k2) [.Return (some (.Tuple [.Name x p1,.Name y p2] x1 pt)) pos] (rtP i j k1 k2) :=
 cg (eI (oG (xI (aQ hi (aQ hj bH dO) dO)))) λD O H ⟨_,H0,⟨U,er,r⟩,q⟩=>by
  subst er;unfold rtP at q;split at q
  ·rename_i a d b e e1 e2;split at q
   ·rename_i ek;obtain⟨rfl,rfl⟩:=ek;obtain⟨v,B,s1,hB,h1⟩:=r.at_ i _ e1;obtain⟨w,B',s2,hB',h2⟩:=r.at_ j _ e2;refine⟨v,s1,w,s2,?_⟩;refine⟨by show 2<=sizeLine;decide,λp hp=>?_⟩;have nb:∀c,c∈B++(B'++[])->Own U O c:=λc hc=>by
     rcases Ϩ.mp hc with hc|hc
     ·exact⟨i,hB c hc⟩
     ·rw[Ϫ]at hc;exact⟨j,hB' c hc⟩
    have sm:Same (msk U O H) (cut (B++(B'++[])) (upd H p (.tup [v,w]))):=λc o ec=>cut_some.mpr ⟨λhc=>(msk_some.mp ec).1 (nb c hc),aq hp c o (msk_some.mp ec).2⟩;refine q (.ref p) _ (B++(B'++[])) ((r.keep.trans msk_sub).trans (aq hp)) (λc hc=>?_) (.p ax (.cons (h1.stay sm (.of (aq hp))) (.cons (h2.stay sm (.of (aq hp))) .nil λ_ _=>Ϡ) λc hc hc'=>?_))
    ·cases z:H0 c with
     | none=>rfl
     | some o=>exact absurd (nb c hc) (msk_some.mp (r.keep c o z)).1
    ·rw[Ϫ]at hc';exact hij (r.inj i j c (hB c hc) (hB' c hc'))
   ·exact q.elim
  ·exact q.elim
end
section
variable {C:Addr} {X:Cx}
section
variable {B:Hp} {Nw:Addr->Prop} {i n:Nat} {F:Rho->R Out}
end
end
section
variable {K:Frag} {C:Addr} {M M' H H':Hp} {k:OK} {v:V} {d:D} {A:List Addr}
end
section
variable (C:Addr) (X:Cx)
end
section
variable {C:Addr} {X:Cx}
theorem yG {K:Frag} {H H':Hp} {v:V} {d:D} (h:Has K C H v d) (f:Cf d=true):Has K C H' v d:=by
 cases h with
 | int i=>exact .int i
 | bl i=>exact .bl i
 | non=>exact .non
 | _=>cases f
theorem ig {K:Frag} {H H':Hp}:∀{vs:List V} {ds:List D},HasL K C H vs ds->ds.all (bB .s)=true->HasL K C H' vs ds
 | _,_,.nil,_=>.nil
 | _,_,.cons h t,f=>by
  rw[List.all_cons,ϝ]at f;exact .cons (yG h f.1) (ig t f.2)
end
section
variable {P:Program} {w:World} {K:Frag} {mg:Str->Option Value} {base:Heap} {C:Addr}
end
def FH (K:Frag) (C:Addr) (ks:List OK) (n:Nat) (den:List D->List D->R (D×List D)):Sp:=λvs H Q _=>∃us ds ws es A,vs=us++ws/\ws.length=n/\TreP K C (cut A H) H ks us ds A/\HasL K C (cut A H) ws es/\match den ds es with
 | .val x=>∀v H' A',Same (cut A H) H'->(∀a∈A',a∈A\/cut A H a=none)->TreP K C (cut A' H') H' ks us x.2 A'->Has K C H' v x.1->Q v H'
 | _=>False
def MvB (P:Program) (w:World) (K:Frag) (mg:Str->Option Value) (base:Heap) (C:Addr) (k:Nat) (x:Str) (ks:List OK) (n:Nat) (den:List D->List D->R (D×List D)):Prop :=
 ∃f fd ps,FnOk P w K mg base CX0 k f fd ps (FH K C ks n den)/\mg x=some (.ref f)/\keepIn K (.ref f)=true/\Binds K fd ps []
section
variable (C:Addr) (X:Cx)
def pJB (m:Nat) (O:St) (z:R (D×Rho)) (H0:Hp) (Dn:gt):Prop:=match z with
 | .val x=>∀v σ' H',(∀i:Nat,i<m->σ'[i]?=O[i]?)->iq C X H0 x.2 σ' H'->Has X.K C H' v x.1->Dn.rt v H'
 | _=>False
def rK (m:Nat) (st:List Stmt) (F:Rho->R (D×Rho)):Prop:=PSs X st (λDn O H=>∃U H0,iq C X H0 U O H/\pJB C X m O (F U) H0 Dn)
end
def sqB (F:Rho->R Rho) (G:Rho->R (D×Rho)):Rho->R (D×Rho):=λU=>(F U).bind G
def rtB (F:Rho->R D):Rho->R (D×Rho):=λU=>(F U).bind λd=>.val (d,U)
section
variable {C:Addr} {X:Cx} {m:Nat}
theorem vH {rest:List Stmt} {F:Rho->R Rho} {G:Rho->R (D×Rho)} (h1:SDj C X m st F) (h2:rK C X m rest G):rK C X m (st::rest) (sqB F G) :=
 cg (fk h1 h2) λD O H yy=>by
  obtain⟨U,H0,r,q⟩:=yy;refine⟨U,H0,r,?_⟩;unfold sqB at q;cases e:F U with
  | val ρ' =>
   rw[e]at q;intro σ' H' hσ r';refine⟨ρ',H0,r',?_⟩;have q:pJB C X m O (G ρ') H0 D:=q;cases e2:G ρ' with
   | val x=>rw[e2]at q;exact λv O2 H2 h2 r2 hv=>q v O2 H2 (λi hi=>(h2 i hi).trans (hσ i hi)) r2 hv
   | exc c=>rw[e2]at q;exact q.elim
   | bad=>rw[e2]at q;exact q.elim
  | exc c=>rw[e]at q;exact q.elim
  | bad=>rw[e]at q;exact q.elim
theorem w4 {e:Expr} (he:ED C X e F):rK C X m [.Return (some e) pos] (rtB F) :=
 cg (eI (oG he)) λD O H yy=>by
  obtain⟨_,H0,⟨U,rfl,r⟩,q⟩:=yy;refine⟨U,⟨H0,r⟩,?_⟩;unfold rtB at q;cases z:F U with
  | val d =>
   rw[z]at q;exact λv H' s h=>q v O H' (λ_ _=>rfl) (r.mono s).e (h.mono msk_sub)
  | exc c=>rw[z]at q;exact q.elim
  | bad=>rw[z]at q;exact q.elim
end
section
variable {P:Program} {w:World} {K:Frag} {mg:Str->Option Value} {base:Heap} {C:Addr}
def qt (ks:List OK) (x:D×Rho):R (D×List D):=(lD ks x.2).bind λds=>.val (x.1,ds)
theorem D1 {qual:Str} {f:Addr} {fd:FuncData} {N ps:List Str} {ks:List OK} {den:Rho->R (D×Rho)} (F:Fun K x qual st f fd) (sc:cA N ps (ak st)) (hp:ps.length=ks.length+n) (hN:ks.length+n<=N.length)
  (hb:∀(cdv:Value) (A:Around) (outer:List Env) (s:Shared) (H:Hp) (E:XK),Room k (A.deeper (envOfC qual (ak st) s.heap.objs.size f cdv)) ->
   rK C (fh CX0 P w K mg base N qual (ak st) f cdv A outer s H E).nox ks.length (bj st) den) :
  FnOk P w K mg base CX0 (k+1) f fd ps (FH K C ks n λds es=>(den (stM N ks ds es)).bind (qt ks)):=by
 refine F.ok sc (λvs H Q E h=>?_) (λcdv A outer s H vs Q E hr h=>⟨_,hb cdv A outer s H E hr,?_⟩)
 ·obtain⟨us,ds,ws,es,A,rfl,hn,h1,_⟩:=h;rw[Ϝ,hn,h1.len.1,<- h1.len.2,hp]
 obtain⟨us,ds,ws,es,A,rfl,hn,h1,h2,q⟩:=h;have l1:=h1.len;have l2:=h2.len;refine⟨stM N ks ds es,cut A H,su h1 h2 (by omega),?_⟩;dsimp only at q;cases e:den (stM N ks ds es)with
 | exc c=>rw[e]at q;exact q.elim
 | bad=>rw[e]at q;exact q.elim
 | val y =>
  obtain⟨d,ρ'⟩:=y;rw[e]at q;have q:(match(lD ks ρ').bind λds=>R.val (d,ds)with | .val x=>_|_=>False):=q;cases eo:lD ks ρ' with
  | exc c=>rw[eo]at q;exact q.elim
  | bad=>rw[eo]at q;exact q.elim
  | val ds' =>
   rw[eo]at q;obtain⟨ol,oa⟩:=qs eo;rintro v σ' H' hσ ⟨β,eβ,r⟩ hv;have eβ:β.rho=ρ':=eβ;have atS:∀(j:Nat) v,us[j]?=some v->σ'[j]?=some (some v):=λj v ev=>by
    have hj:j<us.length:=(ώ.mp ev).1;rw[hσ j (by omega)];unfold L2.start;rw[ϡ (by rw[ϋ,Ϝ];omega),ϥ,ϡ hj,ev];rfl
   obtain⟨A',a1,a2⟩:=TreP.join (K:=K) (C:=C) (M:=msk β σ' H') (H:=H') (ks:=ks) (vs:=us) (ds:=ds') β.ad ol (by omega) (λj k v d e1 e2 e3=>by
    have:=oa j k d e1 e3;rw[<- eβ]at this;obtain⟨v2,B,g1,g2,g3⟩:=r.at_ j _ this;rw[atS j v e2]at g1;cases g1;exact⟨B,g2,g3⟩) r.inj
   refine q v H' A' (r.keep.trans msk_sub) (λa ha=>?_) (a2.stay (λb o eb=>cut_some.mpr ⟨λz=>(msk_some.mp eb).1 (a1 b z),(msk_some.mp eb).2⟩) (.of (Same.refl _))) hv;by_cases hA:a∈A
   ·exact .inl hA
   ·right;cases z:cut A H a with
    | none=>rfl
    | some o=>exact absurd (a1 a ha) (msk_some.mp (r.keep a o z)).1
end
section
variable (C:Addr) (X:Cx)
def pM {Y:Type} (O:St) (z:R (Y×Rho)) (H0:Hp) (Q:Y->Hp->Prop):Prop:=match z with
 | .val x=>∀H',iq C X H0 x.2 O H'->Q x.1 H'
 | _=>False
def KDm (e:Expr) (F:Rho->R (D×Rho)):Prop:=PE X e (λO H Q=>∃U H0,iq C X H0 U O H/\pM C X O (F U) H0 λd H'=>∀v,Has X.K C H' v d->Q v H')
def TDm (e:Expr) (F:Rho->R (Bool×Rho)):Prop:=PT X e (λO H Q=>∃U H0,iq C X H0 U O H/\pM C X O (F U) H0 Q)
end
def tsM (F:Rho->R (D×Rho)):Rho->R (Bool×Rho):=λU=>(F U).bind λx=>(asB x.1).bind λb=>.val (b,x.2)
def noM (F:Rho->R (Bool×Rho)):Rho->R (Bool×Rho):=λU=>(F U).bind λx=>.val (!x.1,x.2)
def anM (Ft:Rho->R Bool) (F:Rho->R (Bool×Rho)):Rho->R (Bool×Rho):=λU=>match Ft U with
 | .val true=>F U
 | .val false=>.val (false,U)
 | _=>.bad
def ifM (Ft:Rho->R (Bool×Rho)) (Fa Fb:Rho->R Out):Rho->R Out:=λU=>match Ft U with
 | .val x=>if x.1=true then Fa x.2 else Fb x.2
 | _=>.bad
section
variable {C:Addr} {X:Cx}
theorem Cw {e:Expr} {F:Rho->R (D×Rho)} (h:KDm C X e F) (he:∀whole,isTrue e X.env whole=(do let v <- whole;standAt e.pos;holding [v] (truthy v)):=by intro _;rfl):TDm C X e (tsM F) :=
 dw (xq h he) λO H Q yy=>by
  obtain⟨U,H0,r,q⟩:=yy;refine⟨U,H0,r,?_⟩;unfold tsM at q;cases z:F U with
  | exc c=>rw[z]at q;exact q.elim
  | bad=>rw[z]at q;exact q.elim
  | val x =>
   obtain⟨d,ρ'⟩:=x;rw[z]at q;cases d with
   | bl b =>
    intro H' r' v hv;cases hv;exact⟨b,rfl,q H' r'⟩
   | _=>exact q.elim
theorem Cz {F:Rho->R (Bool×Rho)} (h:TDm C X a F):TDm C X (.UnaryOp .Not a pos) (noM F) :=
 dw (xt h) λO H Q yy=>by
  obtain⟨U,H0,r,q⟩:=yy;refine⟨U,H0,r,?_⟩;unfold noM at q;cases z:F U with
  | exc c=>rw[z]at q;exact q.elim
  | bad=>rw[z]at q;exact q.elim
  | val x=>rw[z]at q;exact q
theorem CC {Fa:Rho->R Bool} {Fb:Rho->R (Bool×Rho)} (ha:TD C X a Fa) (hb:TDm C X b Fb):TDm C X (.BoolOp .And [a,b] pos) (anM Fa Fb) :=
 dw (xn ha (uw hb)).pt λO H Q yy=>by
  obtain⟨_,H0,⟨U,rfl,r⟩,q⟩:=yy;refine⟨U,⟨H0,r⟩,?_⟩;unfold anM at q;cases z:Fa U with
  | exc c=>rw[z]at q;exact q.elim
  | bad=>rw[z]at q;exact q.elim
  | val c =>
   rw[z]at q;intro H1 s1;cases c with
   | true=>exact sU ⟨U,H0,(r.mono s1).e,q⟩
   | false=>exact sV (q H1 (r.mono s1).e)
theorem Dc {c:Expr} {a b:List Stmt} {Ft:Rho->R (Bool×Rho)} {Fa Fb:Rho->R Out} (hc:TDm C X c Ft) (ha:SDs C X a Fa) (hb:SDs C X b Fb):SD C X (.If c a b pos) (ifM Ft Fa Fb) :=
 aH (xz hc ha hb) λD O H yy=>by
  obtain⟨U,H0,r,q⟩:=yy;refine⟨U,H0,r,?_⟩;unfold ifM at q;cases z:Ft U with
  | exc c=>rw[z]at q;exact q.elim
  | bad=>rw[z]at q;exact q.elim
  | val x =>
   obtain⟨c,ρ'⟩:=x;rw[z]at q;intro H' r';cases c with
   | true=>exact sU ⟨ρ',H0,r',q⟩
   | false=>exact sV ⟨ρ',H0,r',q⟩
end
def mvP (i:Nat) (P:Rho->R (List Nat)) (den:List D->List D->R (D×List D)) (n:Nat) (Fa:Rho->R (List D)):Rho->R (D×Rho):=λU=>match P U,U[i]?,Fa U with
 | .val pp,some (some (.tre k d)),.val ds=>(match gv d pp with
  | some (.lst xs)=>if eE k pp=some (.l .s)/\xs.all (bB .s)=true/\ds.all (bB .s)=true/\ds.length=n then(match den [.lst xs] ds with
   | .val (b,[.lst ys])=>if ys.all (bB .s)=true then .val (b,U.set i (some (.tre k (io d pp (.lst ys)))))else .bad
   | _=>.bad)else .bad
  | _=>.bad)
 | _,_,_=>.bad
theorem AI {P:Rho->R (List Nat)} {den:List D->List D->R (D×List D)} {U:Rho} {y:D×Rho} (h:mvP i P den n Fa U=.val y):∃pp k d ds xs ys,P U=.val pp/\U[i]?=some (some (.tre k d))/\Fa U=.val ds/\gv d pp=some (.lst xs)/\eE k pp=some (.l .s)/\xs.all (bB .s)=true/\ds.all (bB .s)=true/\ds.length=n/\den [.lst xs] ds=.val (y.1,[.lst ys])/\ys.all (bB .s)=true/\y.2=U.set i (some (.tre k (io d pp (.lst ys)))):=by
 unfold mvP at h;split at h
 ·rename_i pp k d ds e1 e2 e3;split at h
  ·rename_i xs e4;split at h
   ·rename_i e5;split at h
    ·rename_i b ys e6;split at h
     ·rename_i e7;cases h;exact⟨pp,k,d,ds,xs,ys,e1,e2,e3,e4,e5.1,e5.2.1,e5.2.2.1,e5.2.2.2,e6,e7,rfl⟩
     ·cases h
    ·cases h
   ·cases h
  ·cases h
 ·cases h
section
variable {C:Addr} {X:Cx}
theorem AS {o:Expr} {es:List Expr} {P:Rho->R (List Nat)} {den:List D->List D->R (D×List D)} (F:MvB X.prog X.w X.K X.mg X.base C k x [.l .s] n den) (hr:Room k X.A) (hg:Gl X x) (ho:ND C X i o P) (ha:AD C X es Fa)
  (he:starEach (o::es) X.env=(false,eval o X.env)::starEach es X.env) (hpl:(backTo pos (starEach es X.env)).any (·.1)=false) (hdb:(x==("__debug__":Str))=false:=by decide):KDm C X (.Call (.Name x p) (o::es) [] pos) (mvP i P den n Fa):=by
 obtain⟨f,fd,ps,hF,hm,hk,hb⟩:=F;rintro pins s O H Q I ⟨_,H0,⟨U,rfl,r⟩,q⟩;cases ez:mvP i P den n Fa U.rho with
 | exc c=>rw[ez]at q;exact q.elim
 | bad=>rw[ez]at q;exact q.elim
 | val y =>
  rw[ez]at q;obtain⟨pp,k',d,ds,xs,ys,eP,er,eF,ed,ek,fx,fd',hl,eden,fy,ey⟩:=AI ez;obtain⟨v,a,vs,A0,e1,rc,hHa,tp,hn,up⟩:=r.node er ek ed;obtain⟨rfl,hvs⟩:=tp.flat;refine wpAny_Call_Name_kw (cP I hg hm ?_ hdb);refine callWith_K (h₀:=X.base) I.ok.mod.kin hk (thn ((aQ ho ha he) pos pins s O H (λws H1=>∃vr,ws=.ref a::vr/\Same H H1/\eW C X U O H1 vr ds) I ⟨U,⟨H0,r⟩,by
   rw[eP];intro v' w H' ev s' rc';rw[e1]at ev;cases ev;have:=Reach.det (rc.mono s') rc';subst this;refine⟨U,⟨H0,r.mono s'⟩,?_⟩;rw[eF];exact λvr H1 s1 h1=>⟨vr,rfl,s'.trans s1,h1⟩⟩) λus s1 yy=>?_) he hpl
  obtain⟨ws,H1,I1,rv,vr,rfl,sm,hvr⟩:=yy;refine⟨I1.kIn,?_⟩;have hH1:H1 a=some (.lst vs):=sm _ _ hHa;refine thn (lx (E:=E0) (Q:=λu M'=>Has X.K C M' u y.1/\Same (cut [a] H1) M'/\∃ws,M' a=some (.lst ws)/\HasL X.K C M' ws ys) hF hr hb .nil nu I1 rv ?_) λu s2 yy=>?_
  ·rw[Ϫ];refine⟨[.ref a],[.lst xs],vr,ds,[a],rfl,hvr.len.trans hl,.cons (A:=[a]) (B:=[]) (.l hH1 (TreP.of (ig hvs fx)) Ϡ) .nil (λ_ _=>Ϡ),ig hvr fd',?_⟩;rw[eden];intro u H' A' g1 g2 g3 g4;refine⟨g4,g1,?_⟩;cases g3 with
   | cons t1 t2 _ =>
    cases t2;cases t1 with
    | l e9 t9 _=>exact⟨_,e9,(t9.flat).2.mono k9⟩
  ·obtain⟨u',M',J2,ru,hu,sM,ws,eM,hws⟩:=yy;refine⟨u',M',J2,ru,q M' ?_ u' hu⟩;have eu:upd (upd M' a (.lst vs)) a (.lst ws)=M':=by
    funext b
    by_cases hb:b=a
    ·subst hb;rw[ax,eM]
    ·rw[am hb,am hb]
   have s2:Same H (upd M' a (.lst vs)):=λb o eb=>by
    by_cases hb:b=a
    ·subst hb;rw[hHa]at eb;cases eb;exact ax
    ·rw[am hb];exact sM b o (cut_some.mpr ⟨λz=>hb (ϓ.mp z),sm _ _ eb⟩)
   have rl:=up (H2:=upd M' a (.lst vs)) (ws:=ws) (ys:=ys) (N:=[]) (B:=[]) s2 (λb hb=>by cases hb) (TreP.of (ig hws fy)) (λb hb=>by cases hb);rw[eu]at rl;rw[ey];exact⟨_,rfl,rl⟩
end
def sZ:D->D->R D
 | .lst xs,.int k=>if 0<=k/\k<=1000/\xs.length<=10 then .val (.lst (List.replicate k.toNat xs).flatten)else .bad
 | _,_=>.bad
def ext (i:Nat) (e:Rho->R D):Rho->R Out:=λU=>match U[i]? with
 | some (some (.own xs))=>(e U).bind λd=>match d with
  | .lst ys=>if xs.length+ys.length<LIM then .val (.nx (U.set i (some (.own (xs++ys)))))else .bad
  | _=>.bad
 | _=>.bad
section
variable {C:Addr} {X:Cx}
theorem HasL.rep {K:Frag} {H:Hp} {vs:List V} {xs:List D} (h:HasL K C H vs xs):∀k:Nat,HasL K C H (List.replicate k vs).flatten (List.replicate k xs).flatten
 | 0=>.nil
 | k+1=>by
  rw[Ξ,Ξ,δ,δ];exact h.app (h.rep k)
theorem EG {Fa Fb:Rho->R D} (ha:EB C X a Fa) (hb:EB C X b Fb):ED C X (.BinOp a .Mult b pos) (bin sZ Fa Fb):=by
 refine nO DQ (λx y c e=>?_) (λU O H v w x y z Q r hx hy e k=>?_) ha hb
 ·unfold sZ at e;split at e
  ·split at e<;>cases e
  ·cases e
 ·obtain⟨H0,r⟩:=r;unfold sZ at e;split at e
  ·rename_i xs n;split at e
   ·rename_i q;cases e;obtain⟨l,vs,rfl,e1,h2⟩:=hx.lst msk_sub;have hl:=h2.len;have hz:vs.length*n.toNat<=sizeLine:=by
     have a1:vs.length<=10:=by omega
     have a2:n.toNat<=1000:=by omega
     refine ϣ (Nat.mul_le_mul a1 a2) ?_;decide
    refine⟨l,n,vs,rfl,hy.int,e1,by omega,by omega,hz,λp hp=>k _ _ (aq hp) (.lst (r.new hp) ?_)⟩;exact(h2.rep n.toNat).mono (az (aq hp))
   ·cases e
  ·cases e
theorem De {e:Expr} {ap cp:Pos} (hv:PE X (.Name x p) (c8 i)) (he:ED C X e F)
  (hs:∀{to:TE} {t:TA},PE X (.Name x p) to->PA X [e] t->PS X (.Expr (.Call (.Attribute (.Name x p) "extend" ap) [e] [] cp) pos) (j4 (tBM X.K "list" uu to t)):=by
   exact λho ha=>fR (iX ϴ PySem.F.slot_list_extend PySem.F.type_list_extend vT ho ha))
  (hst:starEach [e] X.env=(false,eval e X.env)::starEach [] X.env:=by rfl) :
  SD C X (.Expr (.Call (.Attribute (.Name x p) "extend" ap) [e] [] cp) pos) (ext i F) :=
 aH (hs hv (aQ he bH hst)) λD O H zz=>by
  obtain⟨_,H0,⟨U,rfl,r⟩,q⟩:=zz;unfold ext at q;split at q
  ·rename_i xs e0;obtain⟨a,vs,e1,_,h1,h2⟩:=r.at_ i _ e0;refine⟨_,e1,.inl ⟨rfl,_,SqL.of h1⟩,U,⟨H0,r⟩,au (P:=λz _=>pS C X z H0 D) (λc h=>bN r h) (λh=>h) q λd v H1 s1 h3 q1=>?_⟩;split at q1
   ·rename_i ys;split at q1
    ·rename_i hl;have h2':=h2.mono (az (U:=U) (O:=O) s1);cases h3 with
     | lst e4 h4 =>
      refine⟨a,_,vs,_,rfl,rfl,s1 _ _ h1,msk_sub _ _ e4,by rw[h2.len,h4.len];exact Nat.le_of_lt (Ϛ hl (by decide)),?_⟩;exact q1 _ _ ⟨_,rfl,(r.mono s1).write e0 e1 (h2'.app h4)⟩
    ·exact q1.elim
   ·exact q1.elim
  ·exact q.elim
end
abbrev sh (d:D):Option Slt:=some (.shr d)
end DL
namespace Ar
abbrev Arr:=Nat×Nat×List Nat
def Ok (sz:List Nat) (x:Arr):Prop:=∃n m,sz[x.1]?=some n/\sz[x.2.1]?=some m/\x.2.2.length=n/\∀y∈x.2.2,y<m
def comp (x y:Arr):Arr:=(x.1,y.2.1,x.2.2.map λi=>y.2.2.getD i 0)
def idm (sz:List Nat) (b:Nat):Arr:=(b,b,List.range (sz.getD b 0))
def funs:Nat->Nat->List (List Nat)
 | 0,_=>[[]]
 | n+1,m=>(List.range m).flatMap λy=>(funs n m).map λl=>y::l
theorem qJ:∀{l:List Nat} {m:Nat},(∀y∈l,y<m)->l∈funs l.length m
 | [],m,_=>by simp[funs]
 | y::l,m,h=>by
  have h1:y<m:=h y (by simp);have h2:l∈funs l.length m:=qJ λz hz=>h z (by simp[hz]);show y::l∈funs (l.length+1) m;simp only[funs,Τ,ϱ,ό];exact⟨y,h1,l,h2,rfl⟩
def Cr (sz:List Nat):List Arr:=(List.range sz.length).flatMap λa=>(List.range sz.length).flatMap λb=>(funs (sz.getD a 0) (sz.getD b 0)).map λf=>(a,b,f)
theorem qI {sz:List Nat} {x:Arr} (h:Ok sz x):x∈Cr sz:=by
 obtain⟨a,b,f⟩:=x;obtain⟨n,m,h1,h2,h3,h4⟩:=h;have ha:a<sz.length:=(ώ.mp h1).1;have hb:b<sz.length:=(ώ.mp h2).1;simp only[Cr,Τ,ϱ,ό];refine⟨a,ha,b,hb,f,?_,rfl⟩;have e1:sz.getD a 0=n:=by simp only[List.getD,h1];rfl
 have e2:sz.getD b 0=m:=by simp only[List.getD,h2];rfl
 rw[e1,e2,<- h3];exact qJ h4
theorem eZ {Y:Type} [DecidableEq Y]:∀{l u:List Y},l.Nodup->(∀x∈l,x∈u)->l.length<=u.length
 | [],_,_,_=>by simp
 | x::l,u,nd,h=>by
  obtain⟨h1,h2⟩:=ξ.mp nd;have hx:x∈u:=h x (by simp);have hl:l.length<=(u.erase x).length:=eZ h2 λy hy=>by
   have:y≠x:=λe=>h1 (e▸hy);exact(List.mem_erase_of_ne this).mpr (h y (by simp[hy]))
  rw[List.length_erase_of_mem hx]at hl;have:0<u.length:=Ω hx;simp only[ϫ];omega
def szs:List (List Nat):=[[1],[1,1],[1,1,1],[1,1,1,1],[1,2],[2,1],[2,2],[0,2],[2],[3],[1,1,2],[0,1,2],[1,2,2],[2,1,0]]
theorem qf:∀sz∈szs,(Cr sz).length<=27:=by decide +kernel
theorem fN:∀sz∈szs,1<=sz.length/\sz.length<=4/\∀n∈sz,n<=3:=by decide +kernel
def m7 (kn:List Arr) (x:Arr):List Arr:=if x∈kn then kn else kn++[x]
def gx (kn:List Arr) (f s:Arr):List Arr:=if f.2.1=s.1 then m7 kn (comp f s)else kn
def jE (k:Arr) (kn:List Arr) (o:Arr):List Arr:=gx (gx kn k o) o k
def oJ (k:Arr) (kn snap:List Arr):List Arr:=snap.foldl (jE k) kn
theorem rH (kn:List Arr) (x:Arr):kn <+: m7 kn x:=by
 unfold m7;split
 ·exact θ _
 ·exact List.prefix_append _ _
theorem zu (kn:List Arr) (x:Arr):x∈m7 kn x:=by
 unfold m7;split
 ·assumption
 ·simp
theorem jF (kn:List Arr) (f s:Arr):kn <+: gx kn f s:=by
 unfold gx;split
 ·exact rH _ _
 ·exact θ _
theorem qa (k:Arr) (kn:List Arr) (o:Arr):kn <+: jE k kn o:=(jF kn k o).trans (jF _ o k)
theorem gA (k:Arr):∀(snap kn:List Arr),kn <+: oJ k kn snap
 | [],kn=>θ _
 | o::r,kn=>(qa k kn o).trans (gA k r _)
structure Kn (sz:List Nat) (kn:List Arr):Prop where
 nd:kn.Nodup
 ok:∀x∈kn,Ok sz x
theorem BL {sz:List Nat} {x y:Arr} (hx:Ok sz x) (hy:Ok sz y) (e:x.2.1=y.1):Ok sz (comp x y):=by
 obtain⟨n,m,h1,h2,h3,h4⟩:=hx;obtain⟨n',m',g1,g2,g3,g4⟩:=hy;refine⟨n,m',h1,g2,by simp[comp,h3],λz hz=>?_⟩;simp only[comp,ϱ]at hz;obtain⟨i,hi,rfl⟩:=hz;have hm:m=n':=by rw[e]at h2;rw[h2]at g1;exact Ϥ g1
 have:i<y.2.2.length:=by rw[g3,<- hm];exact h4 i hi
 have e3:y.2.2.getD i 0=y.2.2[i]:=by simp[List.getD,Ϗ this]
 rw[e3];exact g4 _ (Ϙ this)
theorem vv {sz kn x} (h:Kn sz kn) (hx:Ok sz x):Kn sz (m7 kn x):=by
 unfold m7;split
 ·exact h
 ·rename_i hn;refine⟨?_,λy hy=>?_⟩
  ·rw[List.nodup_append];refine⟨h.nd,by simp,λa ha b hb=>?_⟩;simp at hb;subst hb;exact λe=>hn (e▸ha)
  ·rcases Ϩ.mp hy with q|q
   ·exact h.ok y q
   ·simp at q;subst q;exact hx
theorem lw {sz kn f s} (h:Kn sz kn) (hf:Ok sz f) (hs:Ok sz s):Kn sz (gx kn f s):=by
 unfold gx;split
 ·exact vv h (BL hf hs ‹_›)
 ·exact h
theorem ub {sz k kn o} (h:Kn sz kn) (hk:Ok sz k) (ho:Ok sz o):Kn sz (jE k kn o):=lw (lw h hk ho) ho hk
theorem uH {sz k} (hk:Ok sz k):∀{snap kn:List Arr},Kn sz kn->(∀o∈snap,Ok sz o)->Kn sz (oJ k kn snap)
 | [],kn,h,_=>h
 | o::r,kn,h,hs=>uH hk (snap:=r) (ub h hk (hs o (by simp))) λq hq=>hs q (by simp[hq])
theorem nq {kn f s} (e:f.2.1=s.1):comp f s∈gx kn f s:=by
 unfold gx;rw[if_pos e];exact zu _ _
theorem wI {k kn o}:(k.2.1=o.1->comp k o∈jE k kn o)/\(o.2.1=k.1->comp o k∈jE k kn o) :=
 ⟨λe=>(jF _ o k).subset (nq e),λe=>nq e⟩
theorem lA {k}:∀{snap kn:List Arr} {o:Arr},o∈snap->(k.2.1=o.1->comp k o∈oJ k kn snap)/\(o.2.1=k.1->comp o k∈oJ k kn snap)
 | q::r,kn,o,h=>by
  rcases Ϣ.mp h with e|h
  ·subst e;have t:=wI (k:=k) (kn:=kn) (o:=o);exact⟨λe=>(gA k r _).subset (t.1 e),λe=>(gA k r _).subset (t.2 e)⟩
  ·exact lA (snap:=r) (kn:=jE k kn q) h
def Cl (kn:List Arr) (n:Nat):Prop:=∀i j x y,i<n->j<n->kn[i]?=some x->kn[j]?=some y->x.2.1=y.1->comp x y∈kn
theorem uA {Y:Type} {l l':List Y} (h:l <+: l') {i:Nat} {x:Y} (e:l[i]?=some x):l'[i]?=some x:=by
 obtain⟨t,rfl⟩:=h;rw[ϡ (ώ.mp e).1];exact e
theorem Aq {kn:List Arr} {n:Nat} {k:Arr} (h:Cl kn n) (hk:kn[n]?=some k):Cl (oJ k kn kn) (n+1):=by
 have pre:=gA k kn kn;have hn:n<kn.length:=(ώ.mp hk).1;have back:∀{i x},i<n+1->(oJ k kn kn)[i]?=some x->kn[i]?=some x:=λ{i x} hi e=>by
  have hl:i<kn.length:=by omega
  have:kn[i]?=some kn[i]:=by simp[hl]
  rw[uA pre this]at e;rw[this];exact e
 intro i j x y hi hj hx hy e;have hx':=back hi hx;have hy':=back hj hy;by_cases ei:i=n
 ·subst ei;rw[hk]at hx';cases hx';exact(lA (Η hy')).1 e
 ·by_cases ej:j=n
  ·subst ej;rw[hk]at hy';cases hy';exact(lA (Η hx')).2 e
  ·exact pre.subset (h i j x y (by omega) (by omega) hx' hy' e)
theorem E3 {kn:List Arr} (h:Cl kn kn.length):∀x∈kn,∀y∈kn,x.2.1=y.1->comp x y∈kn:=by
 intro x hx y hy e;obtain⟨i,hi,rfl⟩:=ϲ.mp hx;obtain⟨j,hj,rfl⟩:=ϲ.mp hy;exact h i j _ _ hi hj (by simp[hi]) (by simp[hj]) e
structure Good (sz:List Nat) (kn:List Arr):Prop where
 szm:sz∈szs
 nd:kn.Nodup
 ok:∀x∈kn,Ok sz x
 rest:∀b,b<sz.length->idm sz b∈kn
 cl:∀x∈kn,∀y∈kn,x.2.1=y.1->comp x y∈kn
theorem Good.few {sz kn} (g:Good sz kn):kn.length<=27 :=
 ϣ (eZ g.nd λx hx=>qI (g.ok x hx)) (qf sz g.szm)
theorem Good.perm {sz kn kn'} (g:Good sz kn) (p:kn'.Perm kn):Good sz kn' :=
 ⟨g.szm,p.nodup_iff.mpr g.nd,λx hx=>g.ok x (p.mem_iff.mp hx),λb hb=>p.mem_iff.mpr (g.rest b hb),λx hx y hy e=>p.mem_iff.mpr (g.cl x (p.mem_iff.mp hx) y (p.mem_iff.mp hy) e)⟩
end Ar
namespace Ar
theorem ai {Y:Type} {l:List Y} {i:Nat} {d:Y} (h:i<l.length):l.getD i d=l[i]:=by
 rw[ϊ,Ϗ h];rfl
structure HallN (en:List (Nat×Nat)) (re:List Nat) (tb:List (List Int)):Prop where
 nb1:1<=re.length
 nb6:re.length<=6
 na1:1<=en.length
 na40:en.length<=40
 eb:∀i,i<en.length->(en.getD i (0,0)).1<re.length/\(en.getD i (0,0)).2<re.length
 rs:∀b,b<re.length->re.getD b 0<en.length/\en.getD (re.getD b 0) (0,0)=(b,b)
 tl:tb.length=en.length
 rl:∀i,i<en.length->(tb.getD i []).length=en.length
 tp:∀i j,i<en.length->j<en.length->(en.getD i (0,0)).2=(en.getD j (0,0)).1 ->
  ∃k,k<en.length/\(tb.getD i []).getD j (-1)=(k:Int)/\en.getD k (0,0)=((en.getD i (0,0)).1,(en.getD j (0,0)).2)
 tn:∀i j,i<en.length->j<en.length->(en.getD i (0,0)).2≠(en.getD j (0,0)).1->(tb.getD i []).getD j (-1)=-1
 ul:∀i,i<en.length->(tb.getD (re.getD (en.getD i (0,0)).1 0) []).getD i (-1)=(i:Int)
 ur:∀i,i<en.length->(tb.getD i []).getD (re.getD (en.getD i (0,0)).2 0) (-1)=(i:Int)
 as:∀i j k x y:Nat,i<en.length->j<en.length->k<en.length->(tb.getD i []).getD j (-1)=(x:Int)->(tb.getD j []).getD k (-1)=(y:Int) ->
  (tb.getD x []).getD k (-1)=(tb.getD i []).getD y (-1)
def mh (kn:List Arr):List (Nat×Nat):=kn.map λx=>(x.1,x.2.1)
def ky (sz:List Nat) (kn:List Arr):List Nat:=(List.range sz.length).map λb=>kn.idxOf (idm sz b)
def mk (kn:List Arr) (x y:Arr):Int:=if x.2.1=y.1 then(kn.idxOf (comp x y):Int)else -1
def lv (kn:List Arr):List (List Int):=kn.map λx=>kn.map λy=>mk kn x y
theorem tJ {sz:List Nat} {x y z:Arr} (hx:Ok sz x) (hy:Ok sz y) (hz:Ok sz z) (e:x.2.1=y.1) (e':y.2.1=z.1):comp (comp x y) z=comp x (comp y z):=by
 obtain⟨n,m,h1,h2,h3,h4⟩:=hx;obtain⟨n',m',g1,g2,g3,g4⟩:=hy;have hm:m=n':=by rw[e]at h2;rw[h2]at g1;exact Ϥ g1
 simp only[comp,ϩ,Prod.mk.injEq,true_and];refine Ϧ λi hi=>?_;have hl:i<y.2.2.length:=by rw[g3,<- hm];exact h4 i hi
 simp only[Function.comp,ϊ,ϥ];rw[Ϗ hl];simp
theorem gE (l:List Nat):(List.range l.length).map (λi=>l.getD i 0)=l:=by
 apply υ
 ·simp
 ·intro i h1 h2;simp only[ϵ,List.getElem_range];exact ai h2
theorem zg {sz:List Nat} {x:Arr} (hx:Ok sz x):comp (idm sz x.1) x=x:=by
 obtain⟨n,m,h1,h2,h3,h4⟩:=hx;have e:sz.getD x.1 0=x.2.2.length:=by rw[ϊ,h1,h3];rfl
 simp only[comp,idm,e,gE]
theorem zf {sz:List Nat} {x:Arr} (hx:Ok sz x):comp x (idm sz x.2.1)=x:=by
 obtain⟨n,m,h1,h2,h3,h4⟩:=hx;have e:sz.getD x.2.1 0=m:=by rw[ϊ,h2];rfl
 have:(x.2.2.map λi=>(List.range m).getD i 0)=x.2.2:=by
  conv=>rhs;rw[<- List.map_id x.2.2]
  refine Ϧ λi hi=>?_;have:=h4 i hi;rw[ai (by simpa using this)];simp
 simp only[comp,idm,e,this]
section
variable {sz:List Nat} {kn:List Arr}
theorem cB:(mh kn).length=kn.length:=by simp[mh]
theorem jG:(ky sz kn).length=sz.length:=by simp[ky]
theorem gR {i:Nat} (h:i<kn.length):(mh kn).getD i (0,0)=(kn[i].1,kn[i].2.1):=by
 rw[ai (by rw[cB];exact h)];simp[mh]
theorem wL {i:Nat} (h:i<kn.length):(lv kn).getD i []=kn.map λy=>mk kn kn[i] y:=by
 rw[ai (by simp[lv];exact h)];simp[lv]
theorem j3 {i j:Nat} (h:i<kn.length) (h':j<kn.length):((lv kn).getD i []).getD j (-1)=mk kn kn[i] kn[j]:=by
 rw[wL h,ai (by simpa using h')];simp
theorem xj {b:Nat} (h:b<sz.length):(ky sz kn).getD b 0=kn.idxOf (idm sz b):=by
 rw[ai (by rw[jG];exact h)];simp[ky]
theorem qu {x:Arr} (h:Ok sz x):x.1<sz.length/\x.2.1<sz.length:=by
 obtain⟨n,m,h1,h2,_⟩:=h;exact⟨(ώ.mp h1).1,(ώ.mp h2).1⟩
theorem jN {x:Arr} (h:x∈kn):∃hl:kn.idxOf x<kn.length,kn[kn.idxOf x]=x :=
 ⟨List.idxOf_lt_length_of_mem h,List.getElem_idxOf _⟩
theorem ya {x y:Arr} {k:Nat} (h:mk kn x y=(k:Int)):x.2.1=y.1/\k=kn.idxOf (comp x y):=by
 unfold mk at h;split at h
 ·exact⟨‹_›,by omega⟩
 ·omega
theorem A6 (g:Good sz kn):HallN (mh kn) (ky sz kn) (lv kn):=by
 have few:=g.few;obtain⟨s1,s4,_⟩:=fN sz g.szm;have okat:∀{i} (h:i<kn.length),Ok sz kn[i]:=λh=>g.ok _ (Ϙ h);have n1:1<=kn.length:=Ω (g.rest 0 (by omega));have idn:∀{i} (h:i<kn.length),kn.idxOf kn[i]=i:=λ{i} h=>g.nd.idxOf_getElem i h;refine⟨by rw[jG];exact s1,by rw[jG];omega,by rw[cB];exact n1,by rw[cB];omega,?_,?_,?_,?_,?_,?_,?_,?_,?_⟩
 ·intro i h;rw[cB]at h;rw[gR h,jG];exact qu (okat h)
 ·intro b h;rw[jG]at h;obtain⟨hl,e⟩:=jN (g.rest b h);rw[xj h,cB,gR hl,e];exact⟨hl,rfl⟩
 ·simp[lv,cB]
 ·intro i h;rw[cB]at h;rw[wL h,cB];simp
 ·intro i j hi hj e;rw[cB]at hi hj;rw[gR hi,gR hj]at e;obtain⟨hl,ek⟩:=jN (g.cl _ (Ϙ hi) _ (Ϙ hj) e);refine⟨kn.idxOf (comp kn[i] kn[j]),by rw[cB];exact hl,?_,?_⟩
  ·rw[j3 hi hj,mk,if_pos e]
  ·rw[gR hl,ek,gR hi,gR hj];rfl
 ·intro i j hi hj e;rw[cB]at hi hj;rw[gR hi,gR hj]at e;rw[j3 hi hj,mk,if_neg e]
 ·intro i h;rw[cB]at h;have o:=okat h;obtain⟨hl,e⟩:=jN (g.rest _ (qu o).1);rw[gR h,xj (qu o).1,j3 hl h,e,mk,if_pos (show(idm sz kn[i].1).2.1=kn[i].1 from rfl),zg o,idn h]
 ·intro i h;rw[cB]at h;have o:=okat h;obtain⟨hl,e⟩:=jN (g.rest _ (qu o).2);rw[gR h,xj (qu o).2,j3 h hl,e,mk,if_pos (show kn[i].2.1=(idm sz kn[i].2.1).1 from rfl),zf o,idn h]
 ·intro i j k x y hi hj hk hx hy;rw[cB]at hi hj hk;rw[j3 hi hj]at hx;rw[j3 hj hk]at hy;obtain⟨e1,rfl⟩:=ya hx;obtain⟨e2,rfl⟩:=ya hy;obtain⟨l1,q1⟩:=jN (g.cl _ (Ϙ hi) _ (Ϙ hj) e1);obtain⟨l2,q2⟩:=jN (g.cl _ (Ϙ hj) _ (Ϙ hk) e2);rw[j3 l1 hk,j3 hi l2,q1,q2];have a1:(comp kn[i] kn[j]).2.1=kn[k].1:=e2;have a2:kn[i].2.1=(comp kn[j] kn[k]).1:=e1;rw[mk,mk,if_pos a1,if_pos a2,tJ (okat hi) (okat hj) (okat hk) e1 e2]
end
end Ar
namespace Ar
abbrev ent (tb:List (List Int)) (a b:Nat):Int:=(tb.getD a []).getD b (-1)
section
variable {en:List (Nat×Nat)} {re:List Nat} {tb:List (List Int)}
theorem HallN.fol (h:HallN en re tb) {i j k:Nat} (hi:i<en.length) (hj:j<en.length) (e:ent tb i j=(k:Int)):(en.getD i (0,0)).2=(en.getD j (0,0)).1/\k<en.length/\en.getD k (0,0)=((en.getD i (0,0)).1,(en.getD j (0,0)).2):=by
 by_cases e0:(en.getD i (0,0)).2=(en.getD j (0,0)).1
 ·obtain⟨k',k1,k2,k3⟩:=h.tp i j hi hj e0;have:k'=k:=by have e:(tb.getD i []).getD j (-1)=(k:Int):=e;rw[k2]at e;omega
  subst this;exact⟨e0,k1,k3⟩
 ·have e:(tb.getD i []).getD j (-1)=(k:Int):=e;rw[h.tn i j hi hj e0]at e;omega
end
end Ar
namespace Ar
theorem lU {Y:Type} {l:List Y} {x d:Y} {i:Nat} (h:i<l.length):(l++[x]).getD i d=l.getD i d:=by
 rw[ϊ,ϊ,ϡ h]
theorem lV {Y:Type} {l:List Y} {x d:Y} {i:Nat} (h:i=l.length):(l++[x]).getD i d=x:=by
 subst h;rw[ϊ,Ϸ (ϗ _),Nat.sub_self];rfl
def tbM (tb:List (List Int)) (n:Nat):List (List Int):=tb.map (λr=>r++[-1])++[List.replicate n (-1)++[(n:Int)]]
section
variable {en:List (Nat×Nat)} {re:List Nat} {tb:List (List Int)}
theorem r8 (h:HallN en re tb) {i:Nat} (hi:i<en.length):(tbM tb en.length).getD i []=tb.getD i []++[-1]:=by
 unfold tbM;have ht:i<tb.length:=by rw[h.tl];exact hi
 rw[lU (by rw[ϋ];exact ht),ai (by rw[ϋ];exact ht),ϵ,ai ht]
theorem og (h:HallN en re tb):(tbM tb en.length).getD en.length []=List.replicate en.length (-1)++[(en.length:Int)]:=by
 unfold tbM;rw[lV (by rw[ϋ,h.tl])]
theorem iV (h:HallN en re tb) {i j:Nat} (hi:i<en.length) (hj:j<en.length):((tbM tb en.length).getD i []).getD j (-1)=(tb.getD i []).getD j (-1):=by
 rw[r8 h hi,lU (by rw[h.rl i hi];exact hj)]
theorem Cy (h:HallN en re tb) {i:Nat} (hi:i<en.length):((tbM tb en.length).getD i []).getD en.length (-1)=-1:=by
 rw[r8 h hi,lV (h.rl i hi).symm]
theorem CB (h:HallN en re tb) {j:Nat} (hj:j<en.length):((tbM tb en.length).getD en.length []).getD j (-1)=-1:=by
 rw[og h,lU (by rw[ϻ];exact hj),ai (by rw[ϻ];exact hj),List.getElem_replicate]
theorem vC (h:HallN en re tb):((tbM tb en.length).getD en.length []).getD en.length (-1)=(en.length:Int):=by
 rw[og h,lV (by rw[ϻ])]
theorem v8 (h:HallN en re tb) (h5:re.length<=5) (h39:en.length<=39):HallN (en++[(re.length,re.length)]) (re++[en.length]) (tbM tb en.length):=by
 have le:(en++[(re.length,re.length)]).length=en.length+1:=by simp
 have lr:(re++[en.length]).length=re.length+1:=by simp
 have cs:∀i,i<(en++[(re.length,re.length)]).length->(i<en.length)\/i=en.length:=λi hi=>by omega
 have e1:∀{i:Nat},i<en.length->(en++[(re.length,re.length)]).getD i (0,0)=en.getD i (0,0):=λhi=>lU hi;have e2:(en++[(re.length,re.length)]).getD en.length (0,0)=(re.length,re.length):=lV rfl;have r1:∀{i:Nat},i<re.length->(re++[en.length]).getD i 0=re.getD i 0:=λhi=>lU hi;have r2:(re++[en.length]).getD re.length 0=en.length:=lV rfl;refine⟨by omega,by omega,by omega,by omega,λi hi=>?_,λb hb=>?_,?_,λi hi=>?_,λi j hi hj e=>?_,λi j hi hj e=>?_,λi hi=>?_,λi hi=>?_,λi j k x y hi hj hk ex ey=>?_⟩
 ·rcases cs i hi with hi|rfl
  ·rw[e1 hi];have:=h.eb i hi;omega
  ·rw[e2];omega
 ·rcases(show b<re.length\/b=re.length by omega)with hb|rfl
  ·rw[r1 hb];have:=h.rs b hb;rw[e1 this.1];exact⟨by omega,this.2⟩
  ·rw[r2,e2];exact⟨by omega,rfl⟩
 ·unfold tbM;simp[h.tl]
 ·rcases cs i hi with hi|rfl
  ·rw[r8 h hi,Ϝ,h.rl i hi,le];rfl
  ·rw[og h];simp
 ·rcases cs i hi with hi|rfl<;>rcases cs j hj with hj|rfl
  ·rw[e1 hi,e1 hj]at e;obtain⟨k,hk,h1,h2⟩:=h.tp i j hi hj e;exact⟨k,by omega,by rw[iV h hi hj,h1],by rw[e1 hi,e1 hj,e1 hk,h2]⟩
  ·rw[e1 hi,e2]at e;have:=h.eb i hi;dsimp only at e;omega
  ·rw[e1 hj,e2]at e;have:=h.eb j hj;dsimp only at e;omega
  ·exact⟨en.length,by omega,vC h,by rw[e2]⟩
 ·rcases cs i hi with hi|rfl<;>rcases cs j hj with hj|rfl
  ·rw[e1 hi,e1 hj]at e;rw[iV h hi hj];exact h.tn i j hi hj e
  ·exact Cy h hi
  ·exact CB h hj
  ·exact absurd (by rw[e2]) e
 ·rcases cs i hi with hi|rfl
  ·have hb:=h.eb i hi;rw[e1 hi,r1 hb.1,iV h (h.rs _ hb.1).1 hi];exact h.ul i hi
  ·rw[e2];dsimp only;rw[r2];exact vC h
 ·rcases cs i hi with hi|rfl
  ·have hb:=h.eb i hi;rw[e1 hi,r1 hb.2,iV h hi (h.rs _ hb.2).1];exact h.ur i hi
  ·rw[e2];dsimp only;rw[r2];exact vC h
 ·have kn:∀{i j k:Nat},i<en.length->j<en.length->(tb.getD i []).getD j (-1)=(k:Int)->k<en.length:=λhi hj e=>(h.fol hi hj e).2.1;rcases cs i hi with hi|rfl<;>rcases cs j hj with hj|rfl
  ·rw[iV h hi hj]at ex;have hx:=kn hi hj ex;rcases cs k hk with hk|rfl
   ·rw[iV h hj hk]at ey;rw[iV h hx hk,iV h hi (kn hj hk ey)];exact h.as i j k x y hi hj hk ex ey
   ·rw[Cy h hj]at ey;omega
  ·rw[Cy h hi]at ex;omega
  ·rw[CB h hj]at ex;omega
  ·rw[vC h]at ex;have hx:x=en.length:=by omega
   subst hx;rcases cs k hk with hk|rfl
   ·rw[CB h hk]at ey;omega
   ·rw[vC h]at ey;have hy:y=en.length:=by omega
    subst hy;rfl
end
end Ar
namespace DL
open L2
section
variable {Y β:Type}
@[simp] theorem aa (a:Y) (f:Y->R β):(R.val a).bind f=f a:=ϕ rfl rfl
@[simp] theorem kW (a:Y):noE (R.val a)=.val a:=ϕ rfl rfl
@[simp] theorem Gf (a:D):noex (R.val a)=.val a:=ϕ rfl rfl
end
variable {i j:Int}
section
variable (U:Rho)
@[simp] theorem ar (a b:Rho->R Out):sq a b U=(a U).bind λo=>match o with
 | .nx ρ'=>b ρ'
 | o=>.val o:=ϕ rfl rfl
@[simp] theorem cO:nxt U=.val (.nx U):=ϕ rfl rfl
@[simp] theorem dn (i:Nat) (e:Rho->R D):asg i e U=(e U).bind λd=>.val (.nx (U.set i (some (.shr d)))):=ϕ rfl rfl
@[simp] theorem xO (i:Nat) (e:Rho->R (List D)):own i e U=(e U).bind λd=>.val (.nx (U.set i (some (.own d)))):=ϕ rfl rfl
@[simp] theorem bM (e:Rho->R D):ret e U=(e U).bind λd=>.val (.rt d):=ϕ rfl rfl
@[simp] theorem za (e:Rho->R D):drp e U=(e U).bind λ_=>.val (.nx U):=ϕ rfl rfl
@[simp] theorem aR (t:Rho->R Bool) (a b:Rho->R Out):DL.iff t a b U=(t U).bind λc=>if c=true then a U else b U:=ϕ rfl rfl
@[simp] theorem bn (F:Rho->R D):tst F U=(F U).bind asB:=ϕ rfl rfl
@[simp] theorem pU (b:Bool):asB (.bl b)=.val b:=ϕ rfl rfl
@[simp] theorem G1 (a b:Rho->R Bool):jX a b U=(a U).bind λx=>if x=true then b U else .val false:=ϕ rfl rfl
@[simp] theorem gB (a b:Rho->R Bool):orB a b U=(a U).bind λx=>if x=true then .val true else b U:=ϕ rfl rfl
@[simp] theorem dA (a:Rho->R Bool):bz a U=(a U).bind λx=>.val (!x):=ϕ rfl rfl
@[simp] theorem B2 (i:Nat):vr i U=match U[i]? with
 | some (some (.shr d))=>.val d
 | _=>.bad:=ϕ rfl rfl
@[simp] theorem B3 (i:Nat):vb i U=match U[i]? with
 | some (some (.shr d))=>.val d
 | some (some (.own xs))=>.val (.lst xs)
 | some (some (.tre (.l .s) (.lst xs)))=>.val (.lst xs)
 | _=>.bad:=ϕ rfl rfl
@[simp] theorem c_ (d:D):kd d U=.val d:=ϕ rfl rfl
@[simp] theorem aF (f:D->D->R D) (a b:Rho->R D):bin f a b U=(a U).bind λx=>(b U).bind λy=>f x y:=ϕ rfl rfl
@[simp] theorem bG (f:D->R D) (a:Rho->R D):una f a U=(a U).bind f:=ϕ rfl rfl
@[simp] theorem iJ:aN U=.val []:=ϕ rfl rfl
@[simp] theorem aZ (a:Rho->R D) (r:Rho->R (List D)):aC a r U=(a U).bind λx=>(r U).bind λxs=>.val (x::xs):=ϕ rfl rfl
@[simp] theorem jh (a:Rho->R (List D)):eT a U=(a U).bind mkT:=ϕ rfl rfl
@[simp] theorem Cj (a:Rho->R (List D)):eL a U=(a U).bind mkL:=ϕ rfl rfl
@[simp] theorem HU (a b:D):mkT [a,b]=.val (.tup [a,b]):=ϕ rfl rfl
@[simp] theorem HS (a b c:D):mkT [a,b,c]=.val (.tup [a,b,c]):=ϕ rfl rfl
@[simp] theorem HR (a b c d e:D):mkT [a,b,c,d,e]=.val (.tup [a,b,c,d,e]):=ϕ rfl rfl
@[simp] theorem HW (a:D):mkL [a]=.val (.lst [a]):=ϕ rfl rfl
@[simp] theorem HV (a b:D):mkL [a,b]=.val (.lst [a,b]):=ϕ rfl rfl
@[simp] theorem aP (F:Rho->R (List D)):eLs F U=(F U).bind λxs=>.val (.lst xs):=ϕ rfl rfl
@[simp] theorem GC:iQ aN U=.val []:=ϕ rfl rfl
@[simp] theorem l9 (F:Rho->R D):fIt F U=(F U).bind itD:=ϕ rfl rfl
@[simp] theorem GY (xs:List D):itD (.lst xs)=.val xs:=ϕ rfl rfl
@[simp] theorem GX (xs:List D):itD (.tup xs)=.val xs:=ϕ rfl rfl
@[simp] theorem zm (n:Nat) (den:List D->R D) (a:Rho->R (List D)):cal n den a U=(a U).bind λds=>if ds.length=n then noex (den ds)else .bad:=ϕ rfl rfl
@[simp] theorem yp (i:Nat) (F:Rho->R Out):fz i F U=F (frz i U):=ϕ rfl rfl
@[simp] theorem bK (src:Rho->R (List D)) (T:D->Rho->Option Rho) (F:Rho->R Out):aE src T F U=(src U).bind λxs=>aX T F xs U:=ϕ rfl rfl
@[simp] theorem k6 (F:Rho->R (List D)):aK F U=(F U).bind mI:=ϕ rfl rfl
@[simp] theorem jc (F:Rho->R (List D)):c9 F U=(F U).bind ph:=ϕ rfl rfl
@[simp] theorem jg (xs:List D):ph [.lst xs]=.val (enu 0 xs):=ϕ rfl rfl
@[simp] theorem Fj (F:Rho->R (List D)):fY F U=(F U).bind rgT:=ϕ rfl rfl
@[simp] theorem BE (F:Rho->R (List D)):y_ F U=(F U).bind A_:=ϕ rfl rfl
@[simp] theorem A9 (i j:Int):A_ [.int i,.int j]=.val (.int (if j>i then j else i)):=ϕ rfl rfl
@[simp] theorem HD (d:D):fin (.val (.rt d))=.val d:=ϕ rfl rfl
@[simp] theorem HE (U:Rho):fin (.val (.nx U))=.val .non:=ϕ rfl rfl
@[simp] theorem D5 (den:Rho->R D) (Fa:Rho->R (List D)):mkH den Fa U=(Fa U).bind λds=>match ds with
 | [e,r,t]=>noex (den (im e r t))
 | _=>.bad:=ϕ rfl rfl
@[simp] theorem s_ (xs:List D):aj (.lst xs)=.val (.int xs.length):=ϕ rfl rfl
@[simp] theorem Hw (xs:List D):gH (.lst xs)=.val (.tup xs):=ϕ rfl rfl
@[simp] theorem GZ (i:Int):cS (.int i)=.val (.int (-i)):=ϕ rfl rfl
@[simp] theorem gG (f:Int->Int->R D) (i j:Int):iI f (.int i) (.int j)=f i j:=ϕ rfl rfl
@[simp] theorem Hx (i j:Int):flt i j=.val (.bl (decide (i<j))):=ϕ rfl rfl
@[simp] theorem tf (i j:Int):fgt i j=.val (.bl (decide (j<i))):=ϕ rfl rfl
@[simp] theorem HF (i j:Int):fge i j=.val (.bl (decide (j<=i))):=ϕ rfl rfl
@[simp] theorem uW (i j:Int):bA (.int i) (.int j)=.val (.int (i+j)):=ϕ rfl rfl
theorem cx (h:0<j):aA i j=.val (.int (i%j)):=if_pos h
theorem o9 (h:0<j/\j<1073741824):bT i j=.val (.int (i/j)):=if_pos h
theorem i8 (h:-(2 ^ 64)<j/\j<2 ^ 64):dP i j=.val (.int (i*j)):=if_pos (.inr h)
@[simp] theorem E4 (f g:Int->Int->Bool) (a b c:Rho->R D):chn f g a b c U=(a U).bind λx=>(b U).bind λy=>match x,y with
 | .int i,.int j=>if f i j=true then(c U).bind λz=>match z with
   | .int k=>.val (.bl (g j k))
   | _=>.bad
  else .val (.bl false)
 | _,_=>.bad:=ϕ rfl rfl
end
theorem pQ {Y:Type} (xs:List Y) (i:Nat):atI xs (i:Int)=xs[i]?:=by
 unfold atI ixN;rw[if_pos (Int.natCast_nonneg i)];by_cases h:i<xs.length
 ·rw[if_pos (by exact_mod_cast h)];simp
 ·rw[if_neg (by intro z;exact h (by exact_mod_cast z))];simp at h;simp[τ h]
variable {xs:List D}
theorem gK {i:Nat} {d:D} (h:xs[i]?=some d):fix (.lst xs) (.int (i:Int))=.val d:=by
 show(match atI xs (i:Int)with|some d=>R.val d|none=>.bad)=_;rw[pQ,h]
theorem uU {i:Nat} {d:D} (h:xs[i]?=some d):fix (.tup xs) (.int (i:Int))=.val d:=by
 show(match atI xs (i:Int)with|some d=>R.val d|none=>.bad)=_;rw[pQ,h]
theorem Cg {xs:List Int} {i:Nat} {d:Int} (h:xs[i]?=some d):fix (.scr xs) (.int (i:Int))=.val (.int d):=by
 show(match atI xs (i:Int)with|some d=>R.val (D.int d)|none=>R.bad)=_;rw[pQ,h]
@[simp] theorem yI (a:D) (r:List D):fix (.tup (a::r)) (.int 0)=.val a:=uU (i:=0) rfl
@[simp] theorem yH (a b:D) (r:List D):fix (.tup (a::b::r)) (.int 1)=.val b:=uU (i:=1) rfl
@[simp] theorem En (a b c:D) (r:List D):fix (.tup (a::b::c::r)) (.int 2)=.val c:=uU (i:=2) rfl
theorem rk {T:D->Rho->Option Rho} {e:Rho->R D} {g:D->D} {U:Rho}:∀{xs:List D},(∀x∈xs,∃U1,T x U=some U1/\e U1=.val (g x))->hE T tT e xs U=.val (xs.map g)
 | [],_=>rfl
 | x::r,h=>by
  obtain⟨U1,h1,h2⟩:=h x (by simp);have ih:=rk (T:=T) (e:=e) (g:=g) (U:=U) (xs:=r) λy hy=>h y (by simp[hy]);unfold hE;rw[h1];show(noE (tT U1)).bind _=_;simp[tT,h2,ih]
theorem dR {T:D->Rho->Option Rho} {F:Rho->R Out} (I:Nat->Rho->Prop) (step:∀(i:Nat) x U,xs[i]?=some x->I i U->∃U1 U2,T x U=some U1/\F U1=.val (.nx U2)/\I (i+1) U2) {U:Rho} (h:I 0 U):∃ρ',aX T F xs U=.val (.nx ρ')/\I xs.length ρ':=by
 suffices ∀(n k:Nat) (U:Rho),k+n=xs.length->I k U->∃ρ',aX T F (xs.drop k) U=.val (.nx ρ')/\I xs.length ρ' by
  have:=this xs.length 0 U (by omega) h;rwa[List.drop_zero]at this
 intro n
 induction n with
 | zero =>
  intro k U hk hI;have hk:k=xs.length:=by omega
  subst hk;rw[List.drop_length];exact⟨U,rfl,hI⟩
 | succ n ih =>
  intro k U hk hI;have hlt:k<xs.length:=by omega
  obtain⟨U1,U2,h1,h2,h3⟩:=step k xs[k] U (by simp[hlt]) hI;rw[μ hlt];unfold aX;rw[h1];show ∃ρ',(F U1).bind _=_/\_;rw[h2];exact ih (k+1) U2 (by omega) h3
end DL
namespace DL
open L2 Ar
def pln:Nat->D->Bool
 | _,.non=>true
 | _,.int _=>true
 | n+1,.lst xs=>xs.all (pln n)
 | n+1,.tup xs=>xs.all (pln n)
 | _,_=>false
theorem dz:∀{n:Nat} {x:D},pln n x=true->eqb n x=true:=by
 intro n
 induction n with
 | zero =>
  intro x h;cases x with
  | non=>rfl
  | int _=>rfl
  | _=>cases h
 | succ n ih =>
  intro x h;cases x with
  | non=>rfl
  | int _=>rfl
  | lst xs=>exact ύ.mpr λy hy=>ih (ύ.mp h y hy)
  | tup xs=>exact ύ.mpr λy hy=>ih (ύ.mp h y hy)
  | _=>cases h
variable {n:Nat} {xs:List D}
theorem qp (ih:∀{x y:D},pln n x=true->pln n y=true->(pyq n x y=true↔x=y)) {ys:List D} (hx:xs.all (pln n)=true) (hy:ys.all (pln n)=true) :
  (decide (xs.length=ys.length)&&(List.range xs.length).all λj=>pyq n (xs.getD j .non) (ys.getD j .non))=true↔xs=ys:=by
 rw[ϝ,decide_eq_true_iff,ύ];rw[ύ]at hx hy;constructor
 ·rintro⟨hl,h⟩;apply υ hl;intro j h1 h2;have:=h j (ό.mpr h1);rw[ai h1,ai h2]at this;exact(ih (hx _ (Ϙ h1)) (hy _ (Ϙ h2))).mp this
 ·rintro rfl;refine⟨rfl,λj hj=>?_⟩;have h1:=ό.mp hj;rw[ai h1];exact(ih (hx _ (Ϙ h1)) (hx _ (Ϙ h1))).mpr rfl
theorem cQ {p q:Prop} (h:¬ p) (g:¬ q):p↔q:=⟨λx=>absurd x h,λx=>absurd x g⟩
theorem uS {a b:Int}:(a==b)=true↔D.int a=D.int b:=beq_iff_eq.trans ⟨congrArg D.int,λh=>by cases h;rfl⟩
theorem hZ:∀(n:Nat) {x y:D},pln n x=true->pln n y=true->(pyq n x y=true↔x=y):=by
 intro n
 induction n with
 | zero =>
  intro x y hx hy;cases x with
  | non =>
   cases y with
   | non=>exact⟨λ_=>rfl,λ_=>rfl⟩
   | int b=>exact cQ ϙ (λh=>by cases h)
   | _=>cases hy
  | int a =>
   cases y with
   | int b=>exact uS
   | non=>exact cQ ϙ (λh=>by cases h)
   | _=>cases hy
  | _=>cases hx
 | succ n ih =>
  intro x y hx hy;cases x with
  | lst xs =>
   cases y with
   | lst ys=>rw[oF,qp ih hx hy];exact⟨congrArg D.lst,λh=>by cases h;rfl⟩
   | non=>exact cQ ϙ (λh=>by cases h)
   | int _=>exact cQ ϙ (λh=>by cases h)
   | tup _=>exact cQ ϙ (λh=>by cases h)
   | _=>cases hy
  | tup xs =>
   cases y with
   | tup ys=>rw[oE,qp ih hx hy];exact⟨congrArg D.tup,λh=>by cases h;rfl⟩
   | non=>exact cQ ϙ (λh=>by cases h)
   | int _=>exact cQ ϙ (λh=>by cases h)
   | lst _=>exact cQ ϙ (λh=>by cases h)
   | _=>cases hy
  | non =>
   cases y with
   | non=>exact⟨λ_=>rfl,λ_=>rfl⟩
   | int b=>exact cQ ϙ (λh=>by cases h)
   | lst _=>exact cQ ϙ (λh=>by cases h)
   | tup _=>exact cQ ϙ (λh=>by cases h)
   | _=>cases hy
  | int a =>
   cases y with
   | int b=>exact uS
   | non=>exact cQ ϙ (λh=>by cases h)
   | lst _=>exact cQ ϙ (λh=>by cases h)
   | tup _=>exact cQ ϙ (λh=>by cases h)
   | _=>cases hy
  | _=>cases hx
variable {x:D}
theorem i_ (h:pln 9 x=true):feq x x=.val (.bl true):=by
 unfold feq;rw[if_pos ⟨dz h,dz h⟩,(hZ 9 h h).mpr rfl]
theorem ja {y:D} (h:pln 9 x=true) (h':pln 9 y=true) (e:x≠y):feq x y=.val (.bl false):=by
 unfold feq;rw[if_pos ⟨dz h,dz h'⟩];cases q:pyq 9 x y with
 | false=>rfl
 | true=>exact absurd ((hZ 9 h h').mp q) e
theorem fB (h:pln 9 x=true):fne x x=.val (.bl false):=by
 unfold fne;rw[if_pos ⟨dz h,dz h⟩,(hZ 9 h h).mpr rfl];rfl
theorem lW {y:D} (h:pln 9 x=true) (h':pln 9 y=true) (e:x≠y):fne x y=.val (.bl true):=by
 unfold fne;rw[if_pos ⟨dz h,dz h'⟩];cases q:pyq 9 x y with
 | false=>rfl
 | true=>exact absurd ((hZ 9 h h').mp q) e
@[simp] theorem l8 (a b:Int):feq (.int a) (.int b)=.val (.bl (decide (a=b))):=by
 by_cases h:a=b
 ·subst h;rw[i_ rfl];simp
 ·rw[ja rfl rfl (by simpa using h)];simp[h]
@[simp] theorem o8 (a b:Int):fne (.int a) (.int b)=.val (.bl (decide (a≠b))):=by
 by_cases h:a=b
 ·subst h;rw[fB rfl];simp
 ·rw[lW rfl rfl (by simpa using h)];simp[h]
abbrev nD (n:Nat):D:=.int (n:Int)
def ah (x:Arr):D:=.tup [nD x.1,nD x.2.1,.tup (x.2.2.map nD)]
def bp (p:Nat×Nat):D:=.tup [nD p.1,nD p.2]
def aw (en:List (Nat×Nat)):D:=.lst (en.map bp)
def ac (re:List Nat):D:=.lst (re.map nD)
def ae (r:List Int):D:=.lst (r.map D.int)
def af (tb:List (List Int)):D:=.lst (tb.map ae)
theorem nD_inj {a b:Nat}:nD a=nD b↔a=b:=by
 simp only[nD,D.int.injEq];omega
theorem endD_inj {p q:Nat×Nat}:bp p=bp q↔p=q:=by
 obtain⟨a,b⟩:=p;obtain⟨c,d⟩:=q;simp only[bp,nD,D.tup.injEq,ψ,D.int.injEq,and_true,Prod.mk.injEq];omega
theorem oX {Y:Type} {f:Y->D} (hf:∀a b,f a=f b->a=b):∀{l m:List Y},l.map f=m.map f->l=m
 | [],[],_=>rfl
 | [],_::_,h=>by simp at h
 | _::_,[],h=>by simp at h
 | a::l,b::m,h=>by
  simp only[Ϯ,ψ]at h;rw[hf _ _ h.1,oX hf h.2]
theorem arrD_inj {x y:Arr}:ah x=ah y↔x=y:=by
 obtain⟨a,b,l⟩:=x;obtain⟨c,d,m⟩:=y;constructor
 ·intro h;simp only[ah,nD,D.tup.injEq,ψ,D.int.injEq,Int.natCast_inj,and_true]at h;obtain⟨h1,h2,h3⟩:=h;rw[h1,h2,oX (λa b e=>nD_inj.mp e) h3]
 ·rintro h;rw[h]
variable {Y:Type}
theorem all_map {f:Y->D} (h:∀a,pln n (f a)=true) (l:List Y):(l.map f).all (pln n)=true:=by
 rw[ύ];intro y hy;obtain⟨a,_,rfl⟩:=ϱ.mp hy;exact h a
variable {k:Nat}
theorem xB (n:Nat):pln k (nD n)=true:=by unfold nD pln;rfl
theorem uC (n:Int):pln k (.int n)=true:=by cases k<;>rfl
theorem kQ (h:xs.all (pln k)=true):pln (k+1) (.tup xs)=true:=h
theorem uB (h:xs.all (pln k)=true):pln (k+1) (.lst xs)=true:=h
theorem eN (p:Nat×Nat):pln (k+1) (bp p)=true:=kQ (by simp[xB])
theorem h9 (x:Arr):pln (k+2) (ah x)=true:=kQ (by simp[xB];exact kQ (all_map (λa=>xB a) _))
theorem eK (r:List Int):pln (k+1) (ae r)=true:=uB (all_map (λp=>uC p) _)
theorem Ag (tb:List (List Int)):pln (k+2) (af tb)=true:=uB (all_map (λp=>eK p) _)
variable {i:Nat}
theorem bZ {f:Y->D} {l:List Y} {d:Y} (h:i<l.length):(l.map f)[i]?=some (f (l.getD i d)):=by
 rw[ai h];simp[h]
theorem ce {en:List (Nat×Nat)} (h:i<en.length):fix (aw en) (.int (i:Int))=.val (bp (en.getD i (0,0))):=gK (bZ h)
theorem aY {re:List Nat} (h:i<re.length):fix (ac re) (.int (i:Int))=.val (nD (re.getD i 0)):=gK (bZ h)
theorem aJ {tb:List (List Int)} (h:i<tb.length):fix (af tb) (.int (i:Int))=.val (ae (tb.getD i [])):=gK (bZ h)
theorem aM {r:List Int} (h:i<r.length):fix (ae r) (.int (i:Int))=.val (.int (r.getD i (-1))):=gK (bZ h)
@[simp] theorem Hz (p:Nat×Nat):fix (bp p) (.int 0)=.val (nD p.1):=yI _ _
@[simp] theorem Hy (p:Nat×Nat):fix (bp p) (.int 1)=.val (nD p.2):=yH _ _ _
@[simp] theorem HC (x:Arr):fix (ah x) (.int 0)=.val (nD x.1):=yI _ _
@[simp] theorem HB (x:Arr):fix (ah x) (.int 1)=.val (nD x.2.1):=yH _ _ _
@[simp] theorem HA (x:Arr):fix (ah x) (.int 2)=.val (.tup (x.2.2.map nD)):=En _ _ _ _
@[simp] theorem yE (en:List (Nat×Nat)):aj (aw en)=.val (.int en.length):=by unfold aw;simp
@[simp] theorem qR (re:List Nat):aj (ac re)=.val (.int re.length):=by unfold ac;simp
@[simp] theorem i9 (r:List Int):aj (ae r)=.val (.int r.length):=by unfold ae;simp
@[simp] theorem yC (r:List (List Int)):aj (af r)=.val (.int r.length):=by unfold af;simp
@[simp] theorem GA (p:Nat×Nat):aj (bp p)=.val (.int 2):=ϕ rfl rfl
variable {U:Rho}
theorem lO {F:Rho->R Out} {j:Nat} (I:Rho->Prop) (step:∀(k:Nat) x U,xs[k]?=some x->I U->∃U2,F ((U.set i (some (.shr (.int (k:Int))))).set j (some (.shr x)))=.val (.nx U2)/\I U2) (h:I U) :
  ∃ρ',aX (tg2 i j) F (enu 0 xs) U=.val (.nx ρ')/\I ρ':=by
 refine dR (λ_=>I) (λk y U e hI=>?_) h;obtain⟨x,e1,rfl⟩:=tD e;rw[Λ];obtain⟨U2,h1,h2⟩:=step k x U e1 hI;exact⟨_,U2,rfl,h1,h2⟩
theorem dE {F:Rho->R Out} (I:Nat->Rho->Prop) (step:∀(k:Nat) U,k<n->I k U->∃U2,F (U.set i (some (.shr (.int (k:Int)))))=.val (.nx U2)/\I (k+1) U2) (h:I 0 U) :
  ∃ρ',aX (tgN i) F (rng 0 n) U=.val (.nx ρ')/\I n ρ':=by
 have hl:(rng 0 n).length=n:=by unfold rng;simp
 obtain⟨ρ',h1,h2⟩:=dR (T:=tgN i) (F:=F) I (xs:=rng 0 n) (λk y U e hI=>by
  have hk:k<n:=by rw[<- hl];exact(ώ.mp e).1
  have:y=.int (k:Int):=by
   unfold rng at e;rw[ϥ,List.getElem?_range hk]at e;simp at e;exact e.symm
  subst this;obtain⟨U2,h1,h2⟩:=step k U hk hI;exact⟨_,U2,rfl,h1,h2⟩) h
 exact⟨ρ',h1,by rw[hl]at h2;exact h2⟩
theorem cN (h:n<=100000):mI [.int (n:Int)]=.val (rng 0 n):=by
 have:-(2 ^ 62)<=(n:Int)/\(n:Int)<2 ^ 62:=by constructor<;>omega
 unfold mI;dsimp only;rw[if_pos this,Α]
theorem iW {z:Int} (h:0<=z) (h':z<=100000):mI [.int z]=.val (rng 0 z.toNat):=by
 have:-(2 ^ 62)<=z/\z<2 ^ 62:=by constructor<;>omega
 unfold mI;dsimp only;rw[if_pos this]
theorem z_ (n:Nat):(rng 0 n).length=n:=by unfold rng;simp
theorem AM (h:x∈rng 0 n):∃k:Nat,k<n/\x=.int (k:Int):=by
 unfold rng at h;obtain⟨k,hk,rfl⟩:=ϱ.mp h;exact⟨k,ό.mp hk,by simp⟩
theorem jd {src:Rho->R (List D)} {m:Nat} {e:Rho->R D} {g:Nat->D} (hs:src U=.val (rng 0 m)) (hl:m<=100000) (h:∀k:Nat,k<m->e ((U++List.replicate n none).set i (some (.shr (.int (k:Int)))))=.val (g k)) :
  av src n (tgN i) tT e U=.val ((List.range m).map g):=by
 unfold av;rw[hs,aa,if_pos (show(rng 0 m).length<=LIM by rw[z_];exact hl)];have:hE (tgN i) tT e (rng 0 m) (U++List.replicate n none)=.val ((rng 0 m).map λx=>match x with | .int z=>g z.toNat|_=>.non):=rk λx hx=>by
  obtain⟨k,hk,rfl⟩:=AM hx;exact⟨_,rfl,by rw[h k hk];simp⟩
 rw[this,kW];unfold rng;rw[ϩ]
 congr 1
 apply Ϧ;intro k hk;simp
theorem aS {src:Rho->R (List D)} {e:Rho->R D} {f g:Y->D} {l:List Y} (hs:src U=.val (l.map f)) (hl:l.length<=100000) (h:∀a∈l,e ((U++List.replicate n none).set i (some (.shr (f a))))=.val (g a)) :
  av src n (tgN i) tT e U=.val (l.map g):=by
 unfold av;rw[hs,aa,if_pos (show(l.map f).length<=LIM by rw[ϋ];exact hl)]
 suffices ∀l:List Y,(∀a∈l,e ((U++List.replicate n none).set i (some (.shr (f a))))=.val (g a))->hE (tgN i) tT e (l.map f) (U++List.replicate n none)=.val (l.map g) by
  rw[this l h];rfl
 intro l
 induction l with
 | nil=>intro _;rfl
 | cons a r ih =>
  intro h;have h1:=h a (by simp);have h2:=ih λb hb=>h b (by simp[hb]);rw[Ϯ];unfold hE;show(noE (tT _)).bind _=_;rw[h2];simp only[tT,kW,aa,if_true];rw[h1];rfl
end DL
namespace DL
open PySem PySem.Spec PyProof.Rows L2
structure Txt (K:Frag) (mg:Str->Option Value) (C:Addr):Prop where
 cl:Cls K C
 nE:NoAttr K C "ends"
 nR:NoAttr K C "rests"
 nT:NoAttr K C "table"
 len:mg "len"=none
 list:mg "list"=none
 tuple:mg "tuple"=none
 range:mg "range"=none
 enumerate:mg "enumerate"=none
 max:mg "max"=none
 isinstance:mg "isinstance"=none
 all:mg "all"=none
 zip:mg "zip"=none
 min:mg "min"=none
 int:mg "int"=none
 bool:mg "bool"=none
 verr:mg "ValueError"=none
 ih:IsH K C
 hall:mg "Hall"=some (.ref C)
 most_boxes:∃t,mg "MOST_BOXES"=some (.int 6 t)
 most_arrows:∃t,mg "MOST_ARROWS"=some (.int 40 t)
 most_things:∃t,mg "MOST_THINGS"=some (.int 40 t)
 xc4:XC K mg 4
 xc6:XC K mg 6
 xa:tO K mg [4,6]
 xb:∃CA,XB K mg [4,6] CA
 kt_int:KTy K "int"
 kt_bool:KTy K "bool"
 kt_list:KTy K "list"
 kt_tuple:KTy K "tuple"
 wm:∀{x:Str} {f:Addr},nsIn K mainGlobals x=some (some (.ref f))->mg x=some (.ref f)
abbrev sAt (i:Nat):Stmt:=PySem.Challenge.pw_arrowhall_k16_whole_read_through.main.body.getD i (.Pass ⟨0,0,0,0⟩)
section
variable {C:Addr} {X:Cx} {e:Expr} {p pos:Pos} {F:Rho->R D}
theorem erl (h:ER C X e F) (hg:Gl X "len") (hm:X.mg "len"=none) (hst:starEach [e] X.env=(false,eval e X.env)::starEach [] X.env):ED C X (.Call (.Name "len" p) [e] [] pos) (una aj F):=Ez h hg hm hst (λt ha=>dW jy hg hm PySem.boot_len ha (he:=hst) (hpl:=dJ))
theorem fdl (h:EB C X e F) (hg:Gl X "list") (hm:X.mg "list"=none) (hst:starEach [e] X.env=(false,eval e X.env)::starEach [] X.env):FD C X (.Call (.Name "list" p) [e] [] pos) (fIt F):=Be h hg hm hst (λt ha=>df jx hg hm boot_list ha (he:=hst) (hpl:=dJ))
end
section
variable {C:Addr} {X:Cx} {x:Str} {p q pos pos':Pos} {e:Expr} {es:List Expr} {i k n m:Nat} {kr:OK} {den:List D->R D} {F:Rho->R D} {Fa:Rho->R (List D)}
theorem vB (i:Nat) (hN:X.N[i]?=some x:=by rfl) (hv:Vis X.env.scope x:=by first|exact Or.inl rfl|exact Or.inr (Or.inl rfl)|exact Or.inr (Or.inr rfl)) (hd:(x==("__debug__":Str))=false:=by decide) (hcd:(x==("__classdict__":Str))=false:=by decide):EB C X (.Name x pos) (vb i):=E1 (pv i hN hv hd hcd)
theorem vE (i:Nat) (hN:X.N[i]?=some x:=by rfl) (hv:Vis X.env.scope x:=by first|exact Or.inl rfl|exact Or.inr (Or.inl rfl)|exact Or.inr (Or.inr rfl)) (hd:(x==("__debug__":Str))=false:=by decide) (hcd:(x==("__classdict__":Str))=false:=by decide):ED C X (.Name x pos) (vr i):=EC (pv i hN hv hd hcd)
theorem eA (F:Fn X.prog X.w X.K X.mg X.base C k x n den) (hr:Room m X.A) (ha:AD C X (e::es) Fa) (he:starEach (e::es) X.env=(false,eval e X.env)::starEach es X.env) (hpl:(backTo pos (starEach es X.env)).any (·.1)=false) (hk:k<=m:=by decide) (hg:Gl X x:=by exact rfl) (hdb:(x==("__debug__":Str))=false:=by decide):ED C X (.Call (.Name x p) (e::es) [] pos) (cal n den Fa):=EV F (hr.mono hk) hg ha hdb he hpl
theorem eX (F:FnX X.prog X.w X.K X.mg X.base C k x n den) (hr:Room m X.A) (ha:AD C X (e::es) Fa) (he:starEach (e::es) X.env=(false,eval e X.env)::starEach es X.env) (hpl:(backTo pos (starEach es X.env)).any (·.1)=false) (hk:k<=m:=by decide) (hg:Gl X x:=by exact rfl) (hex:X.ex=[]:=by rfl) (hdb:(x==("__debug__":Str))=false:=by decide):ED C X (.Call (.Name x p) (e::es) [] pos) (pG n den Fa):=ET F (hr.mono hk) hg ha hex hdb he hpl
theorem sS (i:Nat) (hN:X.N.Nodup) (he:ED C X e F) (hi:X.N[i]?=some x:=by rfl) (hx:Loc X.env.scope x:=by first|exact Or.inl rfl|exact Or.inr rfl) (hs:swapsWith e (some (.Name x pos')) pos.line X.env=pure false:=by rfl) (hf:X.fn x=true\/X.env.scope.names.lookup x=some .local:=by first|exact .inl rfl|exact .inr rfl):SD C X (.Assign [.Name x pos'] e pos) (asg i F):=C8 hN hi hx he hs hf
theorem gN (i:Nat) (hN:X.N.Nodup) (hi:X.N[i]?=some x:=by rfl) (hx:Loc X.env.scope x:=by first|exact Or.inl rfl|exact Or.inr rfl) (hf:X.fn x=true\/X.env.scope.names.lookup x=some .local:=by first|exact .inl rfl|exact .inr rfl):GD C X (.Name x pos) [i] (tgN i):=A8 hN hi hx hf
def ndB:List Str->Bool
 | []=>true
 | x::r=>r.all (λy=>!(y==x))&&ndB r
theorem Cb:∀{N:List Str},ndB N=true->N.Nodup
 | [],_=>.nil
 | x::r,h=>by
  have h:=ϳ.mp h;exact ξ.mpr ⟨λm=>by have:=ύ.mp h.1 x m;simp at this,Cb h.2⟩
def tgn:Expr->List Str
 | .Name x _=>[x]
 | .Tuple (.Name x _ :: .Name y _::_) _ _=>[x,y]
 | _=>[]
def nw (N t:List Str):List Str:=N.map (λy=>if t.contains y then((".":Str))else y)++t
variable {tg iter elt:Expr} {ifs:List Expr} {scope:Scope} {ix:List Nat} {src:Rho->R (List D)} {Tg:D->Rho->Option Rho} {t:Rho->R Bool}
theorem fdc (hn:(nw X.N (tgn tg)).Nodup) (hi:ID C X tg iter src) (tk:rJ ix Tg) (hix:∀j∈ix,X.N.length<=j)
  (hg:∀L cs s H fp,(nw X.N (tgn tg)).Nodup->GD C (cxC X (nw X.N (tgn tg)) scope L cs s H fp) tg ix Tg) (ht:∀L cs s H fp,(nw X.N (tgn tg)).Nodup->kL C (cxC X (nw X.N (tgn tg)) scope L cs s H fp) ifs t) (he:∀L cs s H fp,(nw X.N (tgn tg)).Nodup->ED C (cxC X (nw X.N (tgn tg)) scope L cs s H fp) elt F)
  (hcalm:X.calm=true:=by rfl) (hchk:mB X.N (nw X.N (tgn tg)) X.env scope=true:=by rfl) (hN:(nw X.N (tgn tg)).length=X.N.length+n:=by rfl) (hs:∀x,foldedSetIterable iter X.env x=pure x:=by intro _;rfl):FD C X (.ListComp elt [⟨tg,iter,ifs,0⟩] scope pos) (av src n Tg t F) :=
 Bf hcalm hchk hN hix tk hi (λL cs s H fp=>hg L cs s H fp hn) (λL cs s H fp=>ht L cs s H fp hn) (λL cs s H fp=>he L cs s H fp hn) hs
theorem kdc (hn:(nw X.N (tgn tg)).Nodup) (hi:ID C X tg iter src) (tk:rJ ix Tg) (hix:∀j∈ix,X.N.length<=j)
  (hg:∀L cs s H fp,(nw X.N (tgn tg)).Nodup->GD C (cxC X (nw X.N (tgn tg)) scope L cs s H fp) tg ix Tg) (ht:∀L cs s H fp,(nw X.N (tgn tg)).Nodup->kL C (cxC X (nw X.N (tgn tg)) scope L cs s H fp) ifs t) (he:∀L cs s H fp,(nw X.N (tgn tg)).Nodup->KD C (cxC X (nw X.N (tgn tg)) scope L cs s H fp) kr elt F)
  (hcalm:X.calm=true:=by rfl) (hchk:mB X.N (nw X.N (tgn tg)) X.env scope=true:=by rfl) (hN:(nw X.N (tgn tg)).length=X.N.length+n:=by rfl) (hs:∀x,foldedSetIterable iter X.env x=pure x:=by intro _;rfl):KD C X (.l kr) (.ListComp elt [⟨tg,iter,ifs,0⟩] scope pos) (eLs (av src n Tg t F)) :=
 uQ hcalm hchk hN hix hi (λL cs s H fp=>hg L cs s H fp hn) (λL cs s H fp=>ht L cs s H fp hn) (λL cs s H fp=>he L cs s H fp hn) hs
theorem pcc {y:Str} {py spos:Pos} (hy:PG X (.Name y py) (cR i)) (hn:(nw X.N (tgn tg)).Nodup) (hi:ID C X tg iter src) (tk:rJ ix Tg) (hix:∀j∈ix,X.N.length<=j)
  (hg:∀L cs s H fp,(nw X.N (tgn tg)).Nodup->GD C (cxC X (nw X.N (tgn tg)) scope L cs s H fp) tg ix Tg) (ht:∀L cs s H fp,(nw X.N (tgn tg)).Nodup->kL C (cxC X (nw X.N (tgn tg)) scope L cs s H fp) ifs t) (he:∀L cs s H fp,(nw X.N (tgn tg)).Nodup->ED C (cxC X (nw X.N (tgn tg)) scope L cs s H fp) elt F)
  (hsw:swapsWith (.ListComp elt [⟨tg,iter,ifs,0⟩] scope pos) (some (.Name y py)) spos.line X.env=pure true:=by rfl) (hcalm:X.calm=true:=by rfl) (hchk:mB X.N (nw X.N (tgn tg)) X.env scope=true:=by rfl) (hN:(nw X.N (tgn tg)).length=X.N.length+n:=by rfl) (hs:∀x,foldedSetIterable iter X.env x=pure x:=by intro _;rfl):PS X (.Assign [.Name y py] (.ListComp elt [⟨tg,iter,ifs,0⟩] scope pos) spos) (on (teF C X (av src n Tg t F)) (cR i)) :=
 sy hy hcalm hchk hN hix tk hi (λL cs s H fp=>hg L cs s H fp hn) (λL cs s H fp=>ht L cs s H fp hn) (λL cs s H fp=>he L cs s H fp hn) hsw hs
theorem pkc {y:Str} {py spos:Pos} (hy:PG X (.Name y py) (cR i)) (hn:(nw X.N (tgn tg)).Nodup) (hi:ID C X tg iter src) (tk:rJ ix Tg) (hix:∀j∈ix,X.N.length<=j)
  (hg:∀L cs s H fp,(nw X.N (tgn tg)).Nodup->GD C (cxC X (nw X.N (tgn tg)) scope L cs s H fp) tg ix Tg) (ht:∀L cs s H fp,(nw X.N (tgn tg)).Nodup->kL C (cxC X (nw X.N (tgn tg)) scope L cs s H fp) ifs t) (he:∀L cs s H fp,(nw X.N (tgn tg)).Nodup->KD C (cxC X (nw X.N (tgn tg)) scope L cs s H fp) kr elt F)
  (hsw:swapsWith (.ListComp elt [⟨tg,iter,ifs,0⟩] scope pos) (some (.Name y py)) spos.line X.env=pure true:=by rfl) (hcalm:X.calm=true:=by rfl) (hchk:mB X.N (nw X.N (tgn tg)) X.env scope=true:=by rfl) (hN:(nw X.N (tgn tg)).length=X.N.length+n:=by rfl) (hs:∀x,foldedSetIterable iter X.env x=pure x:=by intro _;rfl):PS X (.Assign [.Name y py] (.ListComp elt [⟨tg,iter,ifs,0⟩] scope pos) spos) (on (teK C X (.l kr) (eLs (av src n Tg t F))) (cR i)) :=
 j5 hy hcalm hchk hN hix hi (λL cs s H fp=>hg L cs s H fp hn) (λL cs s H fp=>ht L cs s H fp hn) (λL cs s H fp=>he L cs s H fp hn) hsw hs
end
variable {us:List Value}
theorem sQ {n:Nat} (h:us.length=n+1):∃y l,us=y::l/\l.length=n:=by
 cases us with
 | nil=>cases h
 | cons y l=>exact⟨y,l,rfl,Nat.succ.inj h⟩
theorem Gq (h:us.length=1):∃y0,us=[y0]:=by
 obtain⟨y,l,e,h⟩:=sQ h;exact⟨y,by rw[e,List.eq_nil_of_length_eq_zero h]⟩
theorem Gp (h:us.length=2):∃y0 y1,us=[y0,y1]:=by
 obtain⟨y,l,rfl,g⟩:=sQ h;obtain⟨y1,rfl⟩:=Gq g;exact⟨y,y1,rfl⟩
theorem Go (h:us.length=3):∃y0 y1 y2,us=[y0,y1,y2]:=by
 obtain⟨y,l,rfl,g⟩:=sQ h;obtain⟨y1,y2,rfl⟩:=Gp g;exact⟨y,y1,y2,rfl⟩
theorem Gn (h:us.length=4):∃y0 y1 y2 y3,us=[y0,y1,y2,y3]:=by
 obtain⟨y,l,rfl,g⟩:=sQ h;obtain⟨y1,y2,y3,rfl⟩:=Go g;exact⟨y,y1,y2,y3,rfl⟩
theorem Gm (h:us.length=5):∃y0 y1 y2 y3 y4,us=[y0,y1,y2,y3,y4]:=by
 obtain⟨y,l,rfl,g⟩:=sQ h;obtain⟨y1,y2,y3,y4,rfl⟩:=Gn g;exact⟨y,y1,y2,y3,y4,rfl⟩
theorem Gk (h:us.length=6):∃y0 y1 y2 y3 y4 y5,us=[y0,y1,y2,y3,y4,y5]:=by
 obtain⟨y,l,rfl,g⟩:=sQ h;obtain⟨y1,y2,y3,y4,y5,rfl⟩:=Gm g;exact⟨y,y1,y2,y3,y4,y5,rfl⟩
theorem Hn (h:us.length=7):∃y0 y1 y2 y3 y4 y5 y6,us=[y0,y1,y2,y3,y4,y5,y6]:=by
 obtain⟨y,l,rfl,g⟩:=sQ h;obtain⟨y1,y2,y3,y4,y5,y6,rfl⟩:=Gk g;exact⟨y,y1,y2,y3,y4,y5,y6,rfl⟩
abbrev t6:List Str:=["script","k","base"]
def jr:Rho->R Out:=(sq (iff (tst (bin (iI flt) (vb 1) (una aj (vb 0))))
 (ret (bin fix (vb 0) (vb 1)))
 nxt)
 (sq (asg 2 (kd (.int 0)))
 (sq (iff (tst (bin (iI fgt) (una aj (vb 0)) (kd (.int 0))))
 (asg 2 (bin fix (vb 0) (kd (.int 0))))
 nxt)
 (ret (bin (iI aA) (bin bA (bin (iI dP) (bin (iI aA) (vb 2) (kd (.int 65521))) (kd (.int 48271))) (bin (iI dP) (vb 1) (kd (.int 30103)))) (kd (.int 65521)))))))
def ag (ds:List D):R D:=fin (jr (st0 t6 ds))
abbrev rN:List Str:=["script","k","cell","way"]
def iE:Rho->R Out:=(sq (asg 2 (cal 2 ag (aC (vr 0) (aC (vr 1) aN))))
 (sq (asg 3 (bin (iI aA) (vb 2) (kd (.int 4))))
 (sq (iff (tst (bin feq (vb 3) (kd (.int 0))))
 (ret (eLs (av (aK (aC (bin bA (kd (.int 1)) (bin (iI aA) (bin (iI bT) (vb 2) (kd (.int 4))) (kd (.int 4)))) aN)) 1 (tgN 4) tT (kd (.int 1)))))
 nxt)
 (sq (iff (tst (bin feq (vb 3) (kd (.int 1))))
 (ret (bin fix (eL (aC (eL (aC (kd (.int 1)) (aC (kd (.int 2)) aN))) (aC (eL (aC (kd (.int 2)) (aC (kd (.int 1)) aN))) (aC (eL (aC (kd (.int 2)) (aC (kd (.int 2)) aN))) (aC (eL (aC (kd (.int 0)) (aC (kd (.int 2)) aN))) (aC (eL (aC (kd (.int 2)) aN)) (aC (eL (aC (kd (.int 1)) aN)) aN))))))) (bin (iI aA) (bin (iI bT) (vb 2) (kd (.int 4))) (kd (.int 6)))))
 nxt)
 (sq (iff (tst (bin feq (vb 3) (kd (.int 2))))
 (ret (eL (aC (kd (.int 3)) aN)))
 nxt)
 (ret (bin fix (eL (aC (eL (aC (kd (.int 1)) (aC (kd (.int 1)) (aC (kd (.int 2)) aN)))) (aC (eL (aC (kd (.int 0)) (aC (kd (.int 1)) (aC (kd (.int 2)) aN)))) (aC (eL (aC (kd (.int 1)) (aC (kd (.int 2)) (aC (kd (.int 2)) aN)))) (aC (eL (aC (kd (.int 2)) (aC (kd (.int 1)) (aC (kd (.int 0)) aN)))) (aC (eL (aC (kd (.int 2)) (aC (kd (.int 2)) aN))) aN)))))) (bin (iI aA) (bin (iI bT) (vb 2) (kd (.int 4))) (kd (.int 5))))))))))
def cU (ds:List D):R D:=fin (iE (st0 rN ds))
abbrev tV:List Str:=["step"]
def jl:Rho->R Out:=(ret (bin (iI aA) (bin bA (bin (iI dP) (vb 0) (kd (.int 48271))) (kd (.int 11))) (kd (.int 2147483647))))
def ay (ds:List D):R D:=fin (jl (st0 tV ds))
abbrev jB:List Str:=["known","met","arrow","at","other","first","second","made"]
def gW:Rho->R Out:=(sq (we 1)
 (sq (jP 0 2 1)
 (sq (asg 3 (kd (.int 0)))
 (sq (whD (tst (bin (iI flt) (vb 3) (una aj (vb 0))))
 (sq (aE (fIt (eLs (fIt (vb 0)))) (tgN 4)
 (aE (fIt (eL (aC (eT (aC (bin fix (vb 0) (vb 3)) (aC (vr 4) aN))) (aC (eT (aC (vr 4) (aC (bin fix (vb 0) (vb 3)) aN))) aN)))) (tg2 5 6)
 (iff (tst (bin feq (bin fix (vb 5) (kd (.int 1))) (bin fix (vb 6) (kd (.int 0)))))
 (sq (asg 7 (eT (aC (bin fix (vb 5) (kd (.int 0))) (aC (bin fix (vb 6) (kd (.int 1))) (aC (una gH (eLs (av (fIt (bin fix (vb 5) (kd (.int 2)))) 1 (tgN 8) tT (bin fix (bin fix (vb 6) (kd (.int 2))) (vb 8))))) aN)))))
 (iff (wd 1 (vr 7))
 (sq (mj 1 (vr 7) (kd (.bl true)))
 (app 0 (vr 7)))
 nxt))
 nxt)))
 (asg 3 (bin bA (vb 3) (kd (.int 1))))) 30)
 (fz 0 (ret (vr 0)))))))
def bX (xs:List D):R D:=fin (gW (st1 jB xs))
abbrev pZ:List Str:=["script","k","sizes","known","step","turn","one","other","row","x","mixed","arrow"]
def gX:Rho->R Out:=(sq (own 3 (av (aK (aC (una aj (vb 2)) aN)) 1 (tgN 12) tT (eT (aC (vr 12) (aC (vr 12) (aC (fY (aC (bin fix (vb 2) (vb 12)) aN)) aN))))))
 (sq (asg 4 (cal 1 ay (aC (bin bA (bin (iI aA) (bin (iI dP) (cal 2 ag (aC (vr 0) (aC (vr 1) aN))) (kd (.int 1000003))) (kd (.int 2147483647))) (kd (.int 17))) aN)))
 (sq (aE (aK (aC (bin (iI aA) (cal 2 ag (aC (vr 0) (aC (bin bA (vb 1) (kd (.int 1))) aN))) (kd (.int 5))) aN)) (tgN 5)
 (sq (asg 4 (cal 1 ay (aC (vr 4) aN)))
 (sq (asg 6 (bin (iI aA) (bin (iI bT) (vb 4) (kd (.int 64))) (una aj (vb 2))))
 (sq (asg 4 (cal 1 ay (aC (vr 4) aN)))
 (sq (asg 7 (bin (iI aA) (bin (iI bT) (vb 4) (kd (.int 64))) (una aj (vb 2))))
 (sq (own 8 (iQ aN))
 (sq (aE (aK (aC (bin fix (vb 2) (vb 6)) aN)) (tgN 9)
 (sq (asg 4 (cal 1 ay (aC (vr 4) aN)))
 (iff (tst (bin feq (bin fix (vb 2) (vb 6)) (kd (.int 3))))
 (ins 8 (bin (iI aA) (bin (iI bT) (vb 4) (kd (.int 64))) (bin bA (vb 9) (kd (.int 1)))) (vr 9))
 (app 8 (bin (iI aA) (bin (iI bT) (vb 4) (kd (.int 64))) (y_ (aC (kd (.int 1)) (aC (bin fix (vb 2) (vb 7)) aN))))))))
 (iff (orB (tst (bin feq (bin fix (vb 2) (vb 6)) (kd (.int 0)))) (tst (bin (iI fgt) (bin fix (vb 2) (vb 7)) (kd (.int 0)))))
 (iff (tst (bin (jQ true) (eT (aC (vr 6) (aC (vr 7) (aC (una gH (vb 8)) aN)))) (vb 3)))
 (app 3 (eT (aC (vr 6) (aC (vr 7) (aC (una gH (vb 8)) aN)))))
 nxt)
 nxt))))))))
 (sq (x_ 3 bX)
 (sq (own 10 (iQ aN))
 (fz 3 (sq (aE (fIt (vr 3)) (tgN 11)
 (sq (asg 4 (cal 1 ay (aC (vr 4) aN)))
 (ins 10 (bin (iI aA) (bin (iI bT) (vb 4) (kd (.int 64))) (bin bA (una aj (vb 10)) (kd (.int 1)))) (vr 11))))
 (fz 10 (ret (vr 10))))))))))
def bW (ds:List D):R D:=fin (gX (st0 pZ ds))
abbrev rS:List Str:=["script","k","sizes","known","place","at","table","first","row","second","made","rests"]
def iG:Rho->R Out:=(sq (asg 2 (cal 2 cU (aC (vr 0) (aC (vr 1) aN))))
 (sq (asg 3 (cal 3 bW (aC (vr 0) (aC (bin bA (vb 1) (kd (.int 1))) (aC (vr 2) aN)))))
 (sq (we 4)
 (sq (aE (aK (aC (una aj (vb 3)) aN)) (tgN 5)
 (mj 4 (bin fix (vb 3) (vb 5)) (vr 5)))
 (sq (own 6 (iQ aN))
 (sq (aE (fIt (vr 3)) (tgN 7)
 (sq (own 8 (iQ aN))
 (sq (aE (fIt (vr 3)) (tgN 9)
 (sq (asg 10 (una cS (kd (.int 1))))
 (sq (iff (tst (bin feq (bin fix (vb 7) (kd (.int 1))) (bin fix (vb 9) (kd (.int 0)))))
 (asg 10 (mZ 4 (eT (aC (bin fix (vb 7) (kd (.int 0))) (aC (bin fix (vb 9) (kd (.int 1))) (aC (una gH (eLs (av (fIt (bin fix (vb 7) (kd (.int 2)))) 1 (tgN 12) tT (bin fix (bin fix (vb 9) (kd (.int 2))) (vb 12))))) aN))))))
 nxt)
 (app 8 (vr 10)))))
 (fz 8 (app 6 (vr 8))))))
 (sq (asg 11 (eLs (av (aK (aC (una aj (vb 2)) aN)) 1 (tgN 12) tT (mZ 4 (eT (aC (vr 12) (aC (vr 12) (aC (fY (aC (bin fix (vb 2) (vb 12)) aN)) aN))))))))
 (fz 6 (ret (eT (aC (eLs (av (fIt (vr 3)) 1 (tgN 12) tT (eT (aC (bin fix (vb 12) (kd (.int 0))) (aC (bin fix (vb 12) (kd (.int 1))) aN))))) (aC (vr 11) (aC (vr 6) (aC (vr 3) (aC (vr 2) aN)))))))))))))))
def cW (ds:List D):R D:=fin (iG (st0 rS ds))
abbrev tU:List Str:=["script","k","parts","boxes","many","way","box","table","more"]
def jk:Rho->R Out:=(sq (asg 3 (una aj (bin fix (vb 2) (kd (.int 1)))))
 (sq (asg 4 (una aj (bin fix (vb 2) (kd (.int 0)))))
 (sq (asg 5 (bin (iI aA) (cal 2 ag (aC (vr 0) (aC (vr 1) aN))) (kd (.int 4))))
 (sq (iff (tst (bin feq (vb 5) (kd (.int 0))))
 (ret (eT (aC (vr 2) (aC (eLs (jS (aC (vr 3) aN))) (aC (eLs (jS (aC (vr 4) aN))) aN)))))
 nxt)
 (sq (asg 6 (bin (iI aA) (cal 2 ag (aC (vr 0) (aC (bin bA (vb 1) (kd (.int 1))) aN))) (vb 3)))
 (sq (iff (tst (bin feq (vb 5) (kd (.int 1))))
 (ret (eT (aC (vr 2) (aC (eLs (av (fIt (bin fix (vb 2) (kd (.int 1)))) 1 (tgN 9) tT (vr 6))) (aC (eLs (av (fIt (bin fix (vb 2) (kd (.int 0)))) 1 (tgN 9) tT (bin fix (bin fix (vb 2) (kd (.int 1))) (vb 6)))) aN)))))
 nxt)
 (sq (own 7 (av (fIt (bin fix (vb 2) (kd (.int 2)))) 1 (tgN 9) tT (bin bA (vb 9) (eL (aC (una cS (kd (.int 1))) aN)))))
 (sq (app 7 (bin bA (eLs (av (aK (aC (vr 4) aN)) 1 (tgN 9) tT (una cS (kd (.int 1))))) (eL (aC (vr 4) aN))))
 (fz 7 (sq (asg 8 (eT (aC (bin bA (bin fix (vb 2) (kd (.int 0))) (eL (aC (eT (aC (vr 3) (aC (vr 3) aN))) aN))) (aC (bin bA (bin fix (vb 2) (kd (.int 1))) (eL (aC (vr 4) aN))) (aC (vr 7) aN)))))
 (sq (iff (tst (bin feq (vb 5) (kd (.int 2))))
 (ret (eT (aC (vr 8) (aC (eLs (jS (aC (vr 3) aN))) (aC (eLs (jS (aC (vr 4) aN))) aN)))))
 nxt)
 (ret (eT (aC (vr 8) (aC (eLs (av (fIt (bin fix (vb 2) (kd (.int 1)))) 1 (tgN 9) tT (vr 3))) (aC (eLs (av (fIt (bin fix (vb 2) (kd (.int 0)))) 1 (tgN 9) tT (vr 4))) aN))))))))))))))))
def eU (ds:List D):R D:=fin (jk (st0 tU ds))
abbrev m8:List Str:=["parts","box","other"]
def gf:Rho->R Out:=(ret (eLs (av (aK (aC (una aj (bin fix (vb 0) (kd (.int 0)))) aN)) 1 (tgN 3) (tst (bin feq (bin fix (bin fix (vb 0) (kd (.int 0))) (vb 3)) (eT (aC (vr 1) (aC (vr 2) aN))))) (vr 3))))
def bP (ds:List D):R D:=fin (gf (st0 m8 ds))
abbrev wv:List Str:=["parts","box","things","maps","arrow","one","other"]
def kj:Rho->R Out:=(sq (asg 2 (eLs (av (aK (aC (una aj (bin fix (vb 0) (kd (.int 1)))) aN)) 1 (tgN 7) tT (cal 3 bP (aC (vr 0) (aC (vr 1) (aC (vr 7) aN)))))))
 (sq (own 3 (iQ aN))
 (sq (aE (aK (aC (una aj (bin fix (vb 0) (kd (.int 0)))) aN)) (tgN 4)
 (sq (asT (tg2 5 6) (bin fix (bin fix (vb 0) (kd (.int 0))) (vb 4)))
 (app 3 (eLs (av (fIt (bin fix (vb 2) (vb 5))) 1 (tgN 7) tT (sX (bin fix (vb 2) (vb 6)) (bin fix (bin fix (bin fix (vb 0) (kd (.int 2))) (vb 7)) (vb 4))))))))
 (fz 3 (ret (eT (aC (eLs (av (fIt (vr 2)) 1 (tgN 7) tT (una aj (vb 7)))) (aC (vr 3) aN))))))))
def di (ds:List D):R D:=fin (kj (st0 wv ds))
abbrev t7:List Str:=["number","count"]
def js:Rho->R Out:=(ret (chn (λi j=>decide (i<=j)) (λi j=>decide (i<j)) (kd (.int 0)) (vb 0) (vb 1)))
def ba (ds:List D):R D:=fin (js (st0 t7 ds))
abbrev rV:List Str:=["numbers","count"]
def fg:Rho->R Out:=(ret (una o_ (eLs (av (fIt (vr 0)) 1 (tgN 2) tT (cal 2 ba (aC (vr 2) (aC (vr 1) aN)))))))
def aW (ds:List D):R D:=fin (fg (st0 rV ds))
abbrev iu:List Str:=["hall","counts","maps","pair","things"]
def dc:Rho->R Out:=(sq (iff (orB (tst (bin fne (una aj (vb 1)) (una aj (una (ci 1) (vb 0))))) (tst (bin fne (una aj (vb 2)) (una aj (una (ci 0) (vb 0))))))
 (ret (kd (.bl false)))
 nxt)
 (sq (iff (bz (tst (cal 2 aW (aC (vr 1) (aC (bin bA (kd (.int 40)) (kd (.int 1))) aN)))))
 (ret (kd (.bl false)))
 nxt)
 (sq (aE (jb (aC (una (ci 0) (vb 0)) (aC (vr 2) aN))) (tg2 3 4)
 (iff (orB (tst (bin fne (una aj (vb 4)) (bin fix (vb 1) (bin fix (vb 3) (kd (.int 0)))))) (bz (tst (cal 2 aW (aC (vr 4) (aC (bin fix (vb 1) (bin fix (vb 3) (kd (.int 1)))) aN))))))
 (ret (kd (.bl false)))
 nxt))
 (ret (kd (.bl true))))))
def bF (ds:List D):R D:=fin (dc (st0 iu ds))
abbrev gd:List Str:=["hall","counts","maps"]
def cr:Rho->R Out:=(ret (una o_ (eLs (av (c9 (aC (una (ci 1) (vb 0)) aN)) 2 (tg2 3 4) tT (bin feq (bin fix (vb 2) (vb 4)) (eLs (jS (aC (bin fix (vb 1) (vb 3)) aN))))))))
def bh (ds:List D):R D:=fin (cr (st0 gd ds))
abbrev t_:List Str:=["first","second"]
def ju:Rho->R Out:=(ret (eLs (av (fIt (vr 0)) 1 (tgN 2) tT (bin fix (vb 1) (vb 2)))))
def cI (ds:List D):R D:=fin (ju (st0 t_ ds))
abbrev f9:List Str:=["hall","maps","one","row","other","made"]
def ck:Rho->R Out:=(sq (aE (c9 (aC (una (ci 2) (vb 0)) aN)) (tg2 2 3)
 (aE (c9 (aC (vr 3) aN)) (tg2 4 5)
 (iff (jX (tst (bin fne (vb 5) (una cS (kd (.int 1))))) (tst (bin fne (bin fix (vb 1) (vb 5)) (cal 2 cI (aC (bin fix (vb 1) (vb 2)) (aC (bin fix (vb 1) (vb 4)) aN))))))
 (ret (kd (.bl false)))
 nxt)))
 (ret (kd (.bl true))))
def bc (ds:List D):R D:=fin (ck (st0 f9 ds))
abbrev p8:List Str:=["hall","counts","maps"]
def gZ:Rho->R Out:=(ret (rE (cal 3 bF (aC (vr 0) (aC (vr 1) (aC (vr 2) aN)))) (rE (cal 3 bh (aC (vr 0) (aC (vr 1) (aC (vr 2) aN)))) (cal 2 bc (aC (vr 0) (aC (vr 2) aN))))))
def bq (ds:List D):R D:=fin (gZ (st0 p8 ds))
abbrev kK:List Str:=["hall","reading"]
def cZ:Rho->R Out:=(iff (orB (tst (bin fne (una aj (vb 1)) (kd (.int 2)))) (bz (tst (cal 3 bq (aC (vr 0) (aC (bin fix (vb 1) (kd (.int 0))) (aC (bin fix (vb 1) (kd (.int 1))) aN)))))))
 (rse 4 sK)
 nxt)
def aO (ds:List D):R D:=fin (cZ (st0 kK ds))
abbrev f_:List Str:=["hall","other","boxes","arrows"]
def cq:Rho->R Out:=(ret (una o_ (eLs (av (jb (aC (una (ci 1) (vb 0)) (aC (vr 2) aN))) 2 (tg2 4 5) tT (bin feq (bin fix (vb 3) (vb 4)) (bin fix (una (ci 1) (vb 1)) (vb 5)))))))
def bf (ds:List D):R D:=fin (cq (st0 f_ ds))
abbrev f8:List Str:=["hall","other","arrows","one","row","two","made"]
def cj:Rho->R Out:=(sq (aE (c9 (aC (una (ci 2) (vb 0)) aN)) (tg2 3 4)
 (aE (c9 (aC (vr 4) aN)) (tg2 5 6)
 (iff (jX (tst (bin fne (vb 6) (una cS (kd (.int 1))))) (tst (bin fne (bin fix (vb 2) (vb 6)) (bin fix (bin fix (una (ci 2) (vb 1)) (bin fix (vb 2) (vb 3))) (bin fix (vb 2) (vb 5))))))
 (ret (kd (.bl false)))
 nxt)))
 (ret (kd (.bl true))))
def bb (ds:List D):R D:=fin (cj (st0 f8 ds))
abbrev ir:List Str:=["hall","other","boxes","arrows"]
def da:Rho->R Out:=(sq (iff (orB (tst (bin fne (una aj (vb 2)) (una aj (una (ci 1) (vb 0))))) (tst (bin fne (una aj (vb 3)) (una aj (una (ci 0) (vb 0))))))
 (ret (kd (.bl false)))
 nxt)
 (ret (rE (cal 2 aW (aC (vr 2) (aC (una aj (una (ci 1) (vb 1))) aN))) (cal 2 aW (aC (vr 3) (aC (una aj (una (ci 0) (vb 1))) aN))))))
def aU (ds:List D):R D:=fin (da (st0 ir ds))
abbrev p5:List Str:=["hall","other","boxes","arrows","pair","arrow"]
def gY:Rho->R Out:=(sq (aE (jb (aC (una (ci 0) (vb 0)) (aC (vr 3) aN))) (tg2 4 5)
 (iff (tst (bin fne (bin fix (una (ci 0) (vb 1)) (vb 5)) (eT (aC (bin fix (vb 2) (bin fix (vb 4) (kd (.int 0)))) (aC (bin fix (vb 2) (bin fix (vb 4) (kd (.int 1)))) aN)))))
 (ret (kd (.bl false)))
 nxt))
 (ret (kd (.bl true))))
def dB (ds:List D):R D:=fin (gY (st0 p5 ds))
abbrev p7:List Str:=["hall","other","boxes","arrows"]
def eD:Rho->R Out:=(sq (iff (orB (bz (tst (cal 4 aU (aC (vr 0) (aC (vr 1) (aC (vr 2) (aC (vr 3) aN))))))) (bz (tst (cal 4 dB (aC (vr 0) (aC (vr 1) (aC (vr 2) (aC (vr 3) aN))))))))
 (ret (kd (.bl false)))
 nxt)
 (ret (rE (cal 4 bf (aC (vr 0) (aC (vr 1) (aC (vr 2) (aC (vr 3) aN))))) (cal 3 bb (aC (vr 0) (aC (vr 1) (aC (vr 3) aN)))))))
def aL (ds:List D):R D:=fin (eD (st0 p7 ds))
abbrev mE:List Str:=["hall","other","boxes","arrows","reading","counts","maps"]
def fG:Rho->R D:=(sqK (iff (bz (tst (cal 4 aL (aC (vr 0) (aC (vr 1) (aC (vr 2) (aC (vr 3) aN)))))))
 bad
 nxt)
 (sqK (drp (cal 2 aO (aC (vr 1) (aC (vr 4) aN))))
 (sqK (trS 5 (.l .s) (eLs (av (fIt (vr 2)) 1 (tgN 7) tT (bin fix (bin fix (vb 4) (kd (.int 0))) (vb 7)))))
 (sqK (trS 6 (.l (.l .s)) (eLs (av (fIt (vr 3)) 1 (tgN 7) tT (eLs (fIt (bin fix (bin fix (vb 4) (kd (.int 1))) (vb 7)))))))
 (rtP 5 6 (.l .s) (.l (.l .s)))))))
def bU (ds:List D):R D:=fG (st0 mE ds)
abbrev rR:List Str:=["parts","counts","maps","arrow","one","other","rest","made","row"]
def iF:Rho->R Out:=(sq (iff (orB (tst (bin fne (una aj (vb 1)) (una aj (bin fix (vb 0) (kd (.int 1)))))) (tst (bin fne (una aj (vb 2)) (una aj (bin fix (vb 0) (kd (.int 0)))))))
 (ret (kd (.bl false)))
 nxt)
 (sq (iff (tst (bin (iI fgt) (una aj (eLs (av (fIt (vr 1)) 1 (tgN 9) (bz (tst (chn (λi j=>decide (i<=j)) (λi j=>decide (i<=j)) (kd (.int 0)) (vb 9) (kd (.int 40))))) (vr 9)))) (kd (.int 0))))
 (ret (kd (.bl false)))
 nxt)
 (sq (aE (aK (aC (una aj (vb 2)) aN)) (tgN 3)
 (sq (asT (tg2 4 5) (bin fix (bin fix (vb 0) (kd (.int 0))) (vb 3)))
 (sq (iff (tst (bin fne (una aj (bin fix (vb 2) (vb 3))) (bin fix (vb 1) (vb 4))))
 (ret (kd (.bl false)))
 nxt)
 (iff (tst (bin (iI fgt) (una aj (eLs (av (fIt (bin fix (vb 2) (vb 3))) 1 (tgN 9) (bz (tst (chn (λi j=>decide (i<=j)) (λi j=>decide (i<j)) (kd (.int 0)) (vb 9) (bin fix (vb 1) (vb 5))))) (vr 9)))) (kd (.int 0))))
 (ret (kd (.bl false)))
 nxt))))
 (sq (aE (fIt (bin fix (vb 0) (kd (.int 1)))) (tgN 6)
 (iff (tst (bin fne (bin fix (vb 2) (vb 6)) (eLs (jS (aC (una aj (bin fix (vb 2) (vb 6))) aN)))))
 (ret (kd (.bl false)))
 nxt))
 (sq (aE (aK (aC (una aj (vb 2)) aN)) (tgN 4)
 (aE (aK (aC (una aj (vb 2)) aN)) (tgN 5)
 (sq (asg 7 (bin fix (bin fix (bin fix (vb 0) (kd (.int 2))) (vb 4)) (vb 5)))
 (iff (tst (bin (iI fge) (vb 7) (kd (.int 0))))
 (sq (asg 8 (eLs (av (fIt (bin fix (vb 2) (vb 4))) 1 (tgN 9) tT (bin fix (bin fix (vb 2) (vb 5)) (vb 9)))))
 (iff (tst (bin fne (vb 8) (bin fix (vb 2) (vb 7))))
 (ret (kd (.bl false)))
 nxt))
 nxt))))
 (ret (kd (.bl true))))))))
def cV (ds:List D):R D:=fin (iF (st0 rR ds))
abbrev tZ:List Str:=["rows"]
def jq:Rho->R D:=(eLs (av (fIt (vr 0)) 1 (tgN 1) tT (eLs (fIt (vb 1)))))
def cH (ds:List D):R D:=jq (st0 tZ ds)
abbrev jA:List Str:=["script","more","reading","counts","maps","number","some","at"]
def dN:Rho->R Out:=(sq (oK 3 4 (.l .s) (.l (.l .s)) (eLs (fIt (bin fix (vb 2) (kd (.int 0))))) (cal 1 cH (aC (bin fix (vb 2) (kd (.int 1))) aN)))
 (sq (asg 5 (cal 2 ag (aC (vr 0) (aC (kd (.int 10)) aN))))
 (sq (asg 6 (eLs (av (aK (aC (una aj (va 4)) aN)) 1 (tgN 8) (tst (bin (iI fgt) (una aj (bin fix (va 4) (vb 8))) (kd (.int 0)))) (vr 8))))
 (sq (asg 7 (bin fix (vb 6) (bin (iI aA) (cal 2 ag (aC (vr 0) (aC (kd (.int 9)) aN))) (una aj (vb 6)))))
 (sq (asO (stP 4 .s (pN 4 (pN0 4) (vr 7)) (bin (iI aA) (vb 5) (una aj (bin fix (va 4) (vb 7)))) (bin (iI mU) (bin (iI aA) (bin (iI bT) (vb 5) (kd (.int 64))) (kd (.int 6))) (kd (.int 1)))))
 (sq (iff (tst (flF (cal 3 cV (aC (vb 1) (aC (va 3) (aC (va 4) aN))))))
 (fz 4 (ret (eT (aC (eLs (fSl (vb 3) oN (oS (una cS (kd (.int 1)))))) (aC (vr 4) aN)))))
 nxt)
 (fz 4 (fz 3 (ret (eT (aC (vr 3) (aC (vr 4) aN))))))))))))
def bu (ds:List D):R D:=fin (dN (st0 jA ds))
abbrev rQ:List Str:=["parts","more","boxes","arrows","arrow","one","other","box","made","first","last"]
def ff:Rho->R Out:=(sq (iff (orB (tst (bin fne (una aj (vb 2)) (una aj (bin fix (vb 0) (kd (.int 1)))))) (tst (bin fne (una aj (vb 3)) (una aj (bin fix (vb 0) (kd (.int 0)))))))
 (ret (kd (.bl false)))
 nxt)
 (sq (iff (tst (bin (iI fgt) (una aj (eLs (av (fIt (vr 2)) 1 (tgN 11) (bz (tst (chn (λi j=>decide (i<=j)) (λi j=>decide (i<j)) (kd (.int 0)) (vb 11) (una aj (bin fix (vb 1) (kd (.int 1))))))) (vr 11)))) (kd (.int 0))))
 (ret (kd (.bl false)))
 nxt)
 (sq (iff (tst (bin (iI fgt) (una aj (eLs (av (fIt (vr 3)) 1 (tgN 11) (bz (tst (chn (λi j=>decide (i<=j)) (λi j=>decide (i<j)) (kd (.int 0)) (vb 11) (una aj (bin fix (vb 1) (kd (.int 0))))))) (vr 11)))) (kd (.int 0))))
 (ret (kd (.bl false)))
 nxt)
 (sq (aE (aK (aC (una aj (vb 3)) aN)) (tgN 4)
 (sq (asT (tg2 5 6) (bin fix (bin fix (vb 0) (kd (.int 0))) (vb 4)))
 (iff (tst (bin fne (bin fix (bin fix (vb 1) (kd (.int 0))) (bin fix (vb 3) (vb 4))) (eT (aC (bin fix (vb 2) (vb 5)) (aC (bin fix (vb 2) (vb 6)) aN)))))
 (ret (kd (.bl false)))
 nxt)))
 (sq (aE (aK (aC (una aj (vb 2)) aN)) (tgN 7)
 (iff (tst (bin fne (bin fix (vb 3) (bin fix (bin fix (vb 0) (kd (.int 1))) (vb 7))) (bin fix (bin fix (vb 1) (kd (.int 1))) (bin fix (vb 2) (vb 7)))))
 (ret (kd (.bl false)))
 nxt))
 (sq (aE (aK (aC (una aj (vb 3)) aN)) (tgN 5)
 (aE (aK (aC (una aj (vb 3)) aN)) (tgN 6)
 (sq (asg 8 (bin fix (bin fix (bin fix (vb 0) (kd (.int 2))) (vb 5)) (vb 6)))
 (sq (par 9 10 (aC (bin fix (vb 3) (vb 5)) (aC (bin fix (vb 3) (vb 6)) aN)))
 (iff (jX (tst (bin (iI fge) (vb 8) (kd (.int 0)))) (tst (bin fne (bin fix (bin fix (bin fix (vb 1) (kd (.int 2))) (vb 9)) (vb 10)) (bin fix (vb 3) (vb 8)))))
 (ret (kd (.bl false)))
 nxt)))))
 (ret (kd (.bl true)))))))))
def bD (ds:List D):R D:=fin (ff (st0 rQ ds))
abbrev jz:List Str:=["script","parts","more","boxes","arrows","one","other","number"]
def dM:Rho->R Out:=(sq (oK 5 6 (.l .s) (.l .s) (eLs (fIt (vb 3))) (eLs (fIt (vb 4))))
 (sq (asg 7 (cal 2 ag (aC (vr 0) (aC (kd (.int 12)) aN))))
 (sq (iff (tst (bin feq (bin (iI aA) (vb 7) (kd (.int 2))) (kd (.int 0))))
 (asO (stP 5 .s (pN0 5) (bin (iI aA) (cal 2 ag (aC (vr 0) (aC (kd (.int 11)) aN))) (una aj (vb 5))) (bin (iI mU) (bin (iI aA) (bin (iI bT) (vb 7) (kd (.int 2))) (kd (.int 8))) (kd (.int 1)))))
 (asO (stP 6 .s (pN0 6) (bin (iI aA) (cal 2 ag (aC (vr 0) (aC (kd (.int 11)) aN))) (una aj (vb 6))) (bin (iI mU) (bin (iI aA) (bin (iI bT) (vb 7) (kd (.int 2))) (kd (.int 26))) (kd (.int 1))))))
 (sq (iff (tst (flF (cal 4 bD (aC (vb 1) (aC (vb 2) (aC (va 5) (aC (va 6) aN)))))))
 (fz 6 (ret (eT (aC (eLs (fSl (vb 5) oN (oS (una cS (kd (.int 1)))))) (aC (vr 6) aN)))))
 nxt)
 (fz 6 (fz 5 (ret (eT (aC (vr 5) (aC (vr 6) aN))))))))))
def bt (ds:List D):R D:=fin (dM (st0 jz ds))
abbrev mG:List Str:=["ends","rests"]
def fJ:Rho->R Out:=(sq (iff (bz (tst (chn (λi j=>decide (i<=j)) (λi j=>decide (i<=j)) (kd (.int 1)) (una aj (vb 1)) (kd (.int 6)))))
 bad
 nxt)
 (iff (bz (tst (chn (λi j=>decide (i<=j)) (λi j=>decide (i<=j)) (kd (.int 1)) (una aj (vb 0)) (kd (.int 40)))))
 bad
 nxt))
def cz (ds:List D):R D:=fin (fJ (st0 mG ds))
abbrev p9:List Str:=["ends","boxes","arrow","pair"]
def g9:Rho->R Out:=(aE (c9 (aC (vr 0) aN)) (tg2 2 3)
 (iff (orB (tst (bin fne (una aj (vb 3)) (kd (.int 2)))) (orB (bz (tst (cal 2 ba (aC (bin fix (vb 3) (kd (.int 0))) (aC (vr 1) aN))))) (bz (tst (cal 2 ba (aC (bin fix (vb 3) (kd (.int 1))) (aC (vr 1) aN)))))))
 bad
 nxt))
def dD (ds:List D):R D:=fin (g9 (st0 p9 ds))
abbrev m_:List Str:=["ends","rests","box","rest"]
def gh:Rho->R Out:=(aE (c9 (aC (vr 1) aN)) (tg2 2 3)
 (iff (orB (bz (tst (cal 2 ba (aC (vr 3) (aC (una aj (vb 0)) aN))))) (tst (bin fne (bin fix (vb 0) (vb 3)) (eT (aC (vr 2) (aC (vr 2) aN))))))
 bad
 nxt))
def cY (ds:List D):R D:=fin (gh (st0 m_ ds))
abbrev jC:List Str:=["table","arrows","one","row"]
def g8:Rho->R Out:=(sq (iff (tst (bin fne (una aj (vb 0)) (vb 1)))
 bad
 nxt)
 (aE (c9 (aC (vr 0) aN)) (tg2 2 3)
 (iff (tst (bin fne (una aj (vb 3)) (vb 1)))
 bad
 nxt)))
def dC (ds:List D):R D:=fin (g8 (st0 jC ds))
abbrev ng:List Str:=["ends","one","other","made"]
def gi:Rho->R Out:=(iff (tst (bin fne (bin fix (bin fix (vb 0) (vb 1)) (kd (.int 1))) (bin fix (bin fix (vb 0) (vb 2)) (kd (.int 0)))))
 (iff (tst (bin fne (vb 3) (una cS (kd (.int 1)))))
 bad
 nxt)
 (iff (orB (bz (tst (cal 2 ba (aC (vr 3) (aC (una aj (vb 0)) aN))))) (tst (bin fne (bin fix (vb 0) (vb 3)) (eT (aC (bin fix (bin fix (vb 0) (vb 1)) (kd (.int 0))) (aC (bin fix (bin fix (vb 0) (vb 2)) (kd (.int 1))) aN))))))
 bad
 nxt))
def b5 (ds:List D):R D:=fin (gi (st0 ng ds))
abbrev m9:List Str:=["ends","table","one","row","other","made"]
def gg:Rho->R Out:=(aE (c9 (aC (vr 1) aN)) (tg2 2 3)
 (aE (c9 (aC (vr 3) aN)) (tg2 4 5)
 (drp (cal 4 b5 (aC (vr 0) (aC (vr 2) (aC (vr 4) (aC (vr 5) aN))))))))
def cX (ds:List D):R D:=fin (gg (st0 m9 ds))
abbrev hU:List Str:=["ends","rests","table","arrow","pair"]
def c7:Rho->R Out:=(aE (c9 (aC (vr 0) aN)) (tg2 3 4)
 (iff (orB (tst (bin fne (bin fix (bin fix (vb 2) (bin fix (vb 1) (bin fix (vb 4) (kd (.int 0))))) (vb 3)) (vb 3))) (tst (bin fne (bin fix (bin fix (vb 2) (vb 3)) (bin fix (vb 1) (bin fix (vb 4) (kd (.int 1))))) (vb 3))))
 bad
 nxt))
def bw (ds:List D):R D:=fin (c7 (st0 hU ds))
abbrev hJ:List Str:=["table","one","other","made","third","later"]
def fI:Rho->R Out:=(aE (c9 (aC (bin fix (vb 0) (vb 2)) aN)) (tg2 4 5)
 (iff (jX (tst (bin fne (vb 5) (una cS (kd (.int 1))))) (tst (bin fne (bin fix (bin fix (vb 0) (vb 3)) (vb 4)) (bin fix (bin fix (vb 0) (vb 1)) (vb 5)))))
 bad
 nxt))
def bV (ds:List D):R D:=fin (fI (st0 hJ ds))
abbrev mF:List Str:=["table","one","row","other","made"]
def fH:Rho->R Out:=(aE (c9 (aC (vr 0) aN)) (tg2 1 2)
 (aE (c9 (aC (vr 2) aN)) (tg2 3 4)
 (iff (tst (bin fne (vb 4) (una cS (kd (.int 1)))))
 (drp (cal 4 bV (aC (vr 0) (aC (vr 1) (aC (vr 3) (aC (vr 4) aN))))))
 nxt)))
def cy (ds:List D):R D:=fin (fH (st0 mF ds))
def jv:Rho->R D:=wf [(cal 2 cz (aC (vr 1) (aC (vr 2) aN))),(cal 2 dD (aC (vr 1) (aC (una aj (vb 2)) aN))),(cal 2 cY (aC (vr 1) (aC (vr 2) aN))),(cal 2 dC (aC (vr 3) (aC (una aj (vb 1)) aN))),(cal 2 cX (aC (vr 1) (aC (vr 3) aN))),(cal 3 bw (aC (vr 1) (aC (vr 2) (aC (vr 3) aN)))),(cal 1 cy (aC (vr 3) aN))] (fIt (vb 1)) (fIt (vb 2)) (av (fIt (vr 3)) 1 (tgN 4) tT (eLs (fIt (vb 4))))
abbrev tY:List Str:=["parts"]
def jp:Rho->R Out:=(ret (mkH jv (aC (eLs (fIt (bin fix (vb 0) (kd (.int 0))))) (aC (eLs (fIt (bin fix (vb 0) (kd (.int 1))))) (aC (eLs (av (fIt (bin fix (vb 0) (kd (.int 2)))) 1 (tgN 1) tT (eLs (fIt (vb 1))))) aN)))))
def dH (ds:List D):R D:=fin (jp (st0 tY ds))
abbrev wx:List Str:=["boxes","arrows","reading"]
def km:Rho->R Out:=(ret (eT (aC (eLs (av (fIt (vr 0)) 1 (tgN 3) tT (bin fix (bin fix (vb 2) (kd (.int 0))) (vb 3)))) (aC (eLs (av (fIt (vr 1)) 1 (tgN 3) tT (eLs (fIt (bin fix (bin fix (vb 2) (kd (.int 1))) (vb 3)))))) aN))))
def d_ (ds:List D):R D:=fin (km (st0 wx ds))
abbrev tX:List Str:=["found","due","k"]
def jo:Rho->R Out:=(sq (iff (orB (bz (tst (una (iP "list") (vb 0)))) (tst (bin fne (una aj (vb 0)) (una aj (vb 1)))))
 (ret (kd (.bl false)))
 nxt)
 (sq (aE (aK (aC (una aj (vb 1)) aN)) (tgN 2)
 (iff (orB (bz (tst (una (iP "int") (bin fix (vb 0) (vb 2))))) (orB (tst (una (iP "bool") (bin fix (vb 0) (vb 2)))) (tst (bin fne (bin fix (vb 0) (vb 2)) (bin fix (vb 1) (vb 2))))))
 (ret (kd (.bl false)))
 nxt))
 (ret (kd (.bl true)))))
def cG (ds:List D):R D:=fin (jo (st0 tX ds))
abbrev j0:List Str:=["found","due","one","other"]
def eC:Rho->R Out:=(sq (iff (orB (bz (tst (una (iP "list") (vb 0)))) (tst (bin fne (una aj (vb 0)) (una aj (vb 1)))))
 (ret (kd (.bl false)))
 nxt)
 (sq (aE (jb (aC (vr 0) (aC (vr 1) aN))) (tg2 2 3)
 (iff (bz (tst (cal 2 cG (aC (vr 2) (aC (vr 3) aN)))))
 (ret (kd (.bl false)))
 nxt))
 (ret (kd (.bl true)))))
def bE (ds:List D):R D:=fin (eC (st0 j0 ds))
abbrev tS:List Str:=["found","due"]
def ji:Rho->R Out:=(sq (iff (orB (bz (tst (una (iP "tuple") (vb 0)))) (tst (bin fne (una aj (vb 0)) (kd (.int 2)))))
 (ret (kd (.bl false)))
 nxt)
 (ret (rE (cal 2 cG (aC (bin fix (vb 0) (kd (.int 0))) (aC (bin fix (vb 1) (kd (.int 0))) aN))) (cal 2 bE (aC (bin fix (vb 0) (kd (.int 1))) (aC (bin fix (vb 1) (kd (.int 1))) aN))))))
def dF (ds:List D):R D:=fin (ji (st0 tS ds))
abbrev jZ:List Str:=["hall","other","boxes","arrows","reading"]
def cD:Rho->R Out:=(sq (iff (bz (tst (cal 4 aL (aC (vr 0) (aC (vr 1) (aC (vr 2) (aC (vr 3) aN)))))))
 (rse 6 sK)
 nxt)
 (sq (drp (pG 2 aO (aC (vr 1) (aC (vr 4) aN))))
 bad))
def aV (ds:List D):R D:=fin (cD (st0 jZ ds))
abbrev rM:List Str:=["e","low","told"]
def m6:Rho->R Out:=(sq (asg 1 (eL (aC (una (lZ [4,6] 0) (vb 0)) (aC (una (lZ [4,6] 1) (vb 0)) (aC (una (lZ [4,6] 2) (vb 0)) (aC (una (lZ [4,6] 3) (vb 0)) aN))))))
 (sq (asg 2 (bin bA (vb 1) (eL (aC (una (lZ [4,6] 4) (vb 0)) (aC (una (lZ [4,6] 5) (vb 0)) (aC (una (lZ [4,6] 6) (vb 0)) aN))))))
 (sq (iff (orB (bz (tst (una (yJ [4,6]) (vb 0)))) (tst (bin fne (una BM (vb 2)) (kd (.int 1)))))
 (ret (kd (.int 9)))
 nxt)
 (ret (una AZ (vb 2))))))
def fZ (ds:List D):R D:=fin (m6 (st0 rM ds))
abbrev ww:List Str:=["halls","boxes","arrows","reading","which","e"]
def kl:Rho->R Out:=(sq (asg 4 (una cS (kd (.int 1))))
 (sq (vA [4,6] 5
 (drp (pG 5 aV (aC (bin fix (vb 0) (kd (.int 0))) (aC (bin fix (vb 0) (kd (.int 1))) (aC (vr 1) (aC (vr 2) (aC (vr 3) aN)))))))
 (asg 4 (cal 1 fZ (aC (vr 5) aN))))
 (ret (vr 4))))
def dl (ds:List D):R D:=fin (kl (st0 ww ds))
abbrev t8:List Str:=["counts","others"]
def jt:Rho->R Out:=(ret (una o_ (eLs (av (jb (aC (vr 0) (aC (vr 1) aN))) 2 (tg2 2 3) tT (orV (bin (iI fgt) (vb 3) (kd (.int 0))) (bin feq (vb 2) (kd (.int 0))))))))
def dI (ds:List D):R D:=fin (jt (st0 t8 ds))
abbrev rL:List Str:=["things","thing","goal"]
def mq:Rho->R (D×Rho):=(sqB (ifJ (tst (una (λd=>.val (l7 d)) (bin fix (vb 0) (vb 1))))
 (stP 0 .s (pN0 0) (vr 1) (vr 2))
 nxJ)
 (rtB (bin feq (bin fix (vb 0) (vb 1)) (vb 2))))
def dS (ds es:List D):R (D×List D):=(mq (stM rL [(.l .s)] ds es)).bind (qt [(.l .s)])
abbrev pY:List Str:=["hall","one","other","change","box","thing","goal","more","arrow","pair"]
def gU:Rho->R Out:=(sq (trS 7 (.l (.l .s)) (eLs (av (fIt (vr 3)) 1 (tgN 10) tT (eLs (fIt (vb 10))))))
 (sq (aE (c9 (aC (una (ci 0) (vb 0)) aN)) (tg2 8 9)
 (ifM (anM (tst (bin feq (bin fix (vb 9) (kd (.int 0))) (vb 4))) (noM (tsM (mvP 7 (pN 7 (pN0 7) (bin fix (vb 9) (kd (.int 1)))) dS 2 (aC (bin fix (bin fix (bin fix (vb 1) (kd (.int 1))) (vb 8)) (vb 5)) (aC (bin fix (bin fix (bin fix (vb 2) (kd (.int 1))) (vb 8)) (vb 6)) aN))))))
 (ret (eL aN))
 nxt))
 (fz 7 (ret (eL (aC (vr 7) aN))))))
def bI (ds:List D):R D:=fin (gU (st0 pY ds))
abbrev wu:List Str:=["hall","one","other","begun","box","thing","later","change","goal"]
def ki:Rho->R Out:=(sq (own 6 (iQ aN))
 (sq (aE (fIt (vr 3)) (tgN 7)
 (iff (tst (una (λd=>.val (cT d)) (bin fix (bin fix (vb 7) (vb 4)) (vb 5))))
 (app 6 (vr 7))
 (aE (aK (aC (bin fix (bin fix (vb 2) (kd (.int 0))) (vb 4)) aN)) (tgN 8)
 (ext 6 (cal 7 bI (aC (vr 0) (aC (vr 1) (aC (vr 2) (aC (vr 7) (aC (vr 4) (aC (vr 5) (aC (vr 8) aN))))))))))))
 (fz 6 (ret (vr 6)))))
def cC (ds:List D):R D:=fin (ki (st0 wu ds))
abbrev wy:List Str:=["hall","one","other","begun","box","count","thing"]
def ko:Rho->R Out:=(sq (drp (cal 2 aO (aC (vr 0) (aC (vr 1) aN))))
 (sq (drp (cal 2 aO (aC (vr 0) (aC (vr 2) aN))))
 (sq (iff (bz (tst (cal 2 dI (aC (bin fix (vb 1) (kd (.int 0))) (aC (bin fix (vb 2) (kd (.int 0))) aN)))))
 (ret (eL aN))
 nxt)
 (sq (asg 3 (eL (aC (eLs (av (fIt (bin fix (vb 1) (kd (.int 0)))) 1 (tgN 7) tT (bin sZ (eL (aC (kd .non) aN)) (vb 7)))) aN)))
 (sq (aE (c9 (aC (bin fix (vb 1) (kd (.int 0))) aN)) (tg2 4 5)
 (aE (aK (aC (vr 5) aN)) (tgN 6)
 (asg 3 (cal 6 cC (aC (vr 0) (aC (vr 1) (aC (vr 2) (aC (vr 3) (aC (vr 4) (aC (vr 6) aN))))))))))
 (ret (vr 3)))))))
def eB (ds:List D):R D:=fin (ko (st0 wy ds))
abbrev tW:List Str:=["one","other","total","box","k"]
def jm:Rho->R Out:=(sq (asg 2 (kd (.int 1)))
 (sq (aE (aK (aC (una aj (bin fix (vb 0) (kd (.int 0)))) aN)) (tgN 3)
 (aE (aK (aC (bin fix (bin fix (vb 0) (kd (.int 0))) (vb 3)) aN)) (tgN 4)
 (asg 2 (bin (iI dP) (vb 2) (bin fix (bin fix (vb 1) (kd (.int 0))) (vb 3))))))
 (ret (vr 2))))
def dG (ds:List D):R D:=fin (jm (st0 tW ds))
abbrev kJ:List Str:=["parts","one","other","change","arrow","first","last","thing","behind"]
def eV:Rho->R Out:=(sq (aE (aK (aC (una aj (bin fix (vb 0) (kd (.int 0)))) aN)) (tgN 4)
 (sq (asT (tg2 5 6) (bin fix (bin fix (vb 0) (kd (.int 0))) (vb 4)))
 (aE (aK (aC (bin fix (bin fix (vb 1) (kd (.int 0))) (vb 5)) aN)) (tgN 7)
 (sq (asg 8 (bin fix (bin fix (bin fix (vb 1) (kd (.int 1))) (vb 4)) (vb 7)))
 (iff (tst (bin fne (bin fix (bin fix (vb 3) (vb 6)) (vb 8)) (bin fix (bin fix (bin fix (vb 2) (kd (.int 1))) (vb 4)) (bin fix (bin fix (vb 3) (vb 5)) (vb 7)))))
 (ret (kd (.bl false)))
 nxt)))))
 (ret (kd (.bl true))))
def bO (ds:List D):R D:=fin (eV (st0 kJ ds))
abbrev Cn:List Str:=["script","parts","more","boxes","arrows","halls","reading","second","due","handed","found","bad","one","other","change"]
def vk:Rho->R Out:=(sq (asg 1 (cal 2 cW (aC (vr 0) (aC (kd (.int 0)) aN))))
 (sq (asT (tg3 2 3 4) (cal 3 eU (aC (vr 0) (aC (kd (.int 4)) (aC (vr 1) aN)))))
 (sq (asg 5 (eL (aC (cal 1 dH (aC (vr 1) aN)) (aC (cal 1 dH (aC (vr 2) aN)) aN))))
 (sq (asg 6 (cal 2 di (aC (vr 2) (aC (bin (iI aA) (cal 2 ag (aC (vr 0) (aC (kd (.int 6)) aN))) (una aj (bin fix (vb 2) (kd (.int 1))))) aN))))
 (sq (asg 7 (eT (aC (eLs (av (fIt (bin fix (vb 2) (kd (.int 1)))) 1 (tgN 15) tT (kd (.int 1)))) (aC (eLs (av (fIt (bin fix (vb 2) (kd (.int 0)))) 1 (tgN 15) tT (eL (aC (kd (.int 0)) aN)))) aN))))
 (sq (iff (tst (bin feq (bin (iI aA) (cal 2 ag (aC (vr 0) (aC (kd (.int 7)) aN))) (kd (.int 2))) (kd (.int 0))))
 (asg 7 (cal 2 di (aC (vr 2) (aC (bin (iI aA) (cal 2 ag (aC (vr 0) (aC (kd (.int 8)) aN))) (una aj (bin fix (vb 2) (kd (.int 1))))) aN))))
 nxt)
 (sq (asg 8 (eL (aC (cal 3 d_ (aC (vr 3) (aC (vr 4) (aC (vr 6) aN)))) (aC (cal 3 d_ (aC (vr 3) (aC (vr 4) (aC (vr 7) aN)))) aN))))
 (sq (asg 9 (eT (aC (eLs (fIt (bin fix (vb 6) (kd (.int 0))))) (aC (cal 1 cH (aC (bin fix (vb 6) (kd (.int 1))) aN)) aN))))
 (sq (trS 10 (.p (.l .s) (.l (.l .s))) (cal 5 bU (aC (bin fix (vb 5) (kd (.int 0))) (aC (bin fix (vb 5) (kd (.int 1))) (aC (eLs (fIt (vb 3))) (aC (eLs (fIt (vb 4))) (aC (vr 9) aN)))))))
 (sq (iff (orB (bz (tst (flF (cal 2 dF (aC (va 10) (aC (bin fix (vb 8) (kd (.int 0))) aN)))))) (tst (bin fne (vb 9) (vb 6))))
 (ret (kd (.bl false)))
 nxt)
 (sq (iff (tst (bin fnt (flF (cal 3 bq (aC (bin fix (vb 5) (kd (.int 0))) (aC (bin fix (va 10) (kd (.int 0))) (aC (bin fix (va 10) (kd (.int 1))) aN))))) (kd (.bl true))))
 (ret (kd (.bl false)))
 nxt)
 (sq (asO (apP 10 .s (pN 10 (pN 10 (pN0 10) (kd (.int 1))) (kd (.int 0))) (kd (.int 0))))
 (sq (iff (bz (tst (flF (cal 2 bE (aC (eLs (fSl (bin fix (va 10) (kd (.int 1))) (oS (kd (.int 1))) oN)) (aC (eLs (fSl (bin fix (bin fix (vb 8) (kd (.int 0))) (kd (.int 1))) (oS (kd (.int 1))) oN)) aN))))))
 (ret (kd (.bl false)))
 nxt)
 (sq (iff (bz (tst (cal 2 dF (aC (cal 5 bU (aC (bin fix (vb 5) (kd (.int 0))) (aC (bin fix (vb 5) (kd (.int 1))) (aC (eLs (fIt (vb 3))) (aC (eLs (fIt (vb 4))) (aC (vr 9) aN)))))) (aC (bin fix (vb 8) (kd (.int 0))) aN)))))
 (ret (kd (.bl false)))
 nxt)
 (sq (asg 11 (cal 3 bu (aC (vr 0) (aC (vr 2) (aC (vr 6) aN)))))
 (sq (asT (tg2 12 13) (cal 5 bt (aC (vr 0) (aC (vr 1) (aC (vr 2) (aC (vr 3) (aC (vr 4) aN)))))))
 (sq (iff (orB (tst (bin fne (cal 4 dl (aC (vr 5) (aC (vr 12) (aC (vr 13) (aC (vr 11) aN))))) (kd (.int 6)))) (tst (bin fne (cal 4 dl (aC (vr 5) (aC (vr 12) (aC (vr 13) (aC (vr 6) aN))))) (kd (.int 6)))))
 (ret (kd (.bl false)))
 nxt)
 (sq (iff (tst (bin fne (cal 4 dl (aC (vr 5) (aC (vr 3) (aC (vr 4) (aC (vr 11) aN))))) (kd (.int 4))))
 (ret (kd (.bl false)))
 nxt)
 (sq (iff (orB (tst (bin (iI fgt) (una gJ (bin fix (vb 6) (kd (.int 0)))) (kd (.int 3)))) (orB (tst (bin (iI fgt) (una gJ (bin fix (vb 7) (kd (.int 0)))) (kd (.int 3)))) (tst (bin (iI fgt) (cal 2 dG (aC (vr 6) (aC (vr 7) aN))) (kd (.int 2000))))))
 (ret (kd (.bl true)))
 nxt)
 (sq (aE (fIt (eLs (fSl (cal 3 eB (aC (bin fix (vb 5) (kd (.int 1))) (aC (vr 9) (aC (vr 7) aN)))) oN (oS (kd (.int 20)))))) (tgN 14)
 (iff (bz (tst (cal 4 bO (aC (vr 1) (aC (bin fix (vb 8) (kd (.int 0))) (aC (bin fix (vb 8) (kd (.int 1))) (aC (eLs (av (fIt (vr 3)) 1 (tgN 15) tT (bin fix (vb 14) (vb 15)))) aN)))))))
 (ret (kd (.bl false)))
 nxt))
 (ret (kd (.bl true)))))))))))))))))))))))
def jT (ds:List D):R D:=fin (vk (st0 Cn ds))
end DL
namespace DL
open PySem L2 Ar
theorem gO (a b:Int):ba [.int a,.int b]=.val (.bl (decide (0<=a)&&decide (a<b))):=by
 simp only[ba,js];show fin (ret _ [sh (.int a),sh (.int b)])=_;by_cases h:(0:Int)<=a<;>simp[h]
variable {b:Nat}
theorem ij {a:Nat} (h:a<b):ba [.int (a:Int),.int (b:Int)]=.val (.bl true):=by
 rw[gO];simp;exact h
variable {k i j:Nat} {x:D} {xs:List D} {U:Rho}
section
variable {en:List (Nat×Nat)} {re:List Nat} {tb:List (List Int)}
theorem kI (h:HallN en re tb):cz [aw en,ac re]=.val .non:=by
 have h1:=h.nb1;have h2:=h.nb6;have h3:=h.na1;have h4:=h.na40;simp only[cz,fJ];show fin (sq _ _ [sh (aw en),sh (ac re)])=_;have a1:(1:Int)<=re.length:=by omega
 have a2:(re.length:Int)<=6:=by omega
 have a3:(1:Int)<=en.length:=by omega
 have a4:(en.length:Int)<=40:=by omega
 simp[a1,a2,a3,a4]
theorem yX (e:(en.map bp)[k]?=some x):k<en.length/\x=bp (en.getD k (0,0)):=by
 have hk:k<en.length:=by have:=(ώ.mp e).1;simpa using this
 rw[bZ (d:=(0,0)) hk]at e;exact⟨hk,(Ϥ e).symm⟩
theorem Dj (e:(re.map nD)[k]?=some x):k<re.length/\x=nD (re.getD k 0):=by
 have hk:k<re.length:=by have:=(ώ.mp e).1;simpa using this
 rw[bZ (d:=0) hk]at e;exact⟨hk,(Ϥ e).symm⟩
theorem se (e:(tb.map ae)[k]?=some x):k<tb.length/\x=ae (tb.getD k []):=by
 have hk:k<tb.length:=by have:=(ώ.mp e).1;simpa using this
 rw[bZ (d:=[]) hk]at e;exact⟨hk,(Ϥ e).symm⟩
theorem so {r:List Int} (e:(r.map D.int)[k]?=some x):k<r.length/\x=.int (r.getD k (-1)):=by
 have hk:k<r.length:=by have:=(ώ.mp e).1;simpa using this
 rw[bZ (d:=-1) hk]at e;exact⟨hk,(Ϥ e).symm⟩
theorem keep {F:Rho->R Out} {U1:Rho} {I:Rho->Prop} (h:F U1=.val (.nx U1)) (hI:I U1):∃U2,F U1=.val (.nx U2)/\I U2:=⟨U1,h,hI⟩
theorem fU {F:Rho->R Out} (I:Rho->Prop) (step:∀(k:Nat) x U,xs[k]?=some x->I U->∃U2,F ((U.set i (sh (.int (k:Int)))).set j (sh x))=.val (.nx U2)/\I U2) (h:I U):fin (aX (tg2 i j) F (enu 0 xs) U)=.val .non:=by
 obtain⟨ρ',e,_⟩:=lO I step h;rw[e];rfl
theorem mY (h:HallN en re tb):dD [aw en,.int re.length]=.val .non:=by
 simp only[dD,g9];show fin (aX (tg2 2 3) _ (enu 0 (en.map bp)) [sh (aw en),sh (.int re.length),none,none])=_;refine fU (λU=>∃a b,U=[sh (aw en),sh (.int re.length),a,b]) (λk x U ex hI=>?_) ⟨none,none,rfl⟩;obtain⟨a,b,rfl⟩:=hI;obtain⟨hk,rfl⟩:=yX ex;obtain⟨b1,b2⟩:=h.eb k hk;refine keep ?_ ⟨_,_,rfl⟩;simp[-List.getD_eq_getElem?_getD,ij b1,ij b2]
theorem me (h:HallN en re tb):cY [aw en,ac re]=.val .non:=by
 simp only[cY,gh];show fin (aX (tg2 2 3) _ (enu 0 (re.map nD)) [sh (aw en),sh (ac re),none,none])=_;refine fU (λU=>∃a b,U=[sh (aw en),sh (ac re),a,b]) (λk x U ex hI=>?_) ⟨none,none,rfl⟩;obtain⟨a,b,rfl⟩:=hI;obtain⟨hk,rfl⟩:=Dj ex;obtain⟨b1,b2⟩:=h.rs k hk;have e2:fne (bp (en.getD (re.getD k 0) (0,0))) (.tup [.int (k:Int),.int (k:Int)])=.val (.bl false):=by
  rw[b2];exact fB (x:=bp (k,k)) (eN _)
 refine keep ?_ ⟨_,_,rfl⟩;simp[-List.getD_eq_getElem?_getD,ij b1,ce b1,e2]
theorem mX (h:HallN en re tb):dC [af tb,.int en.length]=.val .non:=by
 simp only[dC,g8];have ht:=h.tl;have:sq (DL.iff (tst (bin fne (una aj (vb 0)) (vb 1))) bad nxt) (aE (c9 (aC (vr 0) aN)) (tg2 2 3) (DL.iff (tst (bin fne (una aj (vb 3)) (vb 1))) bad nxt)) (st0 jC [af tb,.int en.length])=aX (tg2 2 3) (DL.iff (tst (bin fne (una aj (vb 3)) (vb 1))) bad nxt) (enu 0 (tb.map ae)) [sh (af tb),sh (.int en.length),none,none]:=by
  show sq _ _ [sh (af tb),sh (.int en.length),none,none]=_;simp[ht];rfl
 rw[this];refine fU (λU=>∃a b,U=[sh (af tb),sh (.int en.length),a,b]) (λk x U ex hI=>?_) ⟨none,none,rfl⟩;obtain⟨a,b,rfl⟩:=hI;obtain⟨hk,rfl⟩:=se ex;have b1:=h.rl k (by omega);refine keep ?_ ⟨_,_,rfl⟩;simp[-List.getD_eq_getElem?_getD,b1]
theorem mf (h:HallN en re tb) (hi:i<en.length) (hj:j<en.length):b5 [aw en,.int (i:Int),.int (j:Int),.int ((tb.getD i []).getD j (-1))]=.val .non:=by
 simp only[b5,gi];show fin (DL.iff _ _ _ [sh (aw en),sh (.int (i:Int)),sh (.int (j:Int)),sh (.int ((tb.getD i []).getD j (-1)))])=_;by_cases e:(en.getD i (0,0)).2=(en.getD j (0,0)).1
 ·obtain⟨k,k1,k2,k3⟩:=h.tp i j hi hj e;have e2:fne (bp (en.getD k (0,0))) (.tup [nD (en.getD i (0,0)).1,nD (en.getD j (0,0)).2])=.val (.bl false):=by
   rw[k3];exact fB (x:=bp _) (eN _)
  rw[k2];simp[-List.getD_eq_getElem?_getD,ce hi,ce hj,e,ij k1,ce k1,e2]
 ·have e1:=h.tn i j hi hj e;have e':((en.getD i (0,0)).2:Int)≠((en.getD j (0,0)).1:Int):=by omega
  rw[e1];simp[-List.getD_eq_getElem?_getD,ce hi,ce hj,e']
theorem l_ (h:HallN en re tb):cX [aw en,af tb]=.val .non:=by
 simp only[cX,gg];show fin (aX (tg2 2 3) _ (enu 0 (tb.map ae)) [sh (aw en),sh (af tb),none,none,none,none])=_;refine fU (λU=>∃a b c d,U=[sh (aw en),sh (af tb),a,b,c,d]) (λk x U ex hI=>?_) ⟨none,none,none,none,rfl⟩;obtain⟨a,b,c,d,rfl⟩:=hI;obtain⟨hk,rfl⟩:=se ex;have hk':k<en.length:=by have:=h.tl;omega
 show ∃U2,aX (tg2 4 5) _ (enu 0 ((tb.getD k []).map D.int)) [sh (aw en),sh (af tb),sh (.int (k:Int)),sh (ae (tb.getD k [])),c,d]=_/\_;have:=lO (i:=4) (j:=5) (F:=drp (cal 4 b5 (aC (vr 0) (aC (vr 2) (aC (vr 4) (aC (vr 5) aN)))))) (λU=>∃c d,U=[sh (aw en),sh (af tb),sh (.int (k:Int)),sh (ae (tb.getD k [])),c,d]) (xs:=(tb.getD k []).map D.int) (λm x U ex hI=>?_) (U:=[sh (aw en),sh (af tb),sh (.int (k:Int)),sh (ae (tb.getD k [])),c,d]) ⟨c,d,rfl⟩
 ·obtain⟨ρ',e,c',d',rfl⟩:=this;exact⟨_,e,_,_,_,_,rfl⟩
 ·obtain⟨c,d,rfl⟩:=hI;obtain⟨hm,rfl⟩:=so ex;have hm':m<en.length:=by rw[h.rl k hk']at hm;exact hm
  refine keep ?_ ⟨_,_,rfl⟩;simp[-List.getD_eq_getElem?_getD,mf h hk' hm']
theorem nM (h:HallN en re tb) (hi:i<en.length) (hj:j<en.length):(tb.getD i []).getD j (-1)=-1\/∃k:Nat,k<en.length/\(tb.getD i []).getD j (-1)=(k:Int):=by
 by_cases e:(en.getD i (0,0)).2=(en.getD j (0,0)).1
 ·obtain⟨k,k1,k2,_⟩:=h.tp i j hi hj e;exact .inr ⟨k,k1,k2⟩
 ·exact .inl (h.tn i j hi hj e)
theorem eS (h:HallN en re tb) (hi:i<en.length) (hj:j<en.length) (e:(tb.getD i []).getD j (-1)=(k:Int)):(en.getD i (0,0)).2=(en.getD j (0,0)).1/\k<en.length/\en.getD k (0,0)=((en.getD i (0,0)).1,(en.getD j (0,0)).2):=by
 by_cases e0:(en.getD i (0,0)).2=(en.getD j (0,0)).1
 ·obtain⟨k',k1,k2,k3⟩:=h.tp i j hi hj e0;have:k'=k:=by rw[k2]at e;omega
  subst this;exact⟨e0,k1,k3⟩
 ·rw[h.tn i j hi hj e0]at e;omega
theorem gk (h:HallN en re tb):bw [aw en,ac re,af tb]=.val .non:=by
 simp only[bw,c7];show fin (aX (tg2 3 4) _ (enu 0 (en.map bp)) [sh (aw en),sh (ac re),sh (af tb),none,none])=_;refine fU (λU=>∃a b,U=[sh (aw en),sh (ac re),sh (af tb),a,b]) (λk x U ex hI=>?_) ⟨none,none,rfl⟩;obtain⟨a,b,rfl⟩:=hI;obtain⟨hk,rfl⟩:=yX ex;obtain⟨b1,b2⟩:=h.eb k hk;have r1:=(h.rs _ b1).1;have r2:=(h.rs _ b2).1;have u1:=h.ul k hk;have u2:=h.ur k hk;have ht:=h.tl;have t1:=aJ (tb:=tb) (show re.getD (en.getD k (0,0)).1 0<tb.length by omega);have t2:=aJ (tb:=tb) (show k<tb.length by omega);have t3:=aM (r:=tb.getD (re.getD (en.getD k (0,0)).1 0) []) (i:=k) (by rw[h.rl _ r1];exact hk);have t4:=aM (r:=tb.getD k []) (i:=re.getD (en.getD k (0,0)).2 0) (by rw[h.rl _ hk];exact r2);refine keep ?_ ⟨_,_,rfl⟩;simp[-List.getD_eq_getElem?_getD,aY b1,aY b2,t1,t2,t3,t4,u1,u2]
theorem kH (h:HallN en re tb) {x:Nat} (hi:i<en.length) (hj:j<en.length) (e:(tb.getD i []).getD j (-1)=(x:Int)):bV [af tb,.int (i:Int),.int (j:Int),.int (x:Int)]=.val .non:=by
 simp only[bV,fI];have ht:=h.tl;obtain⟨_,hx,_⟩:=eS h hi hj e;have t1:=aJ (tb:=tb) (show i<tb.length by omega);have t2:=aJ (tb:=tb) (show j<tb.length by omega);have t3:=aJ (tb:=tb) (show x<tb.length by omega);have:∀F,aE (c9 (aC (bin fix (vb 0) (vb 2)) aN)) (tg2 4 5) F (st0 hJ [af tb,.int (i:Int),.int (j:Int),.int (x:Int)])=aX (tg2 4 5) F (enu 0 ((tb.getD j []).map D.int)) [sh (af tb),sh (.int (i:Int)),sh (.int (j:Int)),sh (.int (x:Int)),none,none]:=λF=>by
  show aE _ _ F [sh (af tb),sh (.int (i:Int)),sh (.int (j:Int)),sh (.int (x:Int)),none,none]=_;simp[-List.getD_eq_getElem?_getD,t2];rfl
 rw[this];refine fU (λU=>∃a b,U=[sh (af tb),sh (.int (i:Int)),sh (.int (j:Int)),sh (.int (x:Int)),a,b]) (λk d U ex hI=>?_) ⟨none,none,rfl⟩;obtain⟨a,b,rfl⟩:=hI;obtain⟨hk,rfl⟩:=so ex;rw[h.rl j hj]at hk;refine keep ?_ ⟨_,_,rfl⟩;rcases nM h hj hk with ey|⟨y,hy,ey⟩
 ·rw[ey];simp
 ·rw[ey];have as:=h.as i j k x y hi hj hk e ey;have t4:=aM (r:=tb.getD x []) (i:=k) (by rw[h.rl _ hx];exact hk);have t5:=aM (r:=tb.getD i []) (i:=y) (by rw[h.rl _ hi];exact hy);have ny:(y:Int) ≠ -1:=by omega
  simp[-List.getD_eq_getElem?_getD,t1,t3,t4,t5,as,ny]
theorem kG (h:HallN en re tb):cy [af tb]=.val .non:=by
 simp only[cy,fH];show fin (aX (tg2 1 2) _ (enu 0 (tb.map ae)) [sh (af tb),none,none,none,none])=_;refine fU (λU=>∃a b c d,U=[sh (af tb),a,b,c,d]) (λk x U ex hI=>?_) ⟨none,none,none,none,rfl⟩;obtain⟨a,b,c,d,rfl⟩:=hI;obtain⟨hk,rfl⟩:=se ex;have hk':k<en.length:=by have:=h.tl;omega
 have:=lO (i:=3) (j:=4) (F:=DL.iff (tst (bin fne (vb 4) (una cS (kd (.int 1))))) (drp (cal 4 bV (aC (vr 0) (aC (vr 1) (aC (vr 3) (aC (vr 4) aN)))))) nxt) (λU=>∃c d,U=[sh (af tb),sh (.int (k:Int)),sh (ae (tb.getD k [])),c,d]) (xs:=(tb.getD k []).map D.int) (λm x U ex hI=>?_) (U:=[sh (af tb),sh (.int (k:Int)),sh (ae (tb.getD k [])),c,d]) ⟨c,d,rfl⟩
 ·obtain⟨ρ',e,c',d',rfl⟩:=this;exact⟨_,e,_,_,_,_,rfl⟩
 ·obtain⟨c,d,rfl⟩:=hI;obtain⟨hm,rfl⟩:=so ex;have hm':m<en.length:=by rw[h.rl k hk']at hm;exact hm
  refine keep ?_ ⟨_,_,rfl⟩;rcases nM h hk' hm' with ey|⟨y,hy,ey⟩
  ·rw[ey];simp
  ·have:=kH h hk' hm' ey;rw[ey];have ny:(y:Int) ≠ -1:=by omega
   simp[-List.getD_eq_getElem?_getD,this,ny]
theorem Bv (h:HallN en re tb):jv (im (aw en) (ac re) (af tb))=.val (.ob (aw en) (ac re) (af tb)):=by
 have n1:=h.na40;have n2:=h.tl;have hf:av (fIt (vr 3)) 1 (tgN 4) tT (eLs (fIt (vb 4))) (im (aw en) (ac re) (af tb))=.val (tb.map ae):=aS (f:=ae) rfl (by omega) λr _=>rfl;unfold jv wf;rw[hf];unfold im;simp[-List.getD_eq_getElem?_getD,wp,kI h,mY h,me h,mX h,l_ h,gk h,kG h];rfl
end
theorem fV (ns:List Int) (k:Nat):∃c:Int,ag [.scr ns,.int (k:Int)]=.val (.int c):=by
 simp only[ag,jr];have m1:∀i:Int,aA i 65521=.val (.int (i%65521)):=λi=>cx (by decide);have m2:∀i:Int,dP i 48271=.val (.int (i*48271)):=λi=>i8 (by decide);have m3:∀i:Int,dP i 30103=.val (.int (i*30103)):=λi=>i8 (by decide);show ∃c,fin (sq _ _ [sh (.scr ns),sh (.int (k:Int)),none])=_;have t1:tst (bin (iI flt) (vb 1) (una aj (vb 0))) [sh (.scr ns),sh (.int (k:Int)),none]=.val (decide ((k:Int)<(ns.length:Int))):=ϕ rfl rfl;rw[ar,aR,t1,aa];by_cases h:k<ns.length
 ·have e:fix (.scr ns) (.int (k:Int))=.val (.int ns[k]):=Cg (Ϗ h);refine⟨ns[k],?_⟩;rw[if_pos (decide_eq_true (ς.mpr h)),bM,aF];show fin (R.bind (R.bind (fix (.scr ns) (.int (k:Int))) _) _)=_;rw[e];rfl
 ·rw[if_neg (by rw[decide_eq_false (λz=>h (ς.mp z))];decide),cO,aa];dsimp only;have t2:tst (bin (iI fgt) (una aj (vb 0)) (kd (.int 0))) [sh (.scr ns),sh (.int (k:Int)),sh (.int 0)]=.val (decide ((0:Int)<(ns.length:Int))):=ϕ rfl rfl;have last:∀b:Int,ret (bin (iI aA) (bin bA (bin (iI dP) (bin (iI aA) (vb 2) (kd (.int 65521))) (kd (.int 48271))) (bin (iI dP) (vb 1) (kd (.int 30103)))) (kd (.int 65521))) [sh (.scr ns),sh (.int (k:Int)),sh (.int b)]=.val (.rt (.int ((b%65521*48271+k*30103)%65521))):=λb=>by
   have v2:vb 2 [sh (.scr ns),sh (.int (k:Int)),sh (.int b)]=.val (.int b):=ϕ rfl rfl;have v1:vb 1 [sh (.scr ns),sh (.int (k:Int)),sh (.int b)]=.val (.int (k:Int)):=ϕ rfl rfl;rw[bM,aF _ (iI aA),aF _ bA,aF _ (iI dP),aF _ (iI aA),v2,aa,c_,aa,gG,m1,aa,c_,aa,gG,m2,aa,aF _ (iI dP),v1,aa,c_,aa,gG,m3,aa,uW,aa,aa,gG,m1,aa]
  have a2:asg 2 (kd (.int 0)) [sh (.scr ns),sh (.int (k:Int)),none]=.val (.nx [sh (.scr ns),sh (.int (k:Int)),sh (.int 0)]):=ϕ rfl rfl;rw[ar,a2,aa];dsimp only;rw[ar,aR,t2,aa];by_cases h0:0<ns.length
  ·have e:fix (.scr ns) (.int 0)=.val (.int ns[0]):=Cg (i:=0) (Ϗ h0);refine⟨(ns[0]%65521*48271+k*30103)%65521,?_⟩;rw[if_pos (decide_eq_true (show(0:Int)<(ns.length:Int)from ς.mpr h0)),dn,aF];show fin (R.bind (R.bind (fix (.scr ns) (.int 0)) _) _)=_;rw[e];show fin (ret _ [sh (.scr ns),sh (.int (k:Int)),sh (.int ns[0])])=_;rw[last];rfl
  ·refine⟨(0%65521*48271+k*30103)%65521,?_⟩;rw[if_neg (by rw[decide_eq_false (λ(z:(0:Int)<(ns.length:Int))=>h0 (ς.mp z))];decide),cO,aa];dsimp only;rw[last];rfl
theorem je (s:Int):∃c:Int,ay [.int s]=.val (.int c):=by
 simp only[ay,jl];have m1:∀i:Int,aA i 2147483647=.val (.int (i%2147483647)):=λi=>cx (by decide);have m2:∀i:Int,dP i 48271=.val (.int (i*48271)):=λi=>i8 (by decide);show ∃c,fin (ret _ [sh (.int s)])=_;refine⟨(s*48271+11)%2147483647,?_⟩;simp[m1,m2]
theorem wN (m:Nat) (h:m=1\/m=2\/m=3\/m=4):∃sz∈szs,D.lst ((List.range m).map λ_=>D.int 1)=ac sz:=by
 rcases h with rfl|rfl|rfl|rfl
 ·exact⟨[1],by decide,rfl⟩
 ·exact⟨[1,1],by decide,rfl⟩
 ·exact⟨[1,1,1],by decide,rfl⟩
 ·exact⟨[1,1,1,1],by decide,rfl⟩
def l6:List (List Nat):=[[1,2],[2,1],[2,2],[0,2],[2],[1]]
def l5:List (List Nat):=[[1,1,2],[0,1,2],[1,2,2],[2,1,0],[2,2]]
theorem Gs:∀i,i<6->l6.getD i []∈szs:=by decide
theorem Gu:∀i,i<5->l5.getD i []∈szs:=by decide
theorem gS (c:Int) (m:Nat) (h:0<m):∃i:Nat,i<m/\c%(m:Int)=(i:Int):=by
 have h':(0:Int)<(m:Int):=ς.mpr h;obtain⟨i,e⟩:=Int.eq_ofNat_of_zero_le (ω c (Int.ne_of_gt h'));refine⟨i,?_,e⟩;have:=ο c h';rw[e]at this;exact ς.mp this
theorem yO (ns:List Int) (k:Nat):∃sz∈szs,cU [.scr ns,.int (k:Int)]=.val (ac sz):=by
 simp only[cU,iE];obtain⟨c,hc⟩:=fV ns k;have d4:bT c 4=.val (.int (c/4)):=o9 (by decide);show ∃sz∈szs,fin (sq _ _ [sh (.scr ns),sh (.int (k:Int)),none,none])=_;have x1:asg 2 (cal 2 ag (aC (vr 0) (aC (vr 1) aN))) [sh (.scr ns),sh (.int (k:Int)),none,none]=.val (.nx [sh (.scr ns),sh (.int (k:Int)),sh (.int c),none]):=by
  rw[dn,zm];show R.bind (noex (ag [.scr ns,.int (k:Int)])) _=_;rw[hc];rfl
 have x2:asg 3 (bin (iI aA) (vb 2) (kd (.int 4))) [sh (.scr ns),sh (.int (k:Int)),sh (.int c),none]=.val (.nx [sh (.scr ns),sh (.int (k:Int)),sh (.int c),sh (.int (c%4))]):=by
  rw[dn,aF];show R.bind (aA c 4) _=_;rw[cx (by decide)];rfl
 rw[ar,x1,aa];dsimp only;rw[ar,x2,aa];dsimp only;have ix:∀(w:Int) (m:Int),0<m->bin (iI aA) (bin (iI bT) (vb 2) (kd (.int 4))) (kd (.int m)) [sh (.scr ns),sh (.int (k:Int)),sh (.int c),sh (.int w)]=.val (.int (c/4%m)):=λw m hm=>by
  rw[aF,aF];show R.bind (bT c 4) _=_;rw[d4];show aA (c/4) m=_;exact cx hm
 have ts:∀(w:Int) (m:Int),tst (bin feq (vb 3) (kd (.int m))) [sh (.scr ns),sh (.int (k:Int)),sh (.int c),sh (.int w)]=.val (decide (w=m)):=λw m=>by
  rw[bn,aF];show R.bind (feq (.int w) (.int m)) asB=_;rw[l8];rfl
 obtain⟨i,hi,ei⟩:=gS c 4 (by decide);have ei:c%4=(i:Int):=ei;rw[ei]
 match i,hi with
 | 0,_ =>
  obtain⟨j,hj,ej⟩:=gS (c/4) 4 (by decide);have ej:c/4%4=(j:Int):=ej;have hz:mI [.int (1+c/4%4)]=.val (rng 0 (1+j)):=by
   rw[ej];have:=cN (n:=1+j) (ϣ (Nat.add_le_add_left (Nat.le_of_lt hj) 1) (by decide));rw[Int.natCast_add]at this;exact this
  have hf:av (aK (aC (bin bA (kd (.int 1)) (bin (iI aA) (bin (iI bT) (vb 2) (kd (.int 4))) (kd (.int 4)))) aN)) 1 (tgN 4) tT (kd (.int 1)) [sh (.scr ns),sh (.int (k:Int)),sh (.int c),sh (.int ((0:Nat):Int))]=.val ((List.range (1+j)).map λ_=>D.int 1):=by
   refine jd ?_ (ϣ (Nat.add_le_add_left (Nat.le_of_lt hj) 1) (by decide)) λk _=>rfl;rw[k6,aZ,aF,c_,aa,ix _ 4 (by decide),aa,uW,aa,iJ,aa,aa,hz]
  obtain⟨sz,hs,e⟩:=wN (1+j) (by
   match j,hj with
   | 0,_=>exact .inl rfl
   | 1,_=>exact .inr (.inl rfl)
   | 2,_=>exact .inr (.inr (.inl rfl))
   | 3,_=>exact .inr (.inr (.inr rfl)))
  refine⟨sz,hs,?_⟩;rw[ar,aR,ts,aa,if_pos (by decide),bM,aP,hf,aa,aa,aa];exact congrArg R.val e
 | 1,_ =>
  obtain⟨j,hj,ej⟩:=gS (c/4) 6 (by decide);have ej:c/4%6=(j:Int):=ej;refine⟨_,Gs j hj,?_⟩;have el:eL (aC (eL (aC (kd (.int 1)) (aC (kd (.int 2)) aN))) (aC (eL (aC (kd (.int 2)) (aC (kd (.int 1)) aN))) (aC (eL (aC (kd (.int 2)) (aC (kd (.int 2)) aN))) (aC (eL (aC (kd (.int 0)) (aC (kd (.int 2)) aN))) (aC (eL (aC (kd (.int 2)) aN)) (aC (eL (aC (kd (.int 1)) aN)) aN)))))) [sh (.scr ns),sh (.int (k:Int)),sh (.int c),sh (.int ((1:Nat):Int))]=.val (.lst (l6.map ac)):=ϕ rfl rfl;rw[ar,aR,ts,aa,if_neg (by decide),cO,aa];dsimp only;rw[ar,aR,ts,aa,if_pos (by decide),bM,aF,el,aa,ix _ 6 (by decide),aa,ej,gK (bZ (d:=[]) hj)];rfl
 | 2,_ =>
  refine⟨[3],by decide,?_⟩;rw[ar,aR,ts,aa,if_neg (by decide),cO,aa];dsimp only;rw[ar,aR,ts,aa,if_neg (by decide),cO,aa];dsimp only;rw[ar,aR,ts,aa,if_pos (by decide)];exact ϕ rfl rfl
 | 3,_ =>
  obtain⟨j,hj,ej⟩:=gS (c/4) 5 (by decide);have ej:c/4%5=(j:Int):=ej;refine⟨_,Gu j hj,?_⟩;have el:eL (aC (eL (aC (kd (.int 1)) (aC (kd (.int 1)) (aC (kd (.int 2)) aN)))) (aC (eL (aC (kd (.int 0)) (aC (kd (.int 1)) (aC (kd (.int 2)) aN)))) (aC (eL (aC (kd (.int 1)) (aC (kd (.int 2)) (aC (kd (.int 2)) aN)))) (aC (eL (aC (kd (.int 2)) (aC (kd (.int 1)) (aC (kd (.int 0)) aN)))) (aC (eL (aC (kd (.int 2)) (aC (kd (.int 2)) aN))) aN))))) [sh (.scr ns),sh (.int (k:Int)),sh (.int c),sh (.int ((3:Nat):Int))]=.val (.lst (l5.map ac)):=ϕ rfl rfl;rw[ar,aR,ts,aa,if_neg (by decide),cO,aa];dsimp only;rw[ar,aR,ts,aa,if_neg (by decide),cO,aa];dsimp only;rw[ar,aR,ts,aa,if_neg (by decide),cO,aa];dsimp only;rw[bM,aF,el,aa,ix _ 5 (by decide),aa,ej,gK (bZ (d:=[]) hj)];rfl
def fw (x:Arr):KA:=((x.1:Int),(x.2.1:Int),x.2.2.map λ(n:Nat)=>(n:Int))
theorem jM:∀l:List Nat,fA (l.map nD)=some (l.map λ(n:Nat)=>(n:Int))
 | []=>rfl
 | a::l=>by
  show(fA (l.map nD)).map _=_;rw[jM l];rfl
theorem fv (x:Arr):mS (ah x)=some (fw x):=by
 show(fA (x.2.2.map nD)).map _=_;rw[jM];rfl
theorem lR {x y:Arr} (h:fw x=fw y):x=y:=by
 obtain⟨a,b,l⟩:=x;obtain⟨c,d,m⟩:=y;simp only[fw,Prod.mk.injEq]at h;obtain⟨h1,h2,h3⟩:=h;have e3:l=m:=by
  have:∀{l m:List Nat},(l.map λ(n:Nat)=>(n:Int))=(m.map λ(n:Nat)=>(n:Int))->l=m:=by
   intro l
   induction l with
   | nil=>intro m h;cases m with
    | nil=>rfl
    | cons _ _=>simp at h
   | cons a l ih=>intro m h;cases m with
    | nil=>simp at h
    | cons b m =>
     simp only[Ϯ,ψ]at h;rw[ih h.2];congr 1;omega
  exact this h3
 rw[e3,show a=c by omega,show b=d by omega]
def met (kn:List Arr):List (KA×D):=kn.map λx=>(fw x,.bl true)
theorem uN (kn:List Arr) (x:Arr):((met kn).any λp=>decide (p.1=fw x))=decide (x∈kn):=by
 unfold met;rw[List.any_map];by_cases h:x∈kn
 ·rw[decide_eq_true h,List.any_eq_true];exact⟨x,h,by simp⟩
 ·rw[decide_eq_false h,List.any_eq_false];intro y hy;simp only[Function.comp,decide_eq_true_eq];exact λe=>h (lR e▸hy)
variable {kn:List Arr}
theorem uM {x:Arr} (h:x∉kn):lQ (met kn) (fw x) (.bl true)=met (kn++[x]):=by
 unfold lQ;rw[uN,decide_eq_false h,if_neg (by decide)];unfold met;rw[Ϭ];rfl
theorem uO:∀(l acc:List Arr),(acc++l).Nodup->(acc++l).length<=100000->qH (l.map ah) (met acc)=some (met (acc++l))
 | [],acc,_,_=>by rw[Ϫ];rfl
 | x::l,acc,nd,hl=>by
  have hx:x∉acc:=λh=>by
   rw[List.nodup_append]at nd;exact nd.2.2 x h x (by simp) rfl
  have e:acc++x::l=(acc++[x])++l:=by simp
  rw[Ϯ];unfold qH;rw[fv];dsimp only;have hl1:(met acc).length<=100000:=by unfold met;rw[ϋ];simp at hl;omega
  rw[if_pos hl1,uM hx,e];exact uO l (acc++[x]) (by rw[<- e];exact nd) (by rw[<- e];exact hl)
variable {d:D} {n:Nat} {kvs:List (KA×D)} {ka:KA}
section
variable (U:Rho)
@[simp] theorem vh (i:Nat):we i U=.val (.nx (U.set i (some (.dic [])))):=ϕ rfl rfl
theorem iT {e:Rho->R D} (h:U[i]?=some (some (.own xs))) (he:e U=.val d) (hl:xs.length<100000):app i e U=.val (.nx (U.set i (some (.own (xs++[d]))))):=by
 unfold app;rw[h];dsimp only;rw[he,aa,if_pos (show xs.length<LIM from hl)]
theorem yj {k e:Rho->R D} (h:U[i]?=some (some (.own xs))) (hk:k U=.val (.int (n:Int))) (he:e U=.val d) (hn:n<=xs.length) (hl:xs.length<100000):ins i k e U=.val (.nx (U.set i (some (.own (xs.take n++d::xs.drop n))))):=by
 unfold ins;rw[h];dsimp only;rw[hk,aa,he,aa];dsimp only;rw[if_pos ⟨by omega,by omega,(show xs.length<LIM from hl)⟩];rfl
theorem vg {k e:Rho->R D} {kd:D} (h:U[i]?=some (some (.dic kvs))) (hk:k U=.val kd) (he:e U=.val d) (ek:mS kd=some ka) (hl:kvs.length<=100000):mj i k e U=.val (.nx (U.set i (some (.dic (lQ kvs ka d))))):=by
 unfold mj;rw[he,aa,hk,kW,aa,ek];dsimp only;rw[h];dsimp only;rw[if_pos hl]
theorem vi {k:Rho->R D} {kd:D} (h:U[i]?=some (some (.dic kvs))) (hk:k U=.val kd) (ek:mS kd=some ka) (hg:sR kvs ka=some d):mZ i k U=.val d:=by
 unfold mZ;rw[h];dsimp only;rw[hk,aa,ek];dsimp only;rw[hg]
theorem BF {k:Rho->R D} {kd:D} (h:U[i]?=some (some (.dic kvs))) (hk:k U=.val kd) (ek:mS kd=some ka):wd i k U=.val (!(kvs.any λp=>decide (p.1=ka))):=by
 unfold wd;rw[hk,aa,h];dsimp only;rw[ek]
end
def rC (kn:List Arr) (a:Nat) (o f s m:Option Slt):Rho:=[some (.own (kn.map ah)),some (.dic (met kn)),none,sh (nD a),o,f,s,m]
abbrev mD:Rho->R Out:=DL.iff (tst (bin feq (bin fix (vb 5) (kd (.int 1))) (bin fix (vb 6) (kd (.int 0)))))
 (sq (asg 7 (eT (aC (bin fix (vb 5) (kd (.int 0))) (aC (bin fix (vb 6) (kd (.int 1))) (aC (una gH (eLs (av (fIt (bin fix (vb 5) (kd (.int 2)))) 1 (tgN 8) tT (bin fix (bin fix (vb 6) (kd (.int 2))) (vb 8))))) aN)))))
 (DL.iff (wd 1 (vr 7))
 (sq (mj 1 (vr 7) (kd (.bl true)))
 (app 0 (vr 7)))
 nxt))
 nxt
variable {s:Arr}
theorem DY {sz:List Nat} {f:Arr} (hf:Ok sz f) (hs:Ok sz s) (e:f.2.1=s.1):∀i∈f.2.2,i<s.2.2.length:=by
 obtain⟨n,m,h1,h2,h3,h4⟩:=hf;obtain⟨n',m',g1,g2,g3,g4⟩:=hs;have hm:m=n':=by rw[e]at h2;rw[h2]at g1;exact Ϥ g1
 intro i hi;rw[g3,<- hm];exact h4 i hi
theorem DW {sz:List Nat} (hz:sz∈szs) {f:Arr} (hf:Ok sz f):f.2.2.length<=3:=by
 obtain⟨n,m,h1,h2,h3,h4⟩:=hf;rw[h3];exact(fN sz hz).2.2 n (Η h1)
theorem Kn.few {sz kn} (hz:sz∈szs) (g:Kn sz kn):kn.length<=27 :=
 ϣ (eZ g.nd λx hx=>qI (g.ok x hx)) (qf sz hz)
variable {src:Rho->R (List D)}
theorem vn {sz:List Nat} (hz:sz∈szs) {f:Arr} (hf:Ok sz f) (hs:Ok sz s) (e:f.2.1=s.1) {el:Rho->R D} (h1:src U=.val (f.2.2.map nD)) (h2:∀k:Nat,el ((U++List.replicate 1 none).set i (sh (nD k)))=fix (.tup (s.2.2.map nD)) (.int (k:Int))) :
  av src 1 (tgN i) tT el U=.val ((comp f s).2.2.map nD):=by
 have hl:=DW hz hf;have:=aS (f:=nD) (g:=λk=>nD (s.2.2.getD k 0)) (n:=1) (i:=i) (e:=el) h1 (by omega) λk hk=>by
  rw[h2 k];exact uU (bZ (DY hf hs e k hk))
 rw[this];simp only[comp,ϩ];rfl
theorem q_ {sz kn:List _} (hz:sz∈szs) (hk:Kn sz kn) {f:Arr} (hf:Ok sz f) (hs:Ok sz s) (a:Nat) (o m:Option Slt) :
  ∃m',mD (rC kn a o (sh (ah f)) (sh (ah s)) m)=.val (.nx (rC (gx kn f s) a o (sh (ah f)) (sh (ah s)) m')):=by
 have few:=Kn.few hz hk;unfold gx;by_cases e:f.2.1=s.1
 ·rw[if_pos e];have hc:=vn hz hf hs e (src:=fIt (bin fix (vb 5) (kd (.int 2)))) (el:=bin fix (bin fix (vb 6) (kd (.int 2))) (vb 8)) (i:=8) (U:=rC kn a o (sh (ah f)) (sh (ah s)) m) (by simp[rC]) (λk=>by simp[rC]);refine⟨sh (ah (comp f s)),?_⟩;have ht:tst (bin feq (bin fix (vb 5) (kd (.int 1))) (bin fix (vb 6) (kd (.int 0)))) (rC kn a o (sh (ah f)) (sh (ah s)) m)=.val true:=by
   unfold rC;simp[e]
  have hv:eT (aC (bin fix (vb 5) (kd (.int 0))) (aC (bin fix (vb 6) (kd (.int 1))) (aC (una gH (eLs (av (fIt (bin fix (vb 5) (kd (.int 2)))) 1 (tgN 8) tT (bin fix (bin fix (vb 6) (kd (.int 2))) (vb 8))))) aN))) (rC kn a o (sh (ah f)) (sh (ah s)) m)=.val (ah (comp f s)):=by
   simp only[jh,aZ,bG,aP,hc];unfold rC;simp;rfl
  show DL.iff _ _ _ _=_;rw[aR,ht,aa,if_pos rfl,ar,dn,hv];show DL.iff _ _ _ (rC kn a o (sh (ah f)) (sh (ah s)) (sh (ah (comp f s))))=_;unfold m7;rw[aR,BF (kvs:=met kn) _ rfl (kd:=ah (comp f s)) rfl (fv _),uN];by_cases hin:comp f s∈kn
  ·rw[if_pos hin,decide_eq_true hin];rfl
  ·rw[if_neg hin,decide_eq_false hin];show sq _ _ _=_;rw[ar,vg (kvs:=met kn) _ rfl (kd:=ah (comp f s)) rfl (d:=.bl true) rfl (fv _) (by unfold met;rw[ϋ];omega),uM hin];rw[aa];dsimp only;rw[iT (xs:=kn.map ah) _ rfl (d:=ah (comp f s)) rfl (by rw[ϋ];omega)];unfold rC;rw[Ϭ];rfl
 ·rw[if_neg e];refine⟨m,?_⟩;have e':¬ ((f.2.1:Int)=(s.1:Int)):=by omega
  unfold rC;simp[e']
abbrev wS:Rho->R (List D):=fIt (eL (aC (eT (aC (bin fix (vb 0) (vb 3)) (aC (vr 4) aN))) (aC (eT (aC (vr 4) (aC (bin fix (vb 0) (vb 3)) aN))) aN)))
theorem Bh {sz kn:List _} (hz:sz∈szs) (hk:Kn sz kn) {a:Nat} {k o:Arr} (ha:kn[a]?=some k) (ho:Ok sz o) (f s m:Option Slt) :
  ∃f' s' m',aE wS (tg2 5 6) mD (rC kn a (sh (ah o)) f s m)=.val (.nx (rC (jE k kn o) a (sh (ah o)) f' s' m')):=by
 have hkk:Ok sz k:=hk.ok k (Η ha);have hx:fix (.lst (kn.map ah)) (.int (a:Int))=.val (ah k):=gK (by rw[ϥ,ha];rfl);have hs:wS (rC kn a (sh (ah o)) f s m)=.val [.tup [ah k,ah o],.tup [ah o,ah k]]:=by
  unfold rC;simp[hx]
 obtain⟨m1,e1⟩:=q_ hz hk hkk ho a (sh (ah o)) m;obtain⟨m2,e2⟩:=q_ hz (lw hk hkk ho) ho hkk a (sh (ah o)) m1;refine⟨sh (ah o),sh (ah k),m2,?_⟩;rw[bK,hs,aa];unfold aX;show(mD (rC kn a (sh (ah o)) (sh (ah k)) (sh (ah o)) m)).bind _=_;rw[e1,aa];dsimp only;unfold aX;show(mD (rC (gx kn k o) a (sh (ah o)) (sh (ah o)) (sh (ah k)) m1)).bind _=_;rw[e2,aa];rfl
theorem uY {sz:List Nat} (hz:sz∈szs) {a:Nat} {k:Arr}:∀(snap:List Arr) {kn:List Arr} (hk:Kn sz kn) (ha:kn[a]?=some k) (hs:∀o∈snap,Ok sz o) (o f s m:Option Slt),
  ∃o' f' s' m',aX (tgN 4) (aE wS (tg2 5 6) mD) (snap.map ah) (rC kn a o f s m)=.val (.nx (rC (oJ k kn snap) a o' f' s' m'))
 | [],kn,hk,ha,hs,o,f,s,m=>⟨o,f,s,m,rfl⟩
 | q::r,kn,hk,ha,hs,o,f,s,m=>by
  have hq:=hs q (by simp);have hkk:Ok sz k:=hk.ok k (Η ha);obtain⟨f1,s1,m1,e1⟩:=Bh hz hk ha hq f s m;obtain⟨o2,f2,s2,m2,e2⟩:=uY hz r (ub hk hkk hq) (uA (qa k kn q) ha) (λx hx=>hs x (by simp[hx])) (sh (ah q)) f1 s1 m1;refine⟨o2,f2,s2,m2,?_⟩;rw[Ϯ];unfold aX;show(aE wS (tg2 5 6) mD (rC kn a (sh (ah q)) f s m)).bind _=_;rw[e1,aa];exact e2
abbrev zo:Rho->R Out:=sq (aE (fIt (eLs (fIt (vb 0)))) (tgN 4) (aE wS (tg2 5 6) mD)) (asg 3 (bin bA (vb 3) (kd (.int 1))))
abbrev ze:Rho->R Bool:=tst (bin (iI flt) (vb 3) (una aj (vb 0)))
theorem yS {sz:List Nat} (hz:sz∈szs) {a:Nat} {k:Arr} (hk:Kn sz kn) (ha:kn[a]?=some k) (o f s m:Option Slt) :
  ∃o' f' s' m',zo (rC kn a o f s m)=.val (.nx (rC (oJ k kn kn) (a+1) o' f' s' m')):=by
 obtain⟨o',f',s',m',e⟩:=uY hz kn hk ha hk.ok o f s m;refine⟨o',f',s',m',?_⟩;show sq _ _ _=_;rw[ar,bK];have:fIt (eLs (fIt (vb 0))) (rC kn a o f s m)=.val (kn.map ah):=by unfold rC;simp
 rw[this,aa,e,aa];show asg 3 _ _=_;unfold rC;simp
theorem qX {sz:List Nat} (hz:sz∈szs):∀(n a:Nat) (kn:List Arr) (o f s m:Option Slt),Kn sz kn->Cl kn a->a<=kn.length->28<=n+a ->
  ∃kn' a' o' f' s' m',whD ze zo n (rC kn a o f s m)=.val (.nx (rC kn' a' o' f' s' m'))/\Kn sz kn'/\kn <+: kn'/\Cl kn' kn'.length
 | 0,a,kn,o,f,s,m,hk,hc,hl,hn=>by have:=Kn.few hz hk;omega
 | n+1,a,kn,o,f,s,m,hk,hc,hl,hn=>by
  have hcond:ze (rC kn a o f s m)=.val (decide (a<kn.length)):=by
   unfold rC;simp
  unfold whD;rw[hcond,aa];by_cases h:a<kn.length
  ·rw[decide_eq_true h,if_pos rfl];have ha:kn[a]?=some kn[a]:=by simp[h]
   obtain⟨o',f',s',m',e⟩:=yS hz hk ha o f s m;have hkk:Ok sz kn[a]:=hk.ok _ (Ϙ h);have pre:=gA kn[a] kn kn;obtain⟨kn',a',o2,f2,s2,m2,e2,g1,g2,g3⟩:=qX hz n (a+1) (oJ kn[a] kn kn) o' f' s' m' (uH hkk hk hk.ok) (Aq hc ha) (ϣ h pre.length_le) (by omega);rw[e,aa];exact⟨kn',a',o2,f2,s2,m2,e2,g1,pre.trans g2,g3⟩
  ·rw[decide_eq_false h];have:a=kn.length:=by omega
   subst this;exact⟨kn,kn.length,o,f,s,m,rfl,hk,θ _,hc⟩
theorem wb {sz kn:List _} (hz:sz∈szs) (hk:Kn sz kn):∃kn',bX (kn.map ah)=.val (.lst (kn'.map ah))/\Kn sz kn'/\kn <+: kn'/\∀x∈kn',∀y∈kn',x.2.1=y.1->comp x y∈kn':=by
 have few:=Kn.few hz hk;obtain⟨kn',a',o',f',s',m',e,g1,g2,g3⟩:=qX hz 30 0 kn none none none none hk (λi j x y hi=>absurd hi (Nat.not_lt_zero _)) (Ρ _) (by omega);refine⟨kn',?_,g1,g2,E3 g3⟩;have hm:qH (kn.map ah) []=some (met kn):=uO kn [] (by simpa using hk.nd) (by simp;omega);have h0:jP 0 2 1 [some (.own (kn.map ah)),some (.dic []),none,none,none,none,none,none]=.val (.nx [some (.own (kn.map ah)),some (.dic (met kn)),none,none,none,none,none,none]):=by
  show(match qH (kn.map ah) []with|some kvs'=>_|none=>_)=_;rw[hm];rfl
 simp only[bX,gW];show fin (sq (we 1) _ [some (.own (kn.map ah)),none,none,none,none,none,none,none])=_;rw[ar,vh,aa];show fin (sq (jP 0 2 1) _ [some (.own (kn.map ah)),some (.dic []),none,none,none,none,none,none])=_;rw[ar,h0,aa];show fin (sq (asg 3 (kd (.int 0))) _ [some (.own (kn.map ah)),some (.dic (met kn)),none,none,none,none,none,none])=_;rw[ar,dn,c_,aa,aa];show fin (sq (whD ze zo 30) _ (rC kn 0 none none none none))=_;rw[ar,e,aa];rfl
theorem z9 (n:Nat):rng 0 n=(List.range n).map nD:=by
 unfold rng;apply Ϧ;intro k _;simp[nD]
theorem uq (h:n<=100000):rgT [.int (n:Int)]=.val (.tup ((List.range n).map nD)):=by
 have:-(2 ^ 62)<=(n:Int)/\(n:Int)<=100000:=by constructor<;>omega
 unfold rgT;dsimp only;rw[if_pos this,Α,z9]
theorem yB (x:Arr) (kn:List Arr):jQ true (ah x) (.lst (kn.map ah))=.val (.bl (!decide (x∈kn))):=by
 have h1:eqb 8 (ah x)=true:=dz (h9 x);have h2:(kn.map ah).all (eqb 8)=true:=by
  rw[ύ];intro y hy;obtain⟨a,_,rfl⟩:=ϱ.mp hy;exact dz (h9 a)
 unfold jQ;dsimp only;rw[if_pos ⟨h1,h2⟩];have:((kn.map ah).any λy=>pyq 8 y (ah x))=decide (x∈kn):=by
  rw[List.any_map];by_cases h:x∈kn
  ·rw[decide_eq_true h,List.any_eq_true];exact⟨x,h,(hZ 8 (h9 x) (h9 x)).mpr rfl⟩
  ·rw[decide_eq_false h,List.any_eq_false];intro y hy e;exact h (arrD_inj.mp ((hZ 8 (h9 y) (h9 x)).mp e)▸hy)
 rw[this];rfl
theorem vD:∀sz∈szs,∀a,a<sz.length->∀b,b<sz.length->sz.getD a 0=3->sz.getD b 0=3:=by decide +kernel
theorem ii {sz:List Nat} (h:i<sz.length):fix (ac sz) (.int (i:Int))=.val (.int ((sz.getD i 0:Nat):Int)):=aY h
theorem Eg {sz:List Nat} (h:b<sz.length):Ok sz (idm sz b):=by
 refine⟨sz[b],sz[b],by simp[idm,h],by simp[idm,h],?_,λy hy=>?_⟩
 ·simp[idm,h]
 ·simp[idm,h]at hy;exact hy
theorem Ef (sz:List Nat):Kn sz ((List.range sz.length).map (idm sz)):=by
 refine⟨?_,λx hx=>?_⟩
 ·unfold List.Nodup;rw[List.pairwise_map];exact List.nodup_range.imp λ{a b} h e=>h (by simpa[idm]using congrArg (·.1) e)
 ·obtain⟨b,hb,rfl⟩:=ϱ.mp hx;exact Eg (ό.mp hb)
def rA (ns:List Int) (k:Nat) (sz:List Nat) (known:Slt) (st:Int) (a5 a6 a7 a8 a9 a10 a11:Option Slt):Rho:=[sh (.scr ns),sh (nD k),sh (ac sz),some known,sh (.int st),a5,a6,a7,a8,a9,a10,a11]
variable {o:Nat} {known:Slt} {st s1:Int} {a5 a10 a11 a9 a6 a7 a8:Option Slt}
section
variable {ns:List Int} {k:Nat} {sz:List Nat}
abbrev xg:Rho->R Out:=sq (asg 4 (cal 1 ay (aC (vr 4) aN)))
 (DL.iff (tst (bin feq (bin fix (vb 2) (vb 6)) (kd (.int 3))))
 (ins 8 (bin (iI aA) (bin (iI bT) (vb 4) (kd (.int 64))) (bin bA (vb 9) (kd (.int 1)))) (vr 9))
 (app 8 (bin (iI aA) (bin (iI bT) (vb 4) (kd (.int 64))) (y_ (aC (kd (.int 1)) (aC (bin fix (vb 2) (vb 7)) aN))))))
def bnd (s1 s2:Nat):Nat:=if s1=3 then 3 else max 1 s2
theorem d64 (i:Int):bT i 64=.val (.int (i/64)):=o9 (by decide)
theorem Bm {o1 o2 x:Nat} {l:List Nat} (h1:o1<sz.length) (h2:o2<sz.length) (hx:x<sz.getD o1 0) (hl:l.length=x) (hx3:sz.getD o1 0<=3) (hb:∀y∈l,y<bnd (sz.getD o1 0) (sz.getD o2 0)) :
  ∃(st':Int) (l':List Nat),xg (rA ns k sz known st a5 (sh (nD o1)) (sh (nD o2)) (some (.own (l.map nD))) (sh (nD x)) a10 a11)=.val (.nx (rA ns k sz known st' a5 (sh (nD o1)) (sh (nD o2)) (some (.own (l'.map nD))) (sh (nD x)) a10 a11))/\l'.length=x+1/\∀y∈l',y<bnd (sz.getD o1 0) (sz.getD o2 0):=by
 obtain⟨st',hst⟩:=je st;have f1:=ii (sz:=sz) h1;have f2:=ii (sz:=sz) h2;have hA:asg 4 (cal 1 ay (aC (vr 4) aN)) (rA ns k sz known st a5 (sh (nD o1)) (sh (nD o2)) (some (.own (l.map nD))) (sh (nD x)) a10 a11)=.val (.nx (rA ns k sz known st' a5 (sh (nD o1)) (sh (nD o2)) (some (.own (l.map nD))) (sh (nD x)) a10 a11)):=by
  unfold rA;simp[hst]
 have hT:tst (bin feq (bin fix (vb 2) (vb 6)) (kd (.int 3))) (rA ns k sz known st' a5 (sh (nD o1)) (sh (nD o2)) (some (.own (l.map nD))) (sh (nD x)) a10 a11)=.val (decide (((sz.getD o1 0:Nat):Int)=3)):=by
  unfold rA;simp[-List.getD_eq_getElem?_getD,f1]
 show ∃(st':Int) (l':List Nat),sq _ _ _=_/\_;rw[ar,hA,aa];dsimp only;rw[aR,hT,aa];by_cases e3:sz.getD o1 0=3
 ·rw[if_pos (by simp[-List.getD_eq_getElem?_getD,e3])];have hm:aA (st'/64) ((x:Int)+1)=.val (.int (st'/64%((x:Int)+1))):=cx (by omega);have p0:0<=st'/64%((x:Int)+1):=ω _ (by omega);have p1:st'/64%((x:Int)+1)<(x:Int)+1:=ο _ (by omega);obtain⟨p,hp⟩:∃p:Nat,st'/64%((x:Int)+1)=(p:Int):=⟨_,(Δ p0).symm⟩;refine⟨st',l.take p++x::l.drop p,?_,?_,λy hy=>?_⟩
  ·rw[yj (xs:=l.map nD) (n:=p) (d:=nD x) _ rfl (by unfold rA;simp[d64,hm,hp]) rfl (by rw[ϋ];omega) (by rw[ϋ];omega)];unfold rA;simp
  ·rw[Ϝ,ϫ,Θ,List.length_drop];omega
  ·unfold bnd;rw[if_pos e3];rcases Ϩ.mp hy with q|q
   ·have:=hb y (List.mem_of_mem_take q);unfold bnd at this;rw[if_pos e3]at this;exact this
   ·rcases Ϣ.mp q with q|q
    ·rw[q];omega
    ·have:=hb y (List.mem_of_mem_drop q);unfold bnd at this;rw[if_pos e3]at this;exact this
 ·have e3':¬ (((sz.getD o1 0:Nat):Int)=3):=by omega
  rw[if_neg (by simp[-List.getD_eq_getElem?_getD];exact e3')];have hmx:(if((sz.getD o2 0:Nat):Int)>1 then((sz.getD o2 0:Nat):Int)else 1)=((max 1 (sz.getD o2 0):Nat):Int):=by
   split<;>omega
  have hm:aA (st'/64) ((max 1 (sz.getD o2 0):Nat):Int)=.val (.int (st'/64%((max 1 (sz.getD o2 0):Nat):Int))):=cx (by omega);have p0:0<=st'/64%((max 1 (sz.getD o2 0):Nat):Int):=ω _ (by omega);have p1:st'/64%((max 1 (sz.getD o2 0):Nat):Int)<((max 1 (sz.getD o2 0):Nat):Int):=ο _ (by omega);obtain⟨p,hp⟩:∃p:Nat,st'/64%((max 1 (sz.getD o2 0):Nat):Int)=(p:Int):=⟨_,(Δ p0).symm⟩;refine⟨st',l++[p],?_,by rw[Ϝ,hl];rfl,λy hy=>?_⟩
  ·rw[iT (xs:=l.map nD) (d:=nD p) _ rfl (by unfold rA;simp only[aF,bG,B3,c_,aa,BE,aZ,iJ,gG,Β,π,f2,A9,d64];rw[hmx,hm,hp]) (by rw[ϋ];omega)];unfold rA;simp
  ·rcases Ϩ.mp hy with q|q
   ·exact hb y q
   ·rw[ϓ.mp q];unfold bnd;rw[if_neg e3];omega
theorem Bk {o1 o2:Nat} (h1:o1<sz.length) (h2:o2<sz.length) (hx3:sz.getD o1 0<=3) :
  ∃(st':Int) (l:List Nat) (a9':Option Slt),aX (tgN 9) xg (rng 0 (sz.getD o1 0)) (rA ns k sz known st a5 (sh (nD o1)) (sh (nD o2)) (some (.own [])) a9 a10 a11)=.val (.nx (rA ns k sz known st' a5 (sh (nD o1)) (sh (nD o2)) (some (.own (l.map nD))) a9' a10 a11))/\l.length=sz.getD o1 0/\∀y∈l,y<bnd (sz.getD o1 0) (sz.getD o2 0):=by
 obtain⟨ρ',e,st',l,a9',rfl,g1,g2⟩:=dE (i:=9) (n:=sz.getD o1 0) (F:=xg) (U:=rA ns k sz known st a5 (sh (nD o1)) (sh (nD o2)) (some (.own [])) a9 a10 a11) (λx U=>∃(st:Int) (l:List Nat) (a9:Option Slt),U=rA ns k sz known st a5 (sh (nD o1)) (sh (nD o2)) (some (.own (l.map nD))) a9 a10 a11/\l.length=x/\∀y∈l,y<bnd (sz.getD o1 0) (sz.getD o2 0)) (λx U hx hI=>by
  obtain⟨st,l,a9,rfl,hl,hb⟩:=hI;obtain⟨st',l',e,g1,g2⟩:=Bm (ns:=ns) (k:=k) (known:=known) (st:=st) (a5:=a5) (a10:=a10) (a11:=a11) h1 h2 hx hl hx3 hb;exact⟨_,e,st',l',_,rfl,g1,g2⟩) ⟨st,[],a9,rfl,rfl,λy hy=>by cases hy⟩
 exact⟨st',l,a9',e,g1,g2⟩
abbrev rD:Rho->R Out:=sq (asg 4 (cal 1 ay (aC (vr 4) aN)))
 (sq (asg 6 (bin (iI aA) (bin (iI bT) (vb 4) (kd (.int 64))) (una aj (vb 2))))
 (sq (asg 4 (cal 1 ay (aC (vr 4) aN)))
 (sq (asg 7 (bin (iI aA) (bin (iI bT) (vb 4) (kd (.int 64))) (una aj (vb 2))))
 (sq (own 8 (iQ aN))
 (sq (aE (aK (aC (bin fix (vb 2) (vb 6)) aN)) (tgN 9) xg)
 (DL.iff (orB (tst (bin feq (bin fix (vb 2) (vb 6)) (kd (.int 0)))) (tst (bin (iI fgt) (bin fix (vb 2) (vb 7)) (kd (.int 0)))))
 (DL.iff (tst (bin (jQ true) (eT (aC (vr 6) (aC (vr 7) (aC (una gH (vb 8)) aN)))) (vb 3)))
 (app 3 (eT (aC (vr 6) (aC (vr 7) (aC (una gH (vb 8)) aN)))))
 nxt)
 nxt))))))
theorem yD:aj (ac sz)=.val (.int ((sz.length:Nat):Int)):=by
 show R.val (D.int (((sz.map nD).length:Nat):Int))=_;rw[ϋ]
theorem xW (h:ay [.int st]=.val (.int s1)):asg 4 (cal 1 ay (aC (vr 4) aN)) (rA ns k sz known st a5 a6 a7 a8 a9 a10 a11)=.val (.nx (rA ns k sz known s1 a5 a6 a7 a8 a9 a10 a11)):=by
 rw[dn,zm];show R.bind (noex (ay [.int st])) _=_;rw[h];rfl
theorem xF (q:aA (s1/64) (sz.length:Int)=.val (.int (o:Int))):bin (iI aA) (bin (iI bT) (vb 4) (kd (.int 64))) (una aj (vb 2)) (rA ns k sz known s1 a5 a6 a7 a8 a9 a10 a11)=.val (nD o):=by
 rw[aF,aF];show R.bind (bT s1 64) _=_;rw[d64,aa,bG];show R.bind (R.bind (.val (ac sz)) aj) _=_;rw[aa,yD];exact q
theorem Ai (q:aA (s1/64) (sz.length:Int)=.val (.int (o:Int))):asg 6 (bin (iI aA) (bin (iI bT) (vb 4) (kd (.int 64))) (una aj (vb 2))) (rA ns k sz known s1 a5 a6 a7 a8 a9 a10 a11)=.val (.nx (rA ns k sz known s1 a5 (sh (nD o)) a7 a8 a9 a10 a11)):=by
 rw[dn,xF q];rfl
theorem Ah (q:aA (s1/64) (sz.length:Int)=.val (.int (o:Int))):asg 7 (bin (iI aA) (bin (iI bT) (vb 4) (kd (.int 64))) (una aj (vb 2))) (rA ns k sz known s1 a5 a6 a7 a8 a9 a10 a11)=.val (.nx (rA ns k sz known s1 a5 a6 (sh (nD o)) a8 a9 a10 a11)):=by
 rw[dn,xF q];rfl
theorem pick (st:Int) (h:1<=n):∃p:Nat,p<n/\aA (st/64) (n:Int)=.val (.int (p:Int)):=by
 have hm:aA (st/64) (n:Int)=.val (.int (st/64%(n:Int))):=cx (by omega);have p0:0<=st/64%(n:Int):=ω _ (by omega);have p1:st/64%(n:Int)<(n:Int):=ο _ (by omega);refine⟨(st/64%(n:Int)).toNat,by omega,?_⟩;rw[hm,Δ p0]
theorem yT (hz:sz∈szs) (hk:Kn sz kn) (st:Int) (a5 a6 a7 a8 a9 a10 a11:Option Slt) :
  ∃(kn':List Arr) (st':Int) (b6 b7 b8 b9:Option Slt),rD (rA ns k sz (.own (kn.map ah)) st a5 a6 a7 a8 a9 a10 a11)=.val (.nx (rA ns k sz (.own (kn'.map ah)) st' a5 b6 b7 b8 b9 a10 a11))/\Kn sz kn'/\kn <+: kn':=by
 obtain⟨l1,l4,l3⟩:=fN sz hz;have few:=Kn.few hz hk;obtain⟨s1,hs1⟩:=je st;obtain⟨o1,ho1,q1⟩:=pick s1 l1;obtain⟨s2,hs2⟩:=je s1;obtain⟨o2,ho2,q2⟩:=pick s2 l1;have g3:sz.getD o1 0<=3:=by rw[ai ho1];exact l3 _ (Ϙ ho1)
 obtain⟨s3,l,a9',e,hl,hb⟩:=Bk (ns:=ns) (k:=k) (sz:=sz) (known:=.own (kn.map ah)) (st:=s2) (a5:=a5) (a9:=a9) (a10:=a10) (a11:=a11) ho1 ho2 g3;have f1:=ii (sz:=sz) ho1;have f2:=ii (sz:=sz) ho2;have hr:mI [.int ((sz.getD o1 0:Nat):Int)]=.val (rng 0 (sz.getD o1 0)):=cN (by omega);have start:rD (rA ns k sz (.own (kn.map ah)) st a5 a6 a7 a8 a9 a10 a11)=DL.iff (orB (tst (bin feq (bin fix (vb 2) (vb 6)) (kd (.int 0)))) (tst (bin (iI fgt) (bin fix (vb 2) (vb 7)) (kd (.int 0)))))
   (DL.iff (tst (bin (jQ true) (eT (aC (vr 6) (aC (vr 7) (aC (una gH (vb 8)) aN)))) (vb 3)))
   (app 3 (eT (aC (vr 6) (aC (vr 7) (aC (una gH (vb 8)) aN))))) nxt) nxt (rA ns k sz (.own (kn.map ah)) s3 a5 (sh (nD o1)) (sh (nD o2)) (some (.own (l.map nD))) a9' a10 a11):=by
  have x1:asg 4 (cal 1 ay (aC (vr 4) aN)) (rA ns k sz (.own (kn.map ah)) st a5 a6 a7 a8 a9 a10 a11)=.val (.nx (rA ns k sz (.own (kn.map ah)) s1 a5 a6 a7 a8 a9 a10 a11)):=xW hs1;have x2:asg 6 (bin (iI aA) (bin (iI bT) (vb 4) (kd (.int 64))) (una aj (vb 2))) (rA ns k sz (.own (kn.map ah)) s1 a5 a6 a7 a8 a9 a10 a11)=.val (.nx (rA ns k sz (.own (kn.map ah)) s1 a5 (sh (nD o1)) a7 a8 a9 a10 a11)):=Ai q1;have x3:asg 4 (cal 1 ay (aC (vr 4) aN)) (rA ns k sz (.own (kn.map ah)) s1 a5 (sh (nD o1)) a7 a8 a9 a10 a11)=.val (.nx (rA ns k sz (.own (kn.map ah)) s2 a5 (sh (nD o1)) a7 a8 a9 a10 a11)):=xW hs2;have x4:asg 7 (bin (iI aA) (bin (iI bT) (vb 4) (kd (.int 64))) (una aj (vb 2))) (rA ns k sz (.own (kn.map ah)) s2 a5 (sh (nD o1)) a7 a8 a9 a10 a11)=.val (.nx (rA ns k sz (.own (kn.map ah)) s2 a5 (sh (nD o1)) (sh (nD o2)) a8 a9 a10 a11)):=Ah q2;have x5:own 8 (iQ aN) (rA ns k sz (.own (kn.map ah)) s2 a5 (sh (nD o1)) (sh (nD o2)) a8 a9 a10 a11)=.val (.nx (rA ns k sz (.own (kn.map ah)) s2 a5 (sh (nD o1)) (sh (nD o2)) (some (.own [])) a9 a10 a11)):=ϕ rfl rfl;have x6:aE (aK (aC (bin fix (vb 2) (vb 6)) aN)) (tgN 9) xg (rA ns k sz (.own (kn.map ah)) s2 a5 (sh (nD o1)) (sh (nD o2)) (some (.own [])) a9 a10 a11)=.val (.nx (rA ns k sz (.own (kn.map ah)) s3 a5 (sh (nD o1)) (sh (nD o2)) (some (.own (l.map nD))) a9' a10 a11)):=by
   rw[bK];have:aK (aC (bin fix (vb 2) (vb 6)) aN) (rA ns k sz (.own (kn.map ah)) s2 a5 (sh (nD o1)) (sh (nD o2)) (some (.own [])) a9 a10 a11)=.val (rng 0 (sz.getD o1 0)):=by unfold rA;simp[-List.getD_eq_getElem?_getD,f1,hr]
   rw[this,aa,e]
  show sq _ _ _=_;rw[ar,x1,aa];dsimp only;rw[ar,x2,aa];dsimp only;rw[ar,x3,aa];dsimp only;rw[ar,x4,aa];dsimp only;rw[ar,x5,aa];dsimp only;rw[ar,x6,aa]
 rw[start];have hT:orB (tst (bin feq (bin fix (vb 2) (vb 6)) (kd (.int 0)))) (tst (bin (iI fgt) (bin fix (vb 2) (vb 7)) (kd (.int 0)))) (rA ns k sz (.own (kn.map ah)) s3 a5 (sh (nD o1)) (sh (nD o2)) (some (.own (l.map nD))) a9' a10 a11)=.val (decide (sz.getD o1 0=0\/0<sz.getD o2 0)):=by
  unfold rA;by_cases z:sz.getD o1 0=0
  ·simp[-List.getD_eq_getElem?_getD,f1,z]
  ·have z':¬ (((sz.getD o1 0:Nat):Int)=0):=by omega
   simp[-List.getD_eq_getElem?_getD,f1,f2,z,z']
 rw[aR,hT,aa];by_cases hc:sz.getD o1 0=0\/0<sz.getD o2 0
 ·rw[decide_eq_true hc,if_pos rfl];have hok:Ok sz (o1,o2,l):=by
   refine⟨sz.getD o1 0,sz.getD o2 0,by rw[ai ho1];simp[ho1],by rw[ai ho2];simp[ho2],hl,λy hy=>?_⟩;have:=hb y hy;unfold bnd at this;have hy0:sz.getD o1 0≠0:=λz=>by
    rw[z]at hl;have:l=[]:=List.length_eq_zero_iff.mp hl;rw[this]at hy;cases hy
   split at this
   ·rename_i e3;have:=vD sz hz o1 ho1 o2 ho2 e3;omega
   ·rcases hc with hc|hc
    ·exact absurd hc hy0
    ·have:max 1 (sz.getD o2 0)=sz.getD o2 0:=by omega
     omega
  have hv:eT (aC (vr 6) (aC (vr 7) (aC (una gH (vb 8)) aN))) (rA ns k sz (.own (kn.map ah)) s3 a5 (sh (nD o1)) (sh (nD o2)) (some (.own (l.map nD))) a9' a10 a11)=.val (ah (o1,o2,l)):=by
   unfold rA;simp;rfl
  have hn:tst (bin (jQ true) (eT (aC (vr 6) (aC (vr 7) (aC (una gH (vb 8)) aN)))) (vb 3)) (rA ns k sz (.own (kn.map ah)) s3 a5 (sh (nD o1)) (sh (nD o2)) (some (.own (l.map nD))) a9' a10 a11)=.val (!decide ((o1,o2,l)∈kn)):=by
   rw[bn,aF,hv,aa];show((R.val (D.lst (kn.map ah))).bind λy=>jQ true (ah (o1,o2,l)) y).bind asB=_;rw[aa,yB];rfl
  rw[aR,hn,aa];refine⟨m7 kn (o1,o2,l),s3,sh (nD o1),sh (nD o2),some (.own (l.map nD)),a9',?_,vv hk hok,rH _ _⟩;unfold m7;by_cases hin:(o1,o2,l)∈kn
  ·rw[if_pos hin,decide_eq_true hin];rfl
  ·rw[if_neg hin,decide_eq_false hin];rw[if_pos (show(!false)=true from rfl)];rw[iT (xs:=kn.map ah) _ rfl hv (by rw[ϋ];omega)];unfold rA;rw[Ϭ];rfl
 ·rw[decide_eq_false hc];exact⟨kn,s3,_,_,_,_,rfl,hk,θ _⟩
end
section
variable {ns:List Int} {k:Nat} {sz:List Nat}
theorem Ex (hz:sz∈szs) (a3 a4 a5 a6 a7 a8 a9 a10 a11:Option Slt):av (aK (aC (una aj (vb 2)) aN)) 1 (tgN 12) tT (eT (aC (vr 12) (aC (vr 12) (aC (fY (aC (bin fix (vb 2) (vb 12)) aN)) aN)))) [sh (.scr ns),sh (nD k),sh (ac sz),a3,a4,a5,a6,a7,a8,a9,a10,a11]=.val (((List.range sz.length).map (idm sz)).map ah):=by
 obtain⟨l1,l4,l3⟩:=fN sz hz;have:=jd (src:=aK (aC (una aj (vb 2)) aN)) (m:=sz.length) (n:=1) (i:=12) (e:=eT (aC (vr 12) (aC (vr 12) (aC (fY (aC (bin fix (vb 2) (vb 12)) aN)) aN)))) (g:=λb=>ah (idm sz b)) (U:=[sh (.scr ns),sh (nD k),sh (ac sz),a3,a4,a5,a6,a7,a8,a9,a10,a11]) (by simp;exact cN (by omega)) (by omega) λb hb=>by
  have f1:=ii (sz:=sz) hb;have hs:sz.getD b 0<=3:=by rw[ai hb];exact l3 _ (Ϙ hb)
  have:=uq (n:=sz.getD b 0) (by omega);simp[-List.getD_eq_getElem?_getD,f1,this];rfl
 rw[this,ϩ];rfl
theorem xH {mx:List Arr} {x:Arr} {l:List Arr} (p:Nat) (h:mx.Perm l):(mx.take p++x::mx.drop p).Perm (l++[x]):=by
 have h1:(mx.take p++x::mx.drop p).Perm (x::(mx.take p++mx.drop p)):=List.perm_middle;rw[List.take_append_drop]at h1;exact h1.trans ((h.cons x).trans (List.perm_append_singleton x l).symm)
abbrev AL:Rho->R Out:=sq (asg 4 (cal 1 ay (aC (vr 4) aN)))
 (ins 10 (bin (iI aA) (bin (iI bT) (vb 4) (kd (.int 64))) (bin bA (una aj (vb 10)) (kd (.int 1)))) (vr 11))
theorem Bo {mx:List Arr} {x:Arr} (hl:mx.length<=27) (a5 a6 a7 a8 a9:Option Slt) :
  ∃(st':Int) (p:Nat),AL (rA ns k sz known st a5 a6 a7 a8 a9 (some (.own (mx.map ah))) (sh (ah x)))=.val (.nx (rA ns k sz known st' a5 a6 a7 a8 a9 (some (.own ((mx.take p++x::mx.drop p).map ah))) (sh (ah x)))):=by
 obtain⟨s1,hs1⟩:=je st;obtain⟨p,hp,q⟩:=pick s1 (n:=mx.length+1) (by omega);have q':aA (s1/64) ((mx.length:Int)+1)=.val (.int (p:Int)):=q;refine⟨s1,p,?_⟩;have x1:asg 4 (cal 1 ay (aC (vr 4) aN)) (rA ns k sz known st a5 a6 a7 a8 a9 (some (.own (mx.map ah))) (sh (ah x)))=.val (.nx (rA ns k sz known s1 a5 a6 a7 a8 a9 (some (.own (mx.map ah))) (sh (ah x)))):=by unfold rA;simp[hs1]
 show sq _ _ _=_;rw[ar,x1,aa];dsimp only;rw[yj (xs:=mx.map ah) (n:=p) (d:=ah x) _ rfl (by unfold rA;simp[d64,q']) rfl (by rw[ϋ];omega) (by rw[ϋ];omega)];unfold rA;simp
theorem wc (hz:sz∈szs) (ns:List Int) (k:Nat):∃kn,Good sz kn/\bW [.scr ns,.int (k:Int),ac sz]=.val (.lst (kn.map ah)):=by
 obtain⟨l1,l4,l3⟩:=fN sz hz;obtain⟨c1,hc1⟩:=fV ns k;obtain⟨c2,hc2⟩:=fV ns (k+1);obtain⟨s0,hs0⟩:=je (c1*1000003%2147483647+17);have hc2':ag [.scr ns,.int ((k:Int)+1)]=.val (.int c2):=hc2;have m5:aA c2 5=.val (.int (c2%5)):=cx (by decide);have mm:dP c1 1000003=.val (.int (c1*1000003)):=i8 (by decide);have md:aA (c1*1000003) 2147483647=.val (.int (c1*1000003%2147483647)):=cx (by decide);have hr:mI [.int (c2%5)]=.val (rng 0 (c2%5).toNat):=iW (by omega) (by omega)
 let kn0:=(List.range sz.length).map (idm sz)
 have hk0:Kn sz kn0:=Ef sz;obtain⟨U1,e1,kn1,st1,a5,a6,a7,a8,a9,rfl,hk1,hp1⟩:=dE (i:=5) (n:=(c2%5).toNat) (F:=rD) (U:=rA ns k sz (.own (kn0.map ah)) s0 none none none none none none none) (λ_ U=>∃(kn:List Arr) (st:Int) (a5 a6 a7 a8 a9:Option Slt),U=rA ns k sz (.own (kn.map ah)) st a5 a6 a7 a8 a9 none none/\Kn sz kn/\kn0 <+: kn) (λx U hx hI=>by
  obtain⟨kn,st,a5,a6,a7,a8,a9,rfl,hk,hp⟩:=hI;obtain⟨kn',st',b6,b7,b8,b9,e,g1,g2⟩:=yT (ns:=ns) (k:=k) hz hk st (sh (.int (x:Int))) a6 a7 a8 a9 none none;exact⟨_,e,kn',st',_,b6,b7,b8,b9,rfl,g1,hp.trans g2⟩) ⟨kn0,s0,none,none,none,none,none,rfl,hk0,θ _⟩
 obtain⟨kn2,hcl,hk2,hp2,hcl2⟩:=wb hz hk1;have few2:=Kn.few hz hk2;have good:Good sz kn2:=⟨hz,hk2.nd,hk2.ok,λb hb=>hp2.subset (hp1.subset (ϱ.mpr ⟨b,ό.mpr hb,rfl⟩)),hcl2⟩;obtain⟨U3,e3,mx,st3,a11,rfl,hperm⟩:=dR (T:=tgN 11) (F:=AL) (xs:=kn2.map ah) (U:=rA ns k sz (.shr (.lst (kn2.map ah))) st1 a5 a6 a7 a8 a9 (some (.own [])) none) (λi U=>∃(mx:List Arr) (st:Int) (a11:Option Slt),U=rA ns k sz (.shr (.lst (kn2.map ah))) st a5 a6 a7 a8 a9 (some (.own (mx.map ah))) a11/\mx.Perm (kn2.take i)) (λi x U hx hI=>by
  obtain⟨mx,st,a11,rfl,hperm⟩:=hI;have hi:i<kn2.length:=by have:=(ώ.mp hx).1;simpa using this
  have hxe:x=ah kn2[i]:=by
   rw[ϥ]at hx;simp[hi]at hx;exact hx.symm
  subst hxe;have hml:mx.length<=27:=by rw[hperm.length_eq,Θ];omega
  obtain⟨st',p,e⟩:=Bo (ns:=ns) (k:=k) (sz:=sz) (known:=.shr (.lst (kn2.map ah))) (st:=st) (x:=kn2[i]) hml a5 a6 a7 a8 a9;refine⟨_,_,rfl,e,_,st',_,rfl,?_⟩;rw[Φ hi];exact xH p hperm) ⟨[],st1,none,rfl,by simp⟩
 rw[ϋ,List.take_length]at hperm;refine⟨mx,good.perm hperm,?_⟩;simp only[bW,gX];show fin (sq (own 3 _) _ [sh (.scr ns),sh (nD k),sh (ac sz),none,none,none,none,none,none,none,none,none])=_;rw[ar,xO,Ex hz,aa,aa];show fin (sq (asg 4 _) _ [sh (.scr ns),sh (nD k),sh (ac sz),some (.own (kn0.map ah)),none,none,none,none,none,none,none,none])=_;have x1:asg 4 (cal 1 ay (aC (bin bA (bin (iI aA) (bin (iI dP) (cal 2 ag (aC (vr 0) (aC (vr 1) aN))) (kd (.int 1000003))) (kd (.int 2147483647))) (kd (.int 17))) aN)) [sh (.scr ns),sh (nD k),sh (ac sz),some (.own (kn0.map ah)),none,none,none,none,none,none,none,none]=.val (.nx (rA ns k sz (.own (kn0.map ah)) s0 none none none none none none none)):=by
  unfold rA;simp[hc1,mm,md,hs0]
 rw[ar,x1,aa];dsimp only;have x2:aE (aK (aC (bin (iI aA) (cal 2 ag (aC (vr 0) (aC (bin bA (vb 1) (kd (.int 1))) aN))) (kd (.int 5))) aN)) (tgN 5) rD (rA ns k sz (.own (kn0.map ah)) s0 none none none none none none none)=.val (.nx (rA ns k sz (.own (kn1.map ah)) st1 a5 a6 a7 a8 a9 none none)):=by
  rw[bK];have:aK (aC (bin (iI aA) (cal 2 ag (aC (vr 0) (aC (bin bA (vb 1) (kd (.int 1))) aN))) (kd (.int 5))) aN) (rA ns k sz (.own (kn0.map ah)) s0 none none none none none none none)=.val (rng 0 (c2%5).toNat):=by unfold rA;simp[hc2',m5,hr]
  rw[this,aa,e1]
 show fin (sq (aE (aK (aC (bin (iI aA) (cal 2 ag (aC (vr 0) (aC (bin bA (vb 1) (kd (.int 1))) aN))) (kd (.int 5))) aN)) (tgN 5) rD) _ _)=_;rw[ar,x2,aa];dsimp only;have x3:x_ 3 bX (rA ns k sz (.own (kn1.map ah)) st1 a5 a6 a7 a8 a9 none none)=.val (.nx (rA ns k sz (.shr (.lst (kn2.map ah))) st1 a5 a6 a7 a8 a9 none none)):=by
  show(noex (bX (kn1.map ah))).bind _=_;rw[hcl];rfl
 rw[ar,x3,aa];dsimp only;have x4:own 10 (iQ aN) (rA ns k sz (.shr (.lst (kn2.map ah))) st1 a5 a6 a7 a8 a9 none none)=.val (.nx (rA ns k sz (.shr (.lst (kn2.map ah))) st1 a5 a6 a7 a8 a9 (some (.own [])) none)):=by unfold rA;simp
 rw[ar,x4,aa];dsimp only;show fin (sq (aE (fIt (vr 3)) (tgN 11) AL) _ (rA ns k sz (.shr (.lst (kn2.map ah))) st1 a5 a6 a7 a8 a9 (some (.own [])) none))=_;have x5:aE (fIt (vr 3)) (tgN 11) AL (rA ns k sz (.shr (.lst (kn2.map ah))) st1 a5 a6 a7 a8 a9 (some (.own [])) none)=.val (.nx (rA ns k sz (.shr (.lst (kn2.map ah))) st3 a5 a6 a7 a8 a9 (some (.own (mx.map ah))) a11)):=by
  rw[bK];show(R.val (kn2.map ah)).bind _=_;rw[aa,e3]
 rw[ar,x5,aa];rfl
end
def plD:List Arr->Nat->List (KA×D)
 | [],_=>[]
 | x::r,s=>(fw x,nD s)::plD r (s+1)
theorem xC:∀(l:List Arr) (s:Nat),(plD l s).length=l.length
 | [],_=>rfl
 | x::r,s=>by simp[plD,xC r (s+1)]
theorem xE (x:Arr):∀(l:List Arr) (s:Nat),((plD l s).any λp=>decide (p.1=fw x))=decide (x∈l)
 | [],_=>by simp[plD]
 | y::r,s=>by
  show(decide (fw y=fw x)||(plD r (s+1)).any λp=>decide (p.1=fw x))=_;rw[xE x r (s+1)];by_cases h:y=x
  ·subst h;simp
  ·have:¬ fw y=fw x:=λe=>h (lR e);have h':¬ x=y:=λe=>h e.symm;simp[this,h']
theorem xD (x:Arr):∀(l:List Arr) (s:Nat),plD (l++[x]) s=plD l s++[(fw x,nD (s+l.length))]
 | [],s=>rfl
 | y::r,s=>by
  show(fw y,nD s)::plD (r++[x]) (s+1)=_;rw[xD x r (s+1)];have:s+1+r.length=s+(y::r).length:=by simp;omega
  rw[this];rfl
theorem Dy {x:Arr} {l:List Arr} (h:x∉l):lQ (plD l 0) (fw x) (nD l.length)=plD (l++[x]) 0:=by
 unfold lQ;rw[xE,decide_eq_false h,if_neg (by decide),xD,Λ]
theorem sA {x:Arr}:∀{l:List Arr} (s:Nat),x∈l->sR (plD l s) (fw x)=some (nD (s+l.idxOf x))
 | [],_,h=>by cases h
 | y::r,s,h=>by
  unfold sR plD;by_cases e:y=x
  ·subst e;simp
  ·have e':¬ fw y=fw x:=λz=>e (lR z);rw[List.find?_cons_of_neg (by simpa using e')];have hr:x∈r:=by
    rcases Ϣ.mp h with q|q
    ·exact absurd q.symm e
    ·exact q
   have ih:=sA (l:=r) (s+1) hr;unfold sR at ih;rw[ih];have:(y::r).idxOf x=r.idxOf x+1:=by
    rw[List.idxOf_cons];have:(y==x)=false:=by simpa using e
    rw[this];rfl
   rw[this]
   congr 2
   omega
def rP (ns:List Int) (k:Nat) (sz:List Nat) (kn:List Arr) (pl:List (KA×D)) (a5 a6 a7 a8 a9 a10 a11:Option Slt):Rho:=[sh (.scr ns),sh (nD k),sh (ac sz),sh (.lst (kn.map ah)),some (.dic pl),a5,a6,a7,a8,a9,a10,a11]
section
variable {ns:List Int} {k:Nat} {sz:List Nat} {kn:List Arr}
theorem Ep (h:i<kn.length):fix (.lst (kn.map ah)) (.int (i:Int))=.val (ah kn[i]):=gK (by simp[h])
theorem yP (g:Good sz kn) (a6 a7 a8 a9 a10 a11:Option Slt):∃a5,aE (aK (aC (una aj (vb 3)) aN)) (tgN 5) (mj 4 (bin fix (vb 3) (vb 5)) (vr 5)) (rP ns k sz kn [] none a6 a7 a8 a9 a10 a11)=.val (.nx (rP ns k sz kn (plD kn 0) a5 a6 a7 a8 a9 a10 a11)):=by
 have few:=g.few;obtain⟨ρ',e,a5,rfl⟩:=dE (i:=5) (n:=kn.length) (F:=mj 4 (bin fix (vb 3) (vb 5)) (vr 5)) (U:=rP ns k sz kn [] none a6 a7 a8 a9 a10 a11) (λi U=>∃a5,U=rP ns k sz kn (plD (kn.take i) 0) a5 a6 a7 a8 a9 a10 a11) (λi U hi hI=>by
  obtain⟨a5,rfl⟩:=hI;have hx:=Ep hi;have hl:(kn.take i).length=i:=by rw[Θ];omega
  have nin:kn[i]∉kn.take i:=λh=>by
   obtain⟨j,hj,e⟩:=List.mem_take_iff_getElem.mp h;exact(List.pairwise_iff_getElem.mp g.nd) j i (by omega) hi (by omega) e
  refine⟨_,?_,sh (.int (i:Int)),rfl⟩;show mj 4 _ _ (rP ns k sz kn (plD (kn.take i) 0) (sh (.int (i:Int))) a6 a7 a8 a9 a10 a11)=_;rw[vg (kvs:=plD (kn.take i) 0) (kd:=ah kn[i]) (d:=nD i) _ rfl (by unfold rP;simp[hx]) rfl (fv _) (by rw[xC];omega)];have:=Dy nin;rw[hl]at this;rw[this,<- Φ hi];rfl) ⟨none,rfl⟩
 refine⟨a5,?_⟩;rw[bK];have:aK (aC (una aj (vb 3)) aN) (rP ns k sz kn [] none a6 a7 a8 a9 a10 a11)=.val (rng 0 kn.length):=by
  unfold rP;simp;exact cN (by omega)
 rw[this,aa,e,List.take_length]
abbrev EA:Rho->R Out:=sq (asg 10 (una cS (kd (.int 1))))
 (sq (DL.iff (tst (bin feq (bin fix (vb 7) (kd (.int 1))) (bin fix (vb 9) (kd (.int 0)))))
 (asg 10 (mZ 4 (eT (aC (bin fix (vb 7) (kd (.int 0))) (aC (bin fix (vb 9) (kd (.int 1))) (aC (una gH (eLs (av (fIt (bin fix (vb 7) (kd (.int 2)))) 1 (tgN 12) tT (bin fix (bin fix (vb 9) (kd (.int 2))) (vb 12))))) aN))))))
 nxt)
 (app 8 (vr 10)))
theorem Bs (g:Good sz kn) {x y:Arr} (hx:x∈kn) (hy:y∈kn) {row:List D} (hl:row.length<=27) (a5 a6 a10 a11:Option Slt) :
  ∃b10,EA (rP ns k sz kn (plD kn 0) a5 a6 (sh (ah x)) (some (.own row)) (sh (ah y)) a10 a11)=.val (.nx (rP ns k sz kn (plD kn 0) a5 a6 (sh (ah x)) (some (.own (row++[.int (mk kn x y)]))) (sh (ah y)) b10 a11)):=by
 have x1:asg 10 (una cS (kd (.int 1))) (rP ns k sz kn (plD kn 0) a5 a6 (sh (ah x)) (some (.own row)) (sh (ah y)) a10 a11)=.val (.nx (rP ns k sz kn (plD kn 0) a5 a6 (sh (ah x)) (some (.own row)) (sh (ah y)) (sh (.int (-1))) a11)):=by unfold rP;simp
 have last:∀z:Int,app 8 (vr 10) (rP ns k sz kn (plD kn 0) a5 a6 (sh (ah x)) (some (.own row)) (sh (ah y)) (sh (.int z)) a11)=.val (.nx (rP ns k sz kn (plD kn 0) a5 a6 (sh (ah x)) (some (.own (row++[.int z]))) (sh (ah y)) (sh (.int z)) a11)):=λz=>by
  rw[iT (xs:=row) (d:=.int z) _ rfl rfl (by omega)];rfl
 have hT:tst (bin feq (bin fix (vb 7) (kd (.int 1))) (bin fix (vb 9) (kd (.int 0)))) (rP ns k sz kn (plD kn 0) a5 a6 (sh (ah x)) (some (.own row)) (sh (ah y)) (sh (.int (-1))) a11)=.val (decide (x.2.1=y.1)):=by
  unfold rP;simp;omega
 show ∃b10,sq _ _ _=_;rw[ar,x1,aa];dsimp only;rw[ar,aR,hT,aa];unfold mk;by_cases e:x.2.1=y.1
 ·rw[decide_eq_true e,if_pos rfl,if_pos e];have hc:=vn g.szm (g.ok x hx) (g.ok y hy) e (src:=fIt (bin fix (vb 7) (kd (.int 2)))) (el:=bin fix (bin fix (vb 9) (kd (.int 2))) (vb 12)) (i:=12) (U:=rP ns k sz kn (plD kn 0) a5 a6 (sh (ah x)) (some (.own row)) (sh (ah y)) (sh (.int (-1))) a11) (by simp[rP]) (λk=>by simp[rP]);have hv:eT (aC (bin fix (vb 7) (kd (.int 0))) (aC (bin fix (vb 9) (kd (.int 1))) (aC (una gH (eLs (av (fIt (bin fix (vb 7) (kd (.int 2)))) 1 (tgN 12) tT (bin fix (bin fix (vb 9) (kd (.int 2))) (vb 12))))) aN))) (rP ns k sz kn (plD kn 0) a5 a6 (sh (ah x)) (some (.own row)) (sh (ah y)) (sh (.int (-1))) a11)=.val (ah (comp x y)):=by
   simp only[jh,aZ,bG,aP,hc];unfold rP;simp;rfl
  have hg:=sA 0 (g.cl x hx y hy e);rw[Λ]at hg;rw[dn,vi (kvs:=plD kn 0) _ rfl hv (fv _) hg,aa,aa];dsimp only;exact⟨_,last _⟩
 ·rw[decide_eq_false e,if_neg (by decide),if_neg e];exact⟨_,last _⟩
abbrev z8:Rho->R Out:=sq (own 8 (iQ aN))
 (sq (aE (fIt (vr 3)) (tgN 9) EA)
 (fz 8 (app 6 (vr 8))))
theorem Bl (g:Good sz kn) {x:Arr} (hx:x∈kn) {tab:List D} (hl:tab.length<=27) (a5 a8 a9 a10 a11:Option Slt) :
  ∃b8 b9 b10,z8 (rP ns k sz kn (plD kn 0) a5 (some (.own tab)) (sh (ah x)) a8 a9 a10 a11)=.val (.nx (rP ns k sz kn (plD kn 0) a5 (some (.own (tab++[ae (kn.map λy=>mk kn x y)]))) (sh (ah x)) b8 b9 b10 a11)):=by
 have few:=g.few;obtain⟨ρ',e,a9',a10',rfl⟩:=dR (T:=tgN 9) (F:=EA) (xs:=kn.map ah) (U:=rP ns k sz kn (plD kn 0) a5 (some (.own tab)) (sh (ah x)) (some (.own [])) a9 a10 a11) (λi U=>∃a9 a10,U=rP ns k sz kn (plD kn 0) a5 (some (.own tab)) (sh (ah x)) (some (.own (((kn.take i).map λy=>mk kn x y).map D.int))) a9 a10 a11) (λi d U hd hI=>by
  obtain⟨a9,a10,rfl⟩:=hI;have hi:i<kn.length:=by have:=(ώ.mp hd).1;simpa using this
  have hde:d=ah kn[i]:=by
   rw[ϥ]at hd;simp[hi]at hd;exact hd.symm
  subst hde;obtain⟨b10,e⟩:=Bs (ns:=ns) (k:=k) g hx (Ϙ hi) (row:=((kn.take i).map λy=>mk kn x y).map D.int) (by simp;omega) a5 (some (.own tab)) a10 a11;refine⟨_,_,rfl,e,sh (ah kn[i]),b10,?_⟩;rw[Φ hi,Ϭ,Ϭ];rfl) ⟨a9,a10,rfl⟩
 rw[ϋ,List.take_length]at e;refine⟨sh (ae (kn.map λy=>mk kn x y)),a9',a10',?_⟩;show sq _ _ _=_;have x1:own 8 (iQ aN) (rP ns k sz kn (plD kn 0) a5 (some (.own tab)) (sh (ah x)) a8 a9 a10 a11)=.val (.nx (rP ns k sz kn (plD kn 0) a5 (some (.own tab)) (sh (ah x)) (some (.own [])) a9 a10 a11)):=by unfold rP;simp
 rw[ar,x1,aa];dsimp only;rw[ar,bK];show((((R.val (kn.map ah)).bind _)).bind _)=_;rw[aa,e,aa];dsimp only;rw[yp];show app 6 (vr 8) (rP ns k sz kn (plD kn 0) a5 (some (.own tab)) (sh (ah x)) (sh (ae (kn.map λy=>mk kn x y))) a9' a10' a11)=_;rw[iT (xs:=tab) (d:=ae (kn.map λy=>mk kn x y)) _ rfl rfl (by omega)];rfl
theorem yQ (ns:List Int) (k:Nat):∃sz kn,Good sz kn/\cW [.scr ns,.int (k:Int)]=.val (.tup [aw (mh kn),ac (ky sz kn),af (lv kn),.lst (kn.map ah),ac sz]):=by
 obtain⟨sz,hz,hs⟩:=yO ns k;obtain⟨l1,l4,l3⟩:=fN sz hz;obtain⟨kn,g,ha⟩:=wc hz ns (k+1);have ha':bW [.scr ns,.int ((k:Int)+1),ac sz]=.val (.lst (kn.map ah)):=ha;have few:=g.few;obtain⟨a5,ep⟩:=yP (ns:=ns) (k:=k) g none none none none none none;obtain⟨ρ',et,a7,a8,a9,a10,rfl⟩:=dR (T:=tgN 7) (F:=z8) (xs:=kn.map ah) (U:=rP ns k sz kn (plD kn 0) a5 (some (.own [])) none none none none none) (λi U=>∃a7 a8 a9 a10,U=rP ns k sz kn (plD kn 0) a5 (some (.own ((kn.take i).map λx=>ae (kn.map λy=>mk kn x y)))) a7 a8 a9 a10 none) (λi d U hd hI=>by
  obtain⟨a7,a8,a9,a10,rfl⟩:=hI;have hi:i<kn.length:=by have:=(ώ.mp hd).1;simpa using this
  have hde:d=ah kn[i]:=by
   rw[ϥ]at hd;simp[hi]at hd;exact hd.symm
  subst hde;obtain⟨b8,b9,b10,e⟩:=Bl (ns:=ns) (k:=k) g (Ϙ hi) (tab:=(kn.take i).map λx=>ae (kn.map λy=>mk kn x y)) (by simp;omega) a5 a8 a9 a10 none;refine⟨_,_,rfl,e,sh (ah kn[i]),b8,b9,b10,?_⟩;rw[Φ hi,Ϭ];rfl) ⟨none,none,none,none,rfl⟩
 rw[ϋ,List.take_length]at et;refine⟨sz,kn,g,?_⟩;simp only[cW,iG];show fin (sq (asg 2 _) _ [sh (.scr ns),sh (nD k),none,none,none,none,none,none,none,none,none,none])=_;have x1:asg 2 (cal 2 cU (aC (vr 0) (aC (vr 1) aN))) [sh (.scr ns),sh (nD k),none,none,none,none,none,none,none,none,none,none]=.val (.nx [sh (.scr ns),sh (nD k),sh (ac sz),none,none,none,none,none,none,none,none,none]):=by simp[hs]
 rw[ar,x1,aa];dsimp only;have x2:asg 3 (cal 3 bW (aC (vr 0) (aC (bin bA (vb 1) (kd (.int 1))) (aC (vr 2) aN)))) [sh (.scr ns),sh (nD k),sh (ac sz),none,none,none,none,none,none,none,none,none]=.val (.nx [sh (.scr ns),sh (nD k),sh (ac sz),sh (.lst (kn.map ah)),none,none,none,none,none,none,none,none]):=by simp[ha']
 rw[ar,x2,aa];dsimp only;rw[ar,vh,aa];dsimp only;show fin (sq (aE _ (tgN 5) _) _ (rP ns k sz kn [] none none none none none none none))=_;rw[ar,ep,aa];dsimp only;have x3:own 6 (iQ aN) (rP ns k sz kn (plD kn 0) a5 none none none none none none)=.val (.nx (rP ns k sz kn (plD kn 0) a5 (some (.own [])) none none none none none)):=by unfold rP;simp
 rw[ar,x3,aa];dsimp only;have x4:aE (fIt (vr 3)) (tgN 7) z8 (rP ns k sz kn (plD kn 0) a5 (some (.own [])) none none none none none)=.val (.nx (rP ns k sz kn (plD kn 0) a5 (some (.own (kn.map λx=>ae (kn.map λy=>mk kn x y)))) a7 a8 a9 a10 none)):=by
  rw[bK];show(R.val (kn.map ah)).bind _=_;rw[aa,et]
 show fin (sq (aE (fIt (vr 3)) (tgN 7) z8) _ _)=_;rw[ar,x4,aa];dsimp only;have hrest:av (aK (aC (una aj (vb 2)) aN)) 1 (tgN 12) tT (mZ 4 (eT (aC (vr 12) (aC (vr 12) (aC (fY (aC (bin fix (vb 2) (vb 12)) aN)) aN))))) (rP ns k sz kn (plD kn 0) a5 (some (.own (kn.map λx=>ae (kn.map λy=>mk kn x y)))) a7 a8 a9 a10 none)=.val ((ky sz kn).map nD):=by
  have:=jd (src:=aK (aC (una aj (vb 2)) aN)) (m:=sz.length) (n:=1) (i:=12) (e:=mZ 4 (eT (aC (vr 12) (aC (vr 12) (aC (fY (aC (bin fix (vb 2) (vb 12)) aN)) aN))))) (g:=λb=>nD (kn.idxOf (idm sz b))) (U:=rP ns k sz kn (plD kn 0) a5 (some (.own (kn.map λx=>ae (kn.map λy=>mk kn x y)))) a7 a8 a9 a10 none) (by unfold rP;simp;exact cN (by omega)) (by omega) λb hb=>by
   have f1:=ii (sz:=sz) hb;have hs:sz.getD b 0<=3:=by rw[ai hb];exact l3 _ (Ϙ hb)
   have hrg:=uq (n:=sz.getD b 0) (by omega);have hg:=sA 0 (g.rest b hb);rw[Λ]at hg;refine vi (kvs:=plD kn 0) (kd:=ah (idm sz b)) _ rfl ?_ (fv _) hg;unfold rP;simp[-List.getD_eq_getElem?_getD,f1,hrg];rfl
  rw[this];unfold ky;rw[ϩ];rfl
 rw[ar,dn,aP,hrest,aa,aa,aa];dsimp only;rw[yp];have hens:∀t a7 a8 a9 a10 a11,av (fIt (vr 3)) 1 (tgN 12) tT (eT (aC (bin fix (vb 12) (kd (.int 0))) (aC (bin fix (vb 12) (kd (.int 1))) aN))) (rP ns k sz kn (plD kn 0) a5 t a7 a8 a9 a10 a11)=.val ((mh kn).map bp):=λt a7 a8 a9 a10 a11=>by
  rw[aS (f:=ah) (l:=kn) (g:=λx=>bp (x.1,x.2.1)) rfl (by omega) λx _=>by unfold rP;simp;rfl];unfold mh;rw[ϩ];rfl
 have htab:D.lst (kn.map λx=>ae (kn.map λy=>mk kn x y))=af (lv kn):=by
  unfold af lv;rw[ϩ];rfl
 show fin (ret _ (rP ns k sz kn (plD kn 0) a5 (sh (.lst (kn.map λx=>ae (kn.map λy=>mk kn x y)))) a7 a8 a9 a10 (sh (ac (ky sz kn)))))=_;rw[htab,bM,jh,aZ,aP,hens,aa,aa];unfold rP;simp;rfl
end
section
variable (U:Rho)
@[simp] theorem BP (n:Nat) (den:List D->R D) (a:Rho->R (List D)):pG n den a U=(a U).bind λds=>if ds.length=n then den ds else .bad:=ϕ rfl rfl
@[simp] theorem BU (a b:Rho->R D):rE a b U=(a U).bind λx=>(asB x).bind λc=>if c=true then b U else .val (.bl false):=ϕ rfl rfl
end
theorem nP {Y:Type} {T:D->Rho->Option Rho} {t:Rho->R Bool} {e:Rho->R D} {f g:Y->D} {p:Y->Bool} {U:Rho}:∀{l:List Y},(∀a∈l,∃U1,T (f a) U=some U1/\t U1=.val (p a)/\e U1=.val (g a))->hE T t e (l.map f) U=.val ((l.filter p).map g)
 | [],_=>rfl
 | a::r,h=>by
  obtain⟨U1,h1,h2,h3⟩:=h a (by simp);have ih:=nP (T:=T) (t:=t) (e:=e) (f:=f) (g:=g) (p:=p) (U:=U) (l:=r) λb hb=>h b (by simp[hb]);rw[Ϯ];unfold hE;rw[h1];show(noE (t U1)).bind _=_;rw[h2,List.filter_cons];cases q:p a with
  | true=>simp[h3,ih]
  | false=>simp[ih]
variable {Y:Type} {T:D->Rho->Option Rho}
theorem cF {t:Rho->R Bool} {e:Rho->R D} {f g:Y->D} {p:Y->Bool} {l:List Y} (hs:src U=.val (l.map f)) (hl:l.length<=100000)
  (h:∀a∈l,∃U1,T (f a) (U++List.replicate n none)=some U1/\t U1=.val (p a)/\e U1=.val (g a)):av src n T t e U=.val ((l.filter p).map g):=by
 unfold av;rw[hs,aa,if_pos (show(l.map f).length<=LIM by rw[ϋ];exact hl),nP h];rfl
theorem dq (n:Nat):rng 0 n=(List.range n).map nD:=by
 unfold rng nD;apply Ϧ;intro k _;rw[Int.zero_add]
theorem fW:∀(l:List D) (s:Nat),enu s l=(List.range l.length).map λi=>.tup [nD (s+i),l.getD i .non]
 | [],s=>rfl
 | x::r,s=>by
  unfold enu;rw[fW r (s+1),ϫ,List.range_succ_eq_map,Ϯ,ϩ];simp only[Nat.add_zero,List.getD_cons_zero]
  congr 1
  apply Ϧ;intro i _;simp only[Function.comp,List.getD_cons_succ];rw[show s+1+i=s+(i+1) by omega]
theorem nA {Y:Type} {T:D->Rho->Option Rho} {F:Rho->R Out} {f g:Y->D} {p:Y->Bool} (I:Rho->Prop):∀{l:List Y} {U:Rho},(∀a∈l,∀U,I U->∃U1,T (f a) U=some U1/\(p a=true->F U1=.val (.rt (g a)))/\(p a=false->∃U2,F U1=.val (.nx U2)/\I U2))->I U ->
  (∃a,l.find? p=some a/\aX T F (l.map f) U=.val (.rt (g a)))\/(l.find? p=none/\∃ρ',aX T F (l.map f) U=.val (.nx ρ')/\I ρ')
 | [],U,_,h=>.inr ⟨rfl,U,rfl,h⟩
 | a::r,U,step,h=>by
  obtain⟨U1,h1,h2,h3⟩:=step a (by simp) U h;rw[List.find?_cons,Ϯ];unfold aX;rw[h1];cases q:p a with
  | true=>exact .inl ⟨a,rfl,by dsimp only;rw[h2 q];rfl⟩
  | false =>
   obtain⟨U2,e2,i2⟩:=h3 q;dsimp only;rw[e2];exact nA (T:=T) (F:=F) (f:=f) (g:=g) (p:=p) I (λb hb=>step b (by simp[hb])) i2
theorem Bc (p q:Nat×Nat):feq (bp p) (bp q)=.val (.bl (decide (p=q))):=by
 by_cases h:p=q
 ·subst h;rw[i_ (eN _)];simp
 ·rw[ja (eN _) (eN _) (λz=>h (endD_inj.mp z))];simp[h]
def hlD (en:List (Nat×Nat)) (re:List Nat) (tb:List (List Int)):D:=.ob (aw en) (ac re) (af tb)
section
variable {en:List (Nat×Nat)} {re:List Nat} {tb:List (List Int)}
@[simp] theorem HQ:ci 0 (hlD en re tb)=.val (aw en):=ϕ rfl rfl
@[simp] theorem HP:ci 1 (hlD en re tb)=.val (ac re):=ϕ rfl rfl
@[simp] theorem HN:ci 2 (hlD en re tb)=.val (af tb):=ϕ rfl rfl
end
section
variable (U:Rho)
@[simp] theorem G0 (F:Rho->R (List D)):jb F U=(F U).bind Cp:=ϕ rfl rfl
@[simp] theorem GW (xs ys:List D):Cp [.lst xs,.lst ys]=.val (zp xs ys):=ϕ rfl rfl
@[simp] theorem Bg (F:Rho->R (List D)):jS F U=(F U).bind yd:=ϕ rfl rfl
end
theorem lN (h:n<=100000):yd [.int (n:Int)]=.val ((List.range n).map nD):=by
 unfold yd;dsimp only;rw[if_pos (by constructor<;>omega),Α,dq]
theorem nV {Y:Type} (p:Y->Bool):∀l:List Y,fi (l.map λa=>D.bl (p a))=some (l.map p)
 | []=>rfl
 | a::r=>by
  rw[Ϯ,Ϯ];unfold fi;rw[nV p r];rfl
theorem gL (p:Y->Bool) (l:List Y):o_ (.lst (l.map λa=>D.bl (p a)))=.val (.bl (l.all p)):=by
 unfold o_;dsimp only;rw[nV];dsimp only;rw[List.all_map];rfl
theorem wz:∀{xs ys:List D},xs.length=ys.length->zp xs ys=(List.range xs.length).map λi=>.tup [xs.getD i .non,ys.getD i .non]
 | [],[],_=>rfl
 | [],_::_,h=>by simp at h
 | _::_,[],h=>by simp at h
 | x::xs,y::ys,h=>by
  unfold zp;rw[wz (by simpa using h),ϫ,List.range_succ_eq_map,Ϯ,ϩ]
  congr 1
theorem lh {β:Type} {f:Y->D} {g:β->D} {l:List Y} {m:List β} {a:Y} {b:β} (h:l.length=m.length):zp (l.map f) (m.map g)=(List.range l.length).map λi=>.tup [f (l.getD i a),g (m.getD i b)]:=by
 rw[wz (by simpa using h),ϋ];apply Ϧ;intro i hi;have hi:=ό.mp hi;rw[ai (show i<(l.map f).length by simpa using hi),ai (show i<(m.map g).length by simpa[<- h]using hi),ai hi,ai (show i<m.length by omega),ϵ,ϵ]
theorem ye {F:Rho->R Out} {f:Y->D} {ok:Y->Bool} (I:Rho->Prop) {l:List Y} (step:∀a∈l,∀U,I U->∃U1,T (f a) U=some U1/\(ok a=false->F U1=.val (.rt (.bl false)))/\(ok a=true->∃U2,F U1=.val (.nx U2)/\I U2)) (h:I U) :
  (l.all ok=false/\aX T F (l.map f) U=.val (.rt (.bl false)))\/(l.all ok=true/\∃ρ',aX T F (l.map f) U=.val (.nx ρ')/\I ρ'):=by
 rcases nA (T:=T) (F:=F) (f:=f) (g:=λ_=>.bl false) (p:=λa=>!ok a) I (l:=l) (U:=U) (λa ha U hI=>by
  obtain⟨U1,h1,h2,h3⟩:=step a ha U hI;exact⟨U1,h1,λq=>h2 (by simpa using q),λq=>h3 (by simpa using q)⟩) h with⟨a,e,z⟩|⟨e,z⟩
 ·refine .inl ⟨?_,z⟩;have:=List.find?_some e;rw[Bool.eq_false_iff];intro q;have q:=ύ.mp q a (List.mem_of_find?_eq_some e);simp[q]at this
 ·refine .inr ⟨?_,z⟩;rw[ύ];intro a ha;have:=List.find?_eq_none.mp e a ha;simpa using this
theorem cw {F:Rho->R Out} {f:Y->D} {ok:Y->Bool} (I:Rho->Prop) {l:List Y} (hs:src U=.val (l.map f)) (step:∀a∈l,∀U,I U->∃U1,T (f a) U=some U1/\(ok a=false->F U1=.val (.rt (.bl false)))/\(ok a=true->∃U2,F U1=.val (.nx U2)/\I U2)) (h:I U) :
  (l.all ok=false/\aE src T F U=.val (.rt (.bl false)))\/(l.all ok=true/\∃ρ',aE src T F U=.val (.nx ρ')/\I ρ'):=by
 rw[bK,hs,aa];exact ye I step h
theorem eR {F:Rho->R Out} {f:Y->D} {ok:Y->Bool} (I:Rho->Prop) {l:List Y} (hs:src U=.val (l.map f)) (step:∀a∈l,∀U,I U->∃U1,T (f a) U=some U1/\(ok a=false->F U1=.val (.rt (.bl false)))/\(ok a=true->∃U2,F U1=.val (.nx U2)/\I U2)) (h:I U) :
  fin (sq (aE src T F) (ret (kd (.bl true))) U)=.val (.bl (l.all ok)):=by
 rw[ar];rcases cw I hs step h with⟨e,z⟩|⟨e,ρ',z,_⟩
 ·rw[z,e];rfl
 ·rw[z,e];rfl
def cK (n:Int) (z:Int):Bool:=decide (0<=z)&&decide (z<n)
theorem jf (l:List Int) (n:Int) (hl:l.length<=100000):aW [ae l,.int n]=.val (.bl (l.all (cK n))):=by
 simp only[aW,fg];show fin (ret _ [sh (ae l),sh (.int n)])=_;have hc:av (fIt (vr 0)) 1 (tgN 2) tT (cal 2 ba (aC (vr 2) (aC (vr 1) aN))) [sh (ae l),sh (.int n)]=.val (l.map λz=>.bl (cK n z)):=aS (f:=D.int) rfl hl λz _=>by
  have:=gO z n;simp[this,cK]
 rw[bM,bG,aP,hc,aa,aa,gL];rfl
theorem qi {A B:Rho->R Out} {c r:Bool} (I:Rho->Prop) (hA:(c=false/\A U=.val (.rt (.bl false)))\/(c=true/\∃ρ',A U=.val (.nx ρ')/\I ρ')) (hB:c=true->∀ρ',I ρ'->fin (B ρ')=.val (.bl r)):fin (sq A B U)=.val (.bl (c&&r)):=by
 rw[ar];rcases hA with⟨e,h⟩|⟨e,ρ',h,i⟩
 ·rw[h,e];rfl
 ·rw[h,aa,e,Μ];exact hB e ρ' i
theorem ifR {t:Rho->R Bool} {c:Bool} (ht:t U=.val (!c)):(c=false/\DL.iff t (ret (kd (.bl false))) nxt U=.val (.rt (.bl false)))\/(c=true/\∃ρ',DL.iff t (ret (kd (.bl false))) nxt U=.val (.nx ρ')/\ρ'=U):=by
 rw[aR,ht];cases c with
 | false=>exact .inl ⟨rfl,rfl⟩
 | true=>exact .inr ⟨rfl,_,rfl,rfl⟩
theorem iA {t:Rho->R Bool} {c:Bool} (ht:t U=.val (!c)):(c=false->DL.iff t (ret (kd (.bl false))) nxt U=.val (.rt (.bl false)))/\(c=true->DL.iff t (ret (kd (.bl false))) nxt U=.val (.nx U)):=by
 rw[aR,ht];exact⟨λz=>by rw[z];rfl,λz=>by rw[z];rfl⟩
@[simp] theorem HJ (T:D->Rho->Option Rho) (e:Rho->R D) (U:Rho):asT T e U=(e U).bind λd=>match T d U with
 | some ρ'=>.val (.nx ρ')
 | none=>.bad:=ϕ rfl rfl
theorem Gj {A:Rho->R Out} {c:Bool} {I:Rho->Prop} (h:(c=false/\A U=.val (.rt (.bl false)))\/(c=true/\∃ρ',A U=.val (.nx ρ')/\I ρ')):(c=false->A U=.val (.rt (.bl false)))/\(c=true->∃ρ',A U=.val (.nx ρ')/\I ρ'):=by
 rcases h with⟨q,e⟩|⟨q,r⟩
 ·exact⟨λ_=>e,λt=>(by rw[t]at q;cases q)⟩
 ·exact⟨λt=>(by rw[t]at q;cases q),λ_=>r⟩
variable {F:Rho->R D}
theorem cM (h:F U=.val (.int (n:Int))) (hn:n<=100000):aK (aC F aN) U=.val ((List.range n).map nD):=by
 rw[k6,aZ,h,aa,iJ,aa,aa,cN hn,dq]
theorem rowD_inj {a b:List Int}:ae a=ae b↔a=b:=by
 constructor
 ·intro h;unfold ae at h;injection h with h;exact oX (λa b e=>by cases e;rfl) h
 ·rintro rfl;rfl
theorem Bb (a b:List Int):feq (ae a) (ae b)=.val (.bl (decide (a=b))):=by
 by_cases h:a=b
 ·subst h;rw[i_ (eK _)];simp
 ·rw[ja (eK _) (eK _) (λz=>h (rowD_inj.mp z))];simp[h]
theorem o7 (a b:List Int):fne (ae a) (ae b)=.val (.bl (!decide (a=b))):=by
 by_cases h:a=b
 ·subst h;rw[fB (eK _)];simp
 ·rw[lW (eK _) (eK _) (λz=>h (rowD_inj.mp z))];simp[h]
def rg (n:Nat):List Int:=(List.range n).map λ(k:Nat)=>(k:Int)
theorem xh (n:Nat):D.lst ((List.range n).map nD)=ae (rg n):=by
 unfold ae rg;rw[ϩ];rfl
theorem qT {r:List Int} {x:Int} (h:0<=x) (h2:x<r.length):fix (ae r) (.int x)=.val (.int (r.getD x.toNat (-1))):=by
 have:=aM (r:=r) (i:=x.toNat) (by omega);rwa[Δ h]at this
def fol (a b:List Int):List Int:=a.map λx=>b.getD x.toNat (-1)
theorem yx {a b:List Int} {e:Rho->R D} (hl:a.length<=100000) (h:∀x∈a,0<=x/\x<b.length) (hs:src U=.val (a.map D.int)) (he:∀x:Int,e ((U++List.replicate 1 none).set i (sh (.int x)))=fix (ae b) (.int x)):eLs (av src 1 (tgN i) tT e) U=.val (ae (fol a b)):=by
 rw[aP,aS (f:=D.int) (g:=λx=>.int (b.getD x.toNat (-1))) hs hl λx hx=>(by rw[he,qT (h x hx).1 (h x hx).2])];unfold ae fol;rw[ϩ];rfl
theorem q9 {a b:List Int} (hl:a.length<=100000) (h:∀x∈a,0<=x/\x<b.length):cI [ae a,ae b]=.val (ae (fol a b)):=by
 simp only[cI,ju];show fin (ret _ [sh (ae a),sh (ae b)])=_;rw[bM,yx (a:=a) (b:=b) hl h rfl λx=>rfl];rfl
variable {l:List Int}
theorem uJ {p:Int->Bool}:decide ((0:Int)<(((l.filter λx=>!p x).map D.int).length:Int))=!l.all p:=by
 rw[ϋ];cases q:l.all p with
 | true =>
  have:l.filter (λx=>!p x)=[]:=by
   rw[List.filter_eq_nil_iff];intro x hx;simp[ύ.mp q x hx]
  rw[this];rfl
 | false =>
  have:0<(l.filter λx=>!p x).length:=by
   rw[List.length_pos_iff_exists_mem];rw[<- Bool.not_eq_true,ύ]at q;obtain⟨x,hx⟩:=Classical.not_forall.mp q;obtain⟨h1,h2⟩:=Classical.not_imp.mp hx;exact⟨x,Υ.mpr ⟨h1,by simpa using h2⟩⟩
  simp only[Bool.not_false,decide_eq_true_eq];omega
structure Bd (cs:List Int) (ms:List (List Int)):Prop where
 c:cs.length<=1000
 m:ms.length<=1000
 r:∀l∈ms,l.length<=1000
section
variable {en:List (Nat×Nat)} {re:List Nat} {tb:List (List Int)} {cs:List Int} {ms:List (List Int)}
theorem Bd.at (b:Bd cs ms) (i:Nat):(ms.getD i []).length<=1000:=by
 by_cases h:i<ms.length
 ·rw[ai h];exact b.r _ (Ϙ h)
 ·rw[ϊ,τ (by omega)];exact Ρ _
def r1 (en:List (Nat×Nat)) (re:List Nat) (cs:List Int) (ms:List (List Int)):Bool:=decide (cs.length=re.length)&&decide (ms.length=en.length)
def fOk (en:List (Nat×Nat)) (cs:List Int) (ms:List (List Int)) (i:Nat):Bool:=decide (((ms.getD i []).length:Int)=cs.getD (en.getD i (0,0)).1 (-1))&&(ms.getD i []).all (cK (cs.getD (en.getD i (0,0)).2 (-1)))
def okR (re:List Nat) (cs:List Int) (ms:List (List Int)) (b:Nat):Bool:=decide (ms.getD (re.getD b 0) []=rg (cs.getD b (-1)).toNat)
def okT (tb:List (List Int)) (ms:List (List Int)) (i j:Nat):Bool:=decide ((tb.getD i []).getD j (-1)=-1)||decide (ms.getD ((tb.getD i []).getD j (-1)).toNat []=fol (ms.getD i []) (ms.getD j []))
def r3 (en:List (Nat×Nat)) (cs:List Int) (ms:List (List Int)):Bool:=(List.range en.length).all (fOk en cs ms)
def r4 (re:List Nat) (cs:List Int) (ms:List (List Int)):Bool:=(List.range re.length).all (okR re cs ms)
def r5 (en:List (Nat×Nat)) (tb ms:List (List Int)):Bool:=(List.range en.length).all λi=>(List.range en.length).all (okT tb ms i)
theorem fX (h:HallN en re tb) (hi:i<en.length) (hj:j<en.length):(tb.getD i []).getD j (-1)=-1\/∃k,k<en.length/\(tb.getD i []).getD j (-1)=(k:Int)/\(en.getD i (0,0)).2=(en.getD j (0,0)).1:=by
 by_cases e:(en.getD i (0,0)).2=(en.getD j (0,0)).1
 ·obtain⟨k,h1,h2,_⟩:=h.tp i j hi hj e;exact .inr ⟨k,h1,h2,e⟩
 ·exact .inl (h.tn i j hi hj e)
theorem yw (h3:r3 en cs ms=true) (hi:i<en.length) (hj:j<en.length) (e:(en.getD i (0,0)).2=(en.getD j (0,0)).1):∀x∈ms.getD i [],0<=x/\x<(ms.getD j []).length:=by
 have q1:=ύ.mp h3 i (ό.mpr hi);have q2:=ύ.mp h3 j (ό.mpr hj);unfold fOk at q1 q2;rw[ϝ,decide_eq_true_iff]at q1 q2;intro x hx;have:=ύ.mp q1.2 x hx;unfold cK at this;rw[ϝ,decide_eq_true_iff,decide_eq_true_iff]at this;refine⟨this.1,?_⟩;rw[q2.1,<- e];exact this.2
theorem gP (h:HallN en re tb) (b:Bd cs ms):bF [hlD en re tb,ae cs,af ms]=.val (.bl (r1 en re cs ms&&(cs.all (cK 41)&&(r3 en cs ms&&true)))):=by
 simp only[bF,dc];show fin (sq _ _ [sh (hlD en re tb),sh (ae cs),sh (af ms),none,none])=_;refine qi (·=[sh (hlD en re tb),sh (ae cs),sh (af ms),none,none]) (ifR ?_) ?_
 ·unfold r1;by_cases p1:cs.length=re.length
  ·by_cases p2:ms.length=en.length
   ·simp[p1,p2]
   ·have q2:¬ (ms.length:Int)=en.length:=by omega
    simp[p1,p2,q2]
  ·have q1:¬ (cs.length:Int)=re.length:=by omega
   simp[p1,q1]
 ·rintro e1 _ rfl;unfold r1 at e1;rw[ϝ,decide_eq_true_iff,decide_eq_true_iff]at e1;obtain⟨l1,l2⟩:=e1;refine qi (·=[sh (hlD en re tb),sh (ae cs),sh (af ms),none,none]) (ifR ?_) ?_
  ·have e:=jf cs 41 (by have:=b.c;omega);simp[-List.all_eq_true,e]
  ·rintro e2 _ rfl;refine qi (λ_=>True) ?_ λ_ ρ' _=>rfl;have main:=cw (src:=jb (aC (una (ci 0) (vb 0)) (aC (vr 2) aN))) (T:=tg2 3 4) (F:=(DL.iff (orB (tst (bin fne (una aj (vb 4)) (bin fix (vb 1) (bin fix (vb 3) (kd (.int 0)))))) (bz (tst (cal 2 aW (aC (vr 4) (aC (bin fix (vb 1) (bin fix (vb 3) (kd (.int 1)))) aN)))))) (ret (kd (.bl false))) nxt)) (f:=λi=>.tup [bp (en.getD i (0,0)),ae (ms.getD i [])]) (ok:=fOk en cs ms) (l:=List.range en.length) (U:=[sh (hlD en re tb),sh (ae cs),sh (af ms),none,none]) (λU=>∃x y,U=[sh (hlD en re tb),sh (ae cs),sh (af ms),x,y]) ?_ (λi hi U hI=>?_) ⟨_,_,rfl⟩
   ·rcases main with⟨q,e⟩|⟨q,ρ',e,_⟩
    ·exact .inl ⟨q,e⟩
    ·exact .inr ⟨q,ρ',e,trivial⟩
   ·have:=lh (f:=bp) (g:=ae) (l:=en) (m:=ms) (a:=(0,0)) (b:=[]) l2.symm;simp[aw,af,this]
   ·obtain⟨x,y,rfl⟩:=hI;have hi:=ό.mp hi;have eb:=h.eb i hi;have f2:=aM (r:=cs) (i:=(en.getD i (0,0)).1) (by omega);have f3:=aM (r:=cs) (i:=(en.getD i (0,0)).2) (by omega);have e:=jf (ms.getD i []) (cs.getD (en.getD i (0,0)).2 (-1)) (by have:=b.at i;omega);have ht:orB (tst (bin fne (una aj (vb 4)) (bin fix (vb 1) (bin fix (vb 3) (kd (.int 0)))))) (bz (tst (cal 2 aW (aC (vr 4) (aC (bin fix (vb 1) (bin fix (vb 3) (kd (.int 1)))) aN))))) [sh (hlD en re tb),sh (ae cs),sh (af ms),sh (bp (en.getD i (0,0))),sh (ae (ms.getD i []))]=.val (!fOk en cs ms i):=by
     unfold fOk;by_cases p:((ms.getD i []).length:Int)=cs.getD (en.getD i (0,0)).1 (-1)
     ·simp[-List.getD_eq_getElem?_getD,-List.all_eq_true,f2,f3,e,p]
     ·simp[-List.getD_eq_getElem?_getD,-List.all_eq_true,f2,f3,e,p]
    obtain⟨k1,k2⟩:=iA ht;exact⟨_,rfl,k1,λz=>⟨_,k2 z,_,_,rfl⟩⟩
theorem fF (h:HallN en re tb) (b:Bd cs ms) (l1:cs.length=re.length) (l2:ms.length=en.length) (h2:cs.all (cK 41)=true) :
  bh [hlD en re tb,ae cs,af ms]=.val (.bl (r4 re cs ms)):=by
 simp only[bh,cr];show fin (ret _ [sh (hlD en re tb),sh (ae cs),sh (af ms)])=_;have n6:=h.nb6;have hc:av (c9 (aC (una (ci 1) (vb 0)) aN)) 2 (tg2 3 4) tT (bin feq (bin fix (vb 2) (vb 4)) (eLs (jS (aC (bin fix (vb 1) (vb 3)) aN)))) [sh (hlD en re tb),sh (ae cs),sh (af ms)]=.val ((List.range re.length).map λi=>.bl (okR re cs ms i)):=by
  have:=cF (src:=c9 (aC (una (ci 1) (vb 0)) aN)) (n:=2) (T:=tg2 3 4) (t:=tT) (e:=bin feq (bin fix (vb 2) (vb 4)) (eLs (jS (aC (bin fix (vb 1) (vb 3)) aN)))) (f:=λi=>.tup [nD i,nD (re.getD i 0)]) (g:=λi=>.bl (okR re cs ms i)) (p:=λ_=>true) (l:=List.range re.length) (U:=[sh (hlD en re tb),sh (ae cs),sh (af ms)]) ?_ (by rw[ϸ];omega) λi hi=>?_
  ·rw[this,List.filter_eq_self.mpr λ_ _=>rfl]
  ·have:enu 0 (re.map nD)=_:=fW _ _;simp only[jc,aZ,bG,iJ];show(ph [.lst (re.map nD)])=_;rw[jg,this,ϋ]
   congr 1
   apply Ϧ;intro i hi;have hi:=ό.mp hi;rw[Λ,ai (show i<(re.map nD).length by simpa using hi),ai hi,ϵ]
  ·have hi:=ό.mp hi;have q1:=(h.rs i hi).1;have f1:=aJ (tb:=ms) (i:=re.getD i 0) (by omega);have f2:=aM (r:=cs) (i:=i) (by omega);have cb:cK 41 (cs.getD i (-1))=true:=by
    rw[ai (show i<cs.length by omega)];exact ύ.mp h2 _ (Ϙ _)
   unfold cK at cb;rw[ϝ,decide_eq_true_iff,decide_eq_true_iff]at cb;have lr:=lN (n:=(cs.getD i (-1)).toNat) (by omega);rw[Δ cb.1]at lr;refine⟨_,rfl,rfl,?_⟩;have q:=Bb (ms.getD (re.getD i 0) []) (rg (cs.getD i (-1)).toNat);rw[<- xh]at q;simp[-List.getD_eq_getElem?_getD,f1,f2,lr,q,okR]
 rw[bM,bG,aP,hc,aa,aa,gL];rfl
theorem fD (h:HallN en re tb) (b:Bd cs ms) (l2:ms.length=en.length) (h3:r3 en cs ms=true) :
  bc [hlD en re tb,af ms]=.val (.bl (r5 en tb ms)):=by
 simp only[bc,ck];show fin (sq _ _ [sh (hlD en re tb),sh (af ms),none,none,none,none])=_;have hl:=h.tl;refine eR (f:=λi=>.tup [nD i,ae (tb.getD i [])]) (λU=>∃x y z w,U=[sh (hlD en re tb),sh (af ms),x,y,z,w]) ?_ (λi hi U hI=>?_) ⟨_,_,_,_,rfl⟩
 ·have:enu 0 (tb.map ae)=_:=fW _ _;simp only[jc,aZ,bG,iJ];show(ph [.lst (tb.map ae)])=_;rw[jg,this,ϋ,hl]
  congr 1
  apply Ϧ;intro i hi;have hi:=ό.mp hi;rw[Λ,ai (show i<(tb.map ae).length by simpa[hl]using hi),ai (show i<tb.length by omega),ϵ]
 ·obtain⟨x,y,z,w,rfl⟩:=hI;have hi:=ό.mp hi;have rl:=h.rl i hi;refine⟨_,rfl,?_⟩;have main:=cw (src:=c9 (aC (vr 3) aN)) (T:=tg2 4 5) (F:=DL.iff (jX (tst (bin fne (vb 5) (una cS (kd (.int 1))))) (tst (bin fne (bin fix (vb 1) (vb 5)) (cal 2 cI (aC (bin fix (vb 1) (vb 2)) (aC (bin fix (vb 1) (vb 4)) aN)))))) (ret (kd (.bl false))) nxt) (f:=λj=>.tup [nD j,.int ((tb.getD i []).getD j (-1))]) (ok:=okT tb ms i) (l:=List.range en.length) (U:=[sh (hlD en re tb),sh (af ms),sh (nD i),sh (ae (tb.getD i [])),z,w])
   (λU=>∃z w,U=[sh (hlD en re tb),sh (af ms),sh (nD i),sh (ae (tb.getD i [])),z,w]) ?_ (λj hj U hI=>?_) ⟨_,_,rfl⟩
  ·rcases main with⟨q,e⟩|⟨q,ρ',e,z',w',rfl⟩
   ·exact⟨λ_=>e,λt=>(by rw[t]at q;cases q)⟩
   ·exact⟨λt=>(by rw[t]at q;cases q),λ_=>⟨_,e,_,_,_,_,rfl⟩⟩
  ·have:enu 0 ((tb.getD i []).map D.int)=_:=fW _ _;simp only[jc,aZ,B2,iJ];show(ph [.lst ((tb.getD i []).map D.int)])=_;rw[jg,this,ϋ,rl]
   congr 1
   apply Ϧ;intro j hj;have hj:=ό.mp hj;rw[Λ,ai (show j<((tb.getD i []).map D.int).length by rw[ϋ,rl];exact hj),ai (show j<(tb.getD i []).length by omega),ϵ]
  ·obtain⟨z,w,rfl⟩:=hI;have hj:=ό.mp hj;refine⟨_,rfl,?_⟩;have ht:jX (tst (bin fne (vb 5) (una cS (kd (.int 1))))) (tst (bin fne (bin fix (vb 1) (vb 5)) (cal 2 cI (aC (bin fix (vb 1) (vb 2)) (aC (bin fix (vb 1) (vb 4)) aN))))) [sh (hlD en re tb),sh (af ms),sh (nD i),sh (ae (tb.getD i [])),sh (nD j),sh (.int ((tb.getD i []).getD j (-1)))]=.val (!okT tb ms i j):=by
    unfold okT;rcases fX h hi hj with e|⟨k,hk,e,e2⟩
    ·rw[e];simp
    ·rw[e];have f1:=aJ (tb:=ms) (i:=k) (by omega);have f2:=aJ (tb:=ms) (i:=i) (by omega);have f3:=aJ (tb:=ms) (i:=j) (by omega);have q:=q9 (a:=ms.getD i []) (b:=ms.getD j []) (by have:=b.at i;omega) (yw h3 hi hj e2);have q2:=o7 (ms.getD k []) (fol (ms.getD i []) (ms.getD j []));have nk:¬ (k:Int)=-1:=by omega
     simp[-List.getD_eq_getElem?_getD,f1,f2,f3,q,q2,nk]
   obtain⟨k1,k2⟩:=iA ht;exact⟨k1,λz=>⟨_,k2 z,_,_,rfl⟩⟩
def isR (en:List (Nat×Nat)) (re:List Nat) (tb:List (List Int)) (cs:List Int) (ms:List (List Int)):Bool:=r1 en re cs ms&&(cs.all (cK 41)&&(r3 en cs ms&&(r4 re cs ms&&(r5 en tb ms&&true))))
theorem e_ (h:HallN en re tb) (b:Bd cs ms):bq [hlD en re tb,ae cs,af ms]=.val (.bl (isR en re tb cs ms)):=by
 simp only[bq,gZ];show fin (ret _ [sh (hlD en re tb),sh (ae cs),sh (af ms)])=_;have e1:=gP h b;unfold isR;cases c1:r1 en re cs ms with
 | false=>rw[c1]at e1;simp[e1]
 | true =>
  cases c2:cs.all (cK 41)with
  | false=>rw[c1,c2]at e1;simp[e1]
  | true =>
   cases c3:r3 en cs ms with
   | false=>rw[c1,c2,c3]at e1;simp[e1]
   | true =>
    rw[c1,c2,c3]at e1;have c1:=c1;unfold r1 at c1;rw[ϝ,decide_eq_true_iff,decide_eq_true_iff]at c1;have e2:=fF h b c1.1 c1.2 c2;have e3:=fD h b c1.2 c3;cases c4:r4 re cs ms with
    | false=>rw[c4]at e2;simp[e1,e2]
    | true=>rw[c4]at e2;simp[e1,e2,e3]
end
structure IsR (L:Nat) (en:List (Nat×Nat)) (re:List Nat) (tb:List (List Int)) (cs:List Int) (ms:List (List Int)):Prop where
 lc:cs.length=re.length
 lm:ms.length=en.length
 cb:∀b,b<re.length->0<=cs.getD b (-1)/\cs.getD b (-1)<=(L:Int)
 ml:∀i,i<en.length->((ms.getD i []).length:Int)=cs.getD (en.getD i (0,0)).1 (-1)
 mb:∀i,i<en.length->∀x∈ms.getD i [],0<=x/\x<cs.getD (en.getD i (0,0)).2 (-1)
 idn:∀b,b<re.length->ms.getD (re.getD b 0) []=rg (cs.getD b (-1)).toNat
 cmp:∀i j k:Nat,i<en.length->j<en.length->(tb.getD i []).getD j (-1)=(k:Int)->ms.getD k []=fol (ms.getD i []) (ms.getD j [])
variable {z:Int}
section
variable {en:List (Nat×Nat)} {re:List Nat} {tb:List (List Int)} {cs ds:List Int} {ms ns:List (List Int)} {L M:Nat}
theorem below_iff {n:Int}:cK n z=true↔0<=z/\z<n:=by
 unfold cK;rw[ϝ,decide_eq_true_iff,decide_eq_true_iff]
theorem IsR.tru (h:HallN en re tb) (r:IsR L en re tb cs ms) (hL:L<=40):isR en re tb cs ms=true:=by
 have e1:r1 en re cs ms=true:=by unfold r1;rw[decide_eq_true r.lc,decide_eq_true r.lm];rfl
 have e2:cs.all (cK 41)=true:=ύ.mpr λx hx=>by
  obtain⟨i,hi,rfl⟩:=ϲ.mp hx;have:=r.cb i (by rw[<- r.lc];exact hi);rw[ai hi]at this;rw[below_iff];omega
 have e3:r3 en cs ms=true:=ύ.mpr λi hi=>by
  have hi:=ό.mp hi;unfold fOk;rw[decide_eq_true (r.ml i hi),Μ,ύ];exact λx hx=>below_iff.mpr (r.mb i hi x hx)
 have e4:r4 re cs ms=true:=ύ.mpr λb hb=>decide_eq_true (r.idn b (ό.mp hb));have e5:r5 en tb ms=true:=ύ.mpr λi hi=>ύ.mpr λj hj=>by
  have hi:=ό.mp hi;have hj:=ό.mp hj;unfold okT;rcases fX h hi hj with e|⟨k,hk,e,_⟩
  ·rw[e];rfl
  ·rw[e,Α,decide_eq_true (r.cmp i j k hi hj e),Bool.or_true]
 unfold isR;rw[e1,e2,e3,e4,e5];rfl
theorem Di (n:Nat):(rg n).length=n:=by unfold rg;simp
theorem xi {d:Int} (h:i<n):(rg n).getD i d=(i:Int):=by
 unfold rg;rw[ai (by simpa using h)];simp
theorem i6 {l:List Y} {f:Y->Int} {d:Y} {e:Int} (h:i<l.length):(l.map f).getD i e=f (l.getD i d):=by
 rw[ai (by simpa using h),ai h,ϵ]
theorem lM {l:List Y} {f:Y->List Int} {d:Y} (h:i<l.length):(l.map f).getD i []=f (l.getD i d):=by
 rw[ai (by simpa using h),ai h,ϵ]
theorem xl {f:Nat->List Int} (h:i<n):((List.range n).map f).getD i []=f i:=by
 rw[ai (by simpa using h)];simp
theorem qm {f:Nat->Int} {e:Int} (h:i<n):((List.range n).map f).getD i e=f i:=by
 rw[ai (by simpa using h)];simp
theorem AF (h:HallN en re tb):IsR 1 en re tb (re.map λ_=>1) (en.map λ_=>[0]):=by
 have gc:∀b,b<re.length->(re.map λ_=>(1:Int)).getD b (-1)=1:=λb hb=>i6 (d:=0) hb;have gm:∀i,i<en.length->(en.map λ_=>[(0:Int)]).getD i []=[0]:=λi hi=>lM (d:=(0,0)) hi;refine⟨by simp,by simp,λb hb=>?_,λi hi=>?_,λi hi x hx=>?_,λb hb=>?_,λi j k hi hj e=>?_⟩
 ·rw[gc b hb];omega
 ·rw[gm i hi,gc _ (h.eb i hi).1];rfl
 ·rw[gm i hi]at hx;rw[gc _ (h.eb i hi).2,ϓ.mp hx];omega
 ·rw[gm _ (h.rs b hb).1,gc b hb];rfl
 ·obtain⟨_,hk,_⟩:=eS h hi hj e;rw[gm k hk,gm i hi,gm j hj];rfl
end
section
variable {sz:List Nat} {kn:List Arr}
end
variable {L:Nat}
section
variable {en:List (Nat×Nat)} {re:List Nat} {tb:List (List Int)} {s:Nat}
def btw (en:List (Nat×Nat)) (a b:Nat):List Nat:=(List.range en.length).filter λn=>decide (en.getD n (0,0)=(a,b))
theorem pP (a b:Nat):(btw en a b).length<=en.length:=by
 unfold btw;exact ϣ (List.length_filter_le _ _) (by rw[ϸ];exact ϗ _)
theorem mem_btw {a:Nat}:n∈btw en a b↔n<en.length/\en.getD n (0,0)=(a,b):=by
 unfold btw;rw[Υ,ό,decide_eq_true_iff]
theorem E6 (a b:Nat):(btw en a b).Nodup:=List.nodup_range.filter _
def sD (en:List (Nat×Nat)) (re:List Nat) (s:Nat):List Int:=(List.range re.length).map λt=>((btw en s t).length:Int)
def ent (tb:List (List Int)) (i j:Nat):Nat:=((tb.getD i []).getD j (-1)).toNat
def mK (en:List (Nat×Nat)) (tb:List (List Int)) (s k:Nat):List Int:=(btw en s (en.getD k (0,0)).1).map λx=>((btw en s (en.getD k (0,0)).2).idxOf (ent tb x k):Int)
def mJ (en:List (Nat×Nat)) (tb:List (List Int)) (s:Nat):List (List Int):=(List.range en.length).map (mK en tb s)
theorem tF (h:HallN en re tb) {x:Nat} (hk:k<en.length) (hx:x∈btw en s (en.getD k (0,0)).1):(tb.getD x []).getD k (-1)=(ent tb x k:Int)/\ent tb x k∈btw en s (en.getD k (0,0)).2:=by
 obtain⟨x1,x2⟩:=mem_btw.mp hx;obtain⟨q,q1,q2,q3⟩:=h.tp x k x1 hk (by rw[x2]);have e:ent tb x k=q:=by unfold ent;rw[q2,Α]
 rw[e];rw[x2]at q3;exact⟨q2,mem_btw.mpr ⟨q1,q3⟩⟩
theorem As (h:HallN en re tb) (hL:∀t,t<re.length->(btw en s t).length<=L):IsR L en re tb (sD en re s) (mJ en tb s):=by
 have gc:∀b,b<re.length->(sD en re s).getD b (-1)=((btw en s b).length:Int):=λb hb=>qm hb;have gm:∀i,i<en.length->(mJ en tb s).getD i []=mK en tb s i:=λi hi=>xl hi;refine⟨by simp[sD],by simp[mJ],λb hb=>?_,λi hi=>?_,λi hi x hx=>?_,λb hb=>?_,λi j k hi hj e=>?_⟩
 ·rw[gc b hb];have:=hL b hb;omega
 ·rw[gm i hi,gc _ (h.eb i hi).1];unfold mK;rw[ϋ]
 ·rw[gm i hi]at hx;rw[gc _ (h.eb i hi).2];unfold mK at hx;obtain⟨y,hy,rfl⟩:=ϱ.mp hx;have:=List.idxOf_lt_length_of_mem (tF h hi hy).2;omega
 ·obtain⟨q1,q2⟩:=h.rs b hb;rw[gm _ q1,gc b hb,Α];unfold mK;rw[q2];dsimp only;apply υ
  ·rw[ϋ,Di]
  ·intro n n1 n2;rw[ϋ]at n1;rw[ϵ];have hm:=Ϙ n1;obtain⟨x1,x2⟩:=mem_btw.mp hm;have u:=h.ur _ x1;rw[x2]at u;have e:ent tb (btw en s b)[n] (re.getD b 0)=(btw en s b)[n]:=by
    unfold ent;rw[u,Α]
   rw[e,(E6 s b).idxOf_getElem n n1,<- ai (d:=(-1:Int)) n2,xi n1]
 ·obtain⟨e1,hk,e2⟩:=eS h hi hj e;rw[gm k hk,gm i hi,gm j hj];unfold mK fol;rw[e2,ϩ];dsimp only;apply Ϧ;intro x hx;simp only[Function.comp,Α];obtain⟨y1,y2⟩:=tF h hi hx;rw[e1]at y2;have yl:=List.idxOf_lt_length_of_mem y2;rw[e1];rw[i6 (d:=0) yl,ai yl,List.getElem_idxOf];have x1:=(mem_btw.mp hx).1;have as:=h.as x i j _ k x1 hi hj y1 e;have:ent tb (ent tb x i) j=ent tb x k:=by
   unfold ent at as ⊢;rw[as]
  rw[this]
end
theorem nH:∀l:List Int,fA (l.map D.int)=some l
 | []=>rfl
 | a::r=>by
  rw[Ϯ];unfold fA;rw[nH r];rfl
theorem uV {k:Nat}:∀{l:List Nat},k∈l->(l.map λ(n:Nat)=>(n:Int)).findIdx? (· == (k:Int))=some (l.idxOf k)
 | [],h=>by cases h
 | a::r,h=>by
  rw[Ϯ,List.findIdx?_cons,List.idxOf_cons];by_cases e:a=k
  ·subst e;simp
  ·have e1:((a:Int)==(k:Int))=false:=by rw[beq_eq_false_iff_ne];omega
   have e2:(a==k)=false:=by rw[beq_eq_false_iff_ne];exact e
   have hr:k∈r:=by
    rcases Ϣ.mp h with rfl|h
    ·exact absurd rfl e
    ·exact h
   rw[e1,e2,uV hr];rfl
theorem Ba {l:List Nat} (h:k∈l) (hl:l.length<=100000):yK (ac l) (.int (k:Int))=.val (.int (l.idxOf k:Int)):=by
 unfold yK ac;dsimp only;rw[jM];dsimp only;rw[if_pos (by rw[ϋ];exact hl),uV h]
theorem AY {Fo:Rho->R D} {l:List Nat} {t:Int} (h1:Fo U=.val (ac l)) (h2:F U=.val (.int t)):sX Fo F U=yK (ac l) (.int t):=by
 unfold sX;rw[h1,h2];rfl
variable {ρ':Rho}
theorem dL {A B:Rho->R Out} (h:A U=.val (.nx ρ')):sq A B U=B ρ':=by rw[ar,h];rfl
theorem kM (l:List Y) (f:Y->List Int):D.lst (l.map λa=>ae (f a))=af (l.map f):=by
 unfold af;rw[ϩ];rfl
theorem z7 (l:List Y) (f:Y->Int):D.lst (l.map λa=>.int (f a))=ae (l.map f):=by
 unfold ae;rw[ϩ];rfl
theorem gM {e:Rho->R D} {f:Y->D} {g:Y->Int} {l:List Y} (hs:src U=.val (l.map f)) (hl:l.length<=100000) (h:∀a∈l,e ((U++List.replicate n none).set i (sh (f a)))=.val (.int (g a))) :
  eLs (av src n (tgN i) tT e) U=.val (ae (l.map g)):=by
 rw[aP,aS (f:=f) (g:=λa=>.int (g a)) hs hl h,aa,z7]
section
variable {en:List (Nat×Nat)} {re:List Nat} {tb:List (List Int)} {r:List D}
theorem qY (h:HallN en re tb) (a b:Nat):bP [.tup (aw en::r),nD a,nD b]=.val (ac (btw en a b)):=by
 simp only[bP,gf];show fin (ret _ [sh (.tup (aw en::r)),sh (nD a),sh (nD b)])=_;have n40:=h.na40;have hc:=cF (src:=aK (aC (una aj (bin fix (vb 0) (kd (.int 0)))) aN)) (n:=1) (T:=tgN 3) (t:=tst (bin feq (bin fix (bin fix (vb 0) (kd (.int 0))) (vb 3)) (eT (aC (vr 1) (aC (vr 2) aN))))) (e:=vr 3) (f:=nD) (g:=nD) (p:=λn=>decide (en.getD n (0,0)=(a,b))) (l:=List.range en.length) (U:=[sh (.tup (aw en::r)),sh (nD a),sh (nD b)]) (cM (by simp) (by omega)) (by rw[ϸ];omega) λn hn=>⟨_,rfl,by
  have hn:=ό.mp hn;have f1:=ce (en:=en) hn;have q:=Bc (en.getD n (0,0)) (a,b);simp[-List.getD_eq_getElem?_getD,f1];exact congrArg (λz=>R.bind z asB) q,rfl⟩
 rw[bM,aP,hc];rfl
theorem Bq (h:HallN en re tb) (s:Nat):di [.tup (aw en::ac re::af tb::r),nD s]=.val (.tup [ae (sD en re s),af (mJ en tb s)]):=by
 simp only[di,kj];have n40:=h.na40;have n6:=h.nb6;have tl:=h.tl;show fin (sq _ _ [sh (.tup (aw en::ac re::af tb::r)),sh (nD s),none,none,none,none,none])=_;have s1:asg 2 (eLs (av (aK (aC (una aj (bin fix (vb 0) (kd (.int 1)))) aN)) 1 (tgN 7) tT (cal 3 bP (aC (vr 0) (aC (vr 1) (aC (vr 7) aN)))))) [sh (.tup (aw en::ac re::af tb::r)),sh (nD s),none,none,none,none,none]=.val (.nx [sh (.tup (aw en::ac re::af tb::r)),sh (nD s),sh (.lst ((List.range re.length).map λt=>ac (btw en s t))),none,none,none,none]):=by
  have hc:=aS (src:=aK (aC (una aj (bin fix (vb 0) (kd (.int 1)))) aN)) (n:=1) (i:=7) (e:=cal 3 bP (aC (vr 0) (aC (vr 1) (aC (vr 7) aN)))) (f:=nD) (g:=λt=>ac (btw en s t)) (l:=List.range re.length) (U:=[sh (.tup (aw en::ac re::af tb::r)),sh (nD s),none,none,none,none,none]) (cM (by simp) (by omega)) (by rw[ϸ];omega) λt _=>by
   have:=qY (r:=ac re::af tb::r) h s t;simp[this]
  rw[dn,aP,hc];rfl
 rw[dL s1,ar];show fin (sq _ _ [sh (.tup (aw en::ac re::af tb::r)),sh (nD s),sh (.lst ((List.range re.length).map λt=>ac (btw en s t))),some (.own []),none,none,none])=_;have th:∀t,t<re.length->fix (.lst ((List.range re.length).map λt=>ac (btw en s t))) (.int (t:Int))=.val (ac (btw en s t)):=λt ht=>gK (by simp[ht]);obtain⟨ρ',e,a4,a5,a6,rfl⟩:=dE (i:=4) (n:=en.length) (F:=(sq (asT (tg2 5 6) (bin fix (bin fix (vb 0) (kd (.int 0))) (vb 4)))
  (app 3 (eLs (av (fIt (bin fix (vb 2) (vb 5))) 1 (tgN 7) tT (sX (bin fix (vb 2) (vb 6)) (bin fix (bin fix (bin fix (vb 0) (kd (.int 2))) (vb 7)) (vb 4)))))))) (λk U=>∃(a4 a5 a6:Option Slt),U=[sh (.tup (aw en::ac re::af tb::r)),sh (nD s),sh (.lst ((List.range re.length).map λt=>ac (btw en s t))),some (.own (((List.range k).map (mK en tb s)).map ae)),a4,a5,a6]) (λk U hk hI=>by
  obtain⟨a4,a5,a6,rfl⟩:=hI;have eb:=h.eb k hk;have fe:=ce (en:=en) (i:=k) hk;have s2:asT (tg2 5 6) (bin fix (bin fix (vb 0) (kd (.int 0))) (vb 4)) [sh (.tup (aw en::ac re::af tb::r)),sh (nD s),sh (.lst ((List.range re.length).map λt=>ac (btw en s t))),some (.own (((List.range k).map (mK en tb s)).map ae)),sh (nD k),a5,a6]=.val (.nx [sh (.tup (aw en::ac re::af tb::r)),sh (nD s),sh (.lst ((List.range re.length).map λt=>ac (btw en s t))),some (.own (((List.range k).map (mK en tb s)).map ae)),sh (nD k),sh (nD (en.getD k (0,0)).1),sh (nD (en.getD k (0,0)).2)]):=by
   simp[-List.getD_eq_getElem?_getD,fe,bp];rfl
  generalize hw:((List.range k).map (mK en tb s)).map ae=acc at s2 ⊢;have al:acc.length=k:=by rw[<- hw];simp
  have z2:=gM (src:=fIt (bin fix (vb 2) (vb 5))) (n:=1) (i:=7) (e:=sX (bin fix (vb 2) (vb 6)) (bin fix (bin fix (bin fix (vb 0) (kd (.int 2))) (vb 7)) (vb 4))) (f:=nD) (g:=λx=>((btw en s (en.getD k (0,0)).2).idxOf (ent tb x k):Int)) (l:=btw en s (en.getD k (0,0)).1) (U:=[sh (.tup (aw en::ac re::af tb::r)),sh (nD s),sh (.lst ((List.range re.length).map λt=>ac (btw en s t))),some (.own acc),sh (nD k),sh (nD (en.getD k (0,0)).1),sh (nD (en.getD k (0,0)).2)]) (by
    have:=th _ eb.1;exact(congrArg (λz=>R.bind z itD) this).trans rfl) (by have:=pP (en:=en) s (en.getD k (0,0)).1;omega) (λx hx=>by
    obtain⟨x1,x2⟩:=mem_btw.mp hx;obtain⟨q2,q3⟩:=tF h hk hx;have f1:=aJ (tb:=tb) (i:=x) (by omega);have f2:=aM (r:=tb.getD x []) (i:=k) (by rw[h.rl x x1];exact hk);rw[q2]at f2;have hj:=Ba (l:=btw en s (en.getD k (0,0)).2) (k:=ent tb x k) q3 (by have:=pP (en:=en) s (en.getD k (0,0)).2;omega);have g1:bin fix (vb 2) (vb 6) ((([sh (.tup (aw en::ac re::af tb::r)),sh (nD s),sh (.lst ((List.range re.length).map λt=>ac (btw en s t))),some (.own acc),sh (nD k),sh (nD (en.getD k (0,0)).1),sh (nD (en.getD k (0,0)).2)]:Rho)++List.replicate 1 none).set 7 (sh (nD x)))=.val (ac (btw en s (en.getD k (0,0)).2)):=th _ eb.2;have g2:bin fix (bin fix (bin fix (vb 0) (kd (.int 2))) (vb 7)) (vb 4) ((([sh (.tup (aw en::ac re::af tb::r)),sh (nD s),sh (.lst ((List.range re.length).map λt=>ac (btw en s t))),some (.own acc),sh (nD k),sh (nD (en.getD k (0,0)).1),sh (nD (en.getD k (0,0)).2)]:Rho)++List.replicate 1 none).set 7 (sh (nD x)))=.val (.int (ent tb x k:Int)):=by
     simp[-List.getD_eq_getElem?_getD,f1,f2]
    rw[AY g1 g2,hj])
  have s3:=iT (i:=3) (U:=[sh (.tup (aw en::ac re::af tb::r)),sh (nD s),sh (.lst ((List.range re.length).map λt=>ac (btw en s t))),some (.own acc),sh (nD k),sh (nD (en.getD k (0,0)).1),sh (nD (en.getD k (0,0)).2)]) rfl z2 (by omega);exact⟨_,(dL s2).trans s3,sh (nD k),sh (nD (en.getD k (0,0)).1),sh (nD (en.getD k (0,0)).2),by rw[α,Ϭ,Ϭ,hw];rfl⟩) (U:=[sh (.tup (aw en::ac re::af tb::r)),sh (nD s),sh (.lst ((List.range re.length).map λt=>ac (btw en s t))),some (.own []),none,none,none]) ⟨none,none,none,rfl⟩
 have sr:aK (aC (una aj (bin fix (vb 0) (kd (.int 0)))) aN) [sh (.tup (aw en::ac re::af tb::r)),sh (nD s),sh (.lst ((List.range re.length).map λt=>ac (btw en s t))),some (.own []),none,none,none]=.val (rng 0 en.length):=by
  rw[dq];exact cM (by simp) (by omega)
 rw[ar,bK,sr,aa,e,aa];dsimp only;have hc:=gM (src:=fIt (vr 2)) (n:=1) (i:=7) (e:=una aj (vb 7)) (f:=λt=>ac (btw en s t)) (g:=λt=>((btw en s t).length:Int)) (l:=List.range re.length) (U:=[sh (.tup (aw en::ac re::af tb::r)),sh (nD s),sh (.lst ((List.range re.length).map λt=>ac (btw en s t))),sh (af (mJ en tb s)),a4,a5,a6]) rfl (by rw[ϸ];omega) λt _=>by simp
 rw[yp];show fin (ret _ [sh (.tup (aw en::ac re::af tb::r)),sh (nD s),sh (.lst ((List.range re.length).map λt=>ac (btw en s t))),sh (af (mJ en tb s)),a4,a5,a6])=_;rw[bM,jh,aZ,hc,aa];rfl
end
variable {en:List (Nat×Nat)} {tb ms:List (List Int)} {cs:List Int}
theorem IsR.row {re:List Nat} (h:HallN en re tb) (r:IsR L en re tb cs ms):∀l∈ms,l.length<=L:=by
 intro l hl;obtain⟨i,hi,rfl⟩:=ϲ.mp hl;have hi':i<en.length:=by rw[<- r.lm];exact hi
 have:=r.ml i hi';rw[ai hi]at this;have:=r.cb _ (h.eb i hi').1;omega
theorem IsR.bd {re:List Nat} (h:HallN en re tb) (r:IsR L en re tb cs ms) (hL:L<=1000):Bd cs ms:=by
 have:=h.nb6;have:=h.na40;exact⟨by rw[r.lc];omega,by rw[r.lm];omega,λl hl=>ϣ (r.row h l hl) hL⟩
theorem IsR.up {M:Nat} {re:List Nat} (r:IsR L en re tb cs ms) (hL:L<=M):IsR M en re tb cs ms:=⟨r.lc,r.lm,λb hb=>by have:=r.cb b hb;omega,r.ml,r.mb,r.idn,r.cmp⟩
theorem nJ (h:0<cs.length):gJ (ae cs)=.val (.int (ip cs)):=by
 unfold gJ ae;dsimp only;rw[nH];dsimp only;rw[if_pos h]
variable {a c:D} {A B C:Rho->R D} {den:List D->R D}
theorem pH {b:D} (ha:A U=.val a) (hb:B U=.val b) (hc:C U=.val c) (h:den [a,b,c]=.val x):cal 3 den (aC A (aC B (aC C aN))) U=.val x:=by
 simp[ha,hb,hc,h]
theorem yW {f:Y->D} (l:List Y) (d:Y):enu 0 (l.map f)=(List.range l.length).map λi=>.tup [nD i,f (l.getD i d)]:=by
 rw[fW,ϋ];apply Ϧ;intro i hi;have hi:=ό.mp hi;rw[Λ,ai (show i<(l.map f).length by simpa using hi),ai hi,ϵ]
theorem zn (ha:A U=.val a) (h:den [a]=.val x):cal 1 den (aC A aN) U=.val x:=by
 simp[ha,h]
theorem iS {b:D} (ha:A U=.val a) (hb:B U=.val b) (h:den [a,b]=.val x):cal 2 den (aC A (aC B aN)) U=.val x:=by
 simp[ha,hb,h]
variable {E:Rho->R D}
theorem rB {b e:D} (ha:A U=.val a) (hb:B U=.val b) (hc:C U=.val c) (he:E U=.val e) (h:den [a,b,c,e]=.val x):cal 4 den (aC A (aC B (aC C (aC E aN)))) U=.val x:=by
 simp[ha,hb,hc,he,h]
theorem E5 {b e f:D} (ha:A U=.val a) (hb:B U=.val b) (hc:C U=.val c) (he:E U=.val e) (hf:F U=.val f) (h:den [a,b,c,e,f]=.val x):cal 5 den (aC A (aC B (aC C (aC E (aC F aN))))) U=.val x:=by
 simp[ha,hb,hc,he,hf,h]
theorem bR {e:Rho->R D} (h:e U=.val x):asg i e U=.val (.nx (U.set i (sh x))):=by rw[dn,h];rfl
theorem tG {e:Rho->R D} (h:e U=.val x):drp e U=.val (.nx U):=by rw[za,h];rfl
theorem bo {t:Rho->R Bool} {a:Rho->R Out} (h:t U=.val false):DL.iff t a nxt U=.val (.nx U):=by rw[aR,h];rfl
section
variable {en:List (Nat×Nat)} {re:List Nat} {tb:List (List Int)} {cs:List Int} {ms:List (List Int)} {L:Nat}
theorem dh (h:HallN en re tb) (r:IsR 40 en re tb cs ms):aO [hlD en re tb,.tup [ae cs,af ms]]=.val .non:=by
 simp only[aO,cZ];show fin (DL.iff _ _ _ [sh (hlD en re tb),sh (.tup [ae cs,af ms])])=_;have e:=e_ h (r.bd h (by decide));rw[r.tru h (by decide)]at e;have e2:cal 3 bq (aC (vr 0) (aC (bin fix (vb 1) (kd (.int 0))) (aC (bin fix (vb 1) (kd (.int 1))) aN))) [sh (hlD en re tb),sh (.tup [ae cs,af ms])]=.val (.bl true):=pH (a:=hlD en re tb) (b:=ae cs) (c:=af ms) rfl rfl rfl e;have t:orB (tst (bin fne (una aj (vb 1)) (kd (.int 2)))) (bz (tst (cal 3 bq (aC (vr 0) (aC (bin fix (vb 1) (kd (.int 0))) (aC (bin fix (vb 1) (kd (.int 1))) aN)))))) [sh (hlD en re tb),sh (.tup [ae cs,af ms])]=.val false:=by
  rw[gB,dA,bn _ (cal 3 _ _),e2];rfl
 rw[bo t];rfl
end
abbrev PF:=List (List (Option Int))
def fa (f:PF) (b t:Nat):Option Int:=(f.getD b []).getD t none
def vM (f:PF) (b t:Nat) (g:Int):PF:=f.set b ((f.getD b []).set t (some g))
def Shp (cs:List Int) (n:Nat) (f:PF):Prop:=f.length=n/\∀b,b<n->((f.getD b []).length:Int)=cs.getD b (-1)
variable {f:PF} {t:Nat}
theorem tm {b' t':Nat} {g:Int} (hb:b<f.length) (ht:t<(f.getD b []).length):fa (vM f b t g) b' t'=if b'=b/\t'=t then some g else fa f b' t':=by
 unfold fa vM;by_cases e:b'=b
 ·subst e;rw[ϊ (l:=f.set _ _),Ϲ hb,Option.getD_some];by_cases e2:t'=t
  ·subst e2;rw[ϊ,Ϲ ht,if_pos ⟨rfl,rfl⟩];rfl
  ·rw[ϊ,ϖ (by omega),if_neg (by omega),<- ϊ]
 ·rw[ϊ (l:=f.set _ _),ϖ (by omega),if_neg (by omega),<- ϊ]
theorem Shp.put (s:Shp cs n f) (b t:Nat) (g:Int):Shp cs n (vM f b t g):=by
 refine⟨by unfold vM;rw[ϰ];exact s.1,λc hc=>?_⟩;unfold vM;by_cases e:c=b
 ·subst e;rw[ϊ,Ϲ (by rw[s.1];exact hc),Option.getD_some,ϰ];exact s.2 c hc
 ·rw[ϊ,ϖ (by omega),<- ϊ];exact s.2 c hc
def stl (f:PF) (b t:Nat) (g:Int):Option PF:=match fa f b t with
 | none=>some (vM f b t g)
 | some g'=>if g'=g then some f else none
section
variable (en:List (Nat×Nat)) (ms ns:List (List Int)) (box thing goal:Nat)
def aT (a:Nat):Nat:=((ms.getD a []).getD thing (-1)).toNat
def aG (a:Nat):Int:=(ns.getD a []).getD goal (-1)
def tal:List Nat->PF->Option PF
 | [],f=>some f
 | a::l,f=>if(en.getD a (0,0)).1=box then(match stl f (en.getD a (0,0)).2 (aT ms thing a) (aG ns goal a)with
  | some f'=>tal l f'
  | none=>none)else tal l f
end
variable {f':PF}
section
variable {en:List (Nat×Nat)} {ms ns:List (List Int)} {box thing goal:Nat} {cs:List Int} {n:Nat}
theorem si {g:Int} (s:Shp cs n f) (hb:b<n) (ht:(t:Int)<cs.getD b (-1)) (h:stl f b t g=some f') :
  Shp cs n f'/\(∀c u x,fa f c u=some x->fa f' c u=some x)/\fa f' b t=some g/\∀c u x,fa f' c u=some x->fa f c u=some x\/(c=b/\u=t/\x=g):=by
 have hb':b<f.length:=by rw[s.1];exact hb
 have ht':t<(f.getD b []).length:=by have:=s.2 b hb;omega
 unfold stl at h;cases e:fa f b t with
 | none =>
  rw[e]at h;cases h;refine⟨s.put b t g,λc u x hx=>?_,?_,λc u x hx=>?_⟩
  ·rw[tm hb' ht',if_neg (λz=>by rw[z.1,z.2,e]at hx;cases hx)];exact hx
  ·rw[tm hb' ht',if_pos ⟨rfl,rfl⟩]
  ·rw[tm hb' ht']at hx;by_cases z:c=b/\u=t
   ·rw[if_pos z]at hx;exact .inr ⟨z.1,z.2,(Ϥ hx).symm⟩
   ·rw[if_neg z]at hx;exact .inl hx
 | some g' =>
  rw[e]at h;dsimp only at h;by_cases z:g'=g
  ·rw[if_pos z]at h;cases h;exact⟨s,λ_ _ _ hx=>hx,by rw[e,z],λ_ _ _ hx=>.inl hx⟩
  ·rw[if_neg z]at h;cases h
theorem r9:∀{l:List Nat} {f f':PF},Shp cs n f->(∀a∈l,(en.getD a (0,0)).1=box->(en.getD a (0,0)).2<n/\(aT ms thing a:Int)<cs.getD (en.getD a (0,0)).2 (-1))->tal en ms ns box thing goal l f=some f' ->
  Shp cs n f'/\(∀c u x,fa f c u=some x->fa f' c u=some x)/\(∀a∈l,(en.getD a (0,0)).1=box->fa f' (en.getD a (0,0)).2 (aT ms thing a)=some (aG ns goal a)) /\
  ∀c u x,fa f' c u=some x->fa f c u=some x\/∃a∈l,(en.getD a (0,0)).1=box/\c=(en.getD a (0,0)).2/\u=aT ms thing a/\x=aG ns goal a
 | [],f,f',s,_,h=>by
  cases h;exact⟨s,(λ_ _ _ h=>h),(λa ha=>nomatch ha),(λ_ _ _ h=>.inl h)⟩
 | a::l,f,f',s,hv,h=>by
  unfold tal at h;by_cases e:(en.getD a (0,0)).1=box
  ·rw[if_pos e]at h;cases z:stl f (en.getD a (0,0)).2 (aT ms thing a) (aG ns goal a)with
   | none=>rw[z]at h;cases h
   | some f1 =>
    rw[z]at h;obtain⟨v1,v2⟩:=hv a (by simp) e;obtain⟨s1,k1,g1,b1⟩:=si s v1 v2 z;obtain⟨s2,k2,g2,b2⟩:=r9 s1 (λc hc=>hv c (by simp[hc])) h;refine⟨s2,λc u x hx=>k2 c u x (k1 c u x hx),λc hc ec=>?_,λc u x hx=>?_⟩
    ·rcases Ϣ.mp hc with rfl|hc
     ·exact k2 _ _ _ g1
     ·exact g2 c hc ec
    ·rcases b2 c u x hx with q|⟨d,hd,q⟩
     ·rcases b1 c u x q with q|q
      ·exact .inl q
      ·exact .inr ⟨a,by simp,e,q⟩
     ·exact .inr ⟨d,by simp[hd],q⟩
  ·rw[if_neg e]at h;obtain⟨s2,k2,g2,b2⟩:=r9 s (λc hc=>hv c (by simp[hc])) h;refine⟨s2,k2,λc hc ec=>?_,λc u x hx=>?_⟩
   ·rcases Ϣ.mp hc with rfl|hc
    ·exact absurd ec e
    ·exact g2 c hc ec
   ·rcases b2 c u x hx with q|⟨d,hd,q⟩
    ·exact .inl q
    ·exact .inr ⟨d,by simp[hd],q⟩
def Ext (F:Nat->Nat->Int) (f:PF):Prop:=∀b t g,fa f b t=some g->F b t=g
theorem oi {F:Nat->Nat->Int}:∀{l:List Nat} {f:PF},Shp cs n f->(∀a∈l,(en.getD a (0,0)).1=box->(en.getD a (0,0)).2<n/\(aT ms thing a:Int)<cs.getD (en.getD a (0,0)).2 (-1))->Ext F f->(∀a∈l,(en.getD a (0,0)).1=box->F (en.getD a (0,0)).2 (aT ms thing a)=aG ns goal a) ->
  ∃f',tal en ms ns box thing goal l f=some f'/\Ext F f'
 | [],f,_,_,x,_=>⟨f,rfl,x⟩
 | a::l,f,s,hv,x,hF=>by
  unfold tal;by_cases e:(en.getD a (0,0)).1=box
  ·rw[if_pos e];obtain⟨v1,v2⟩:=hv a (by simp) e;have hx:=hF a (by simp) e;have:∃f1,stl f (en.getD a (0,0)).2 (aT ms thing a) (aG ns goal a)=some f1/\Shp cs n f1/\Ext F f1:=by
    cases z:stl f (en.getD a (0,0)).2 (aT ms thing a) (aG ns goal a)with
    | none =>
     exfalso;unfold stl at z;cases y:fa f (en.getD a (0,0)).2 (aT ms thing a)with
     | none=>rw[y]at z;cases z
     | some g' =>
      rw[y]at z;dsimp only at z;by_cases q:g'=aG ns goal a
      ·rw[if_pos q]at z;cases z
      ·exact q (by rw[<- x _ _ _ y,hx])
    | some f1 =>
     obtain⟨s1,_,_,b1⟩:=si s v1 v2 z;refine⟨f1,rfl,s1,λb t g hg=>?_⟩;rcases b1 b t g hg with q|⟨rfl,rfl,rfl⟩
     ·exact x _ _ _ q
     ·exact hx
   obtain⟨f1,e1,s1,x1⟩:=this;rw[e1];exact oi s1 (λc hc=>hv c (by simp[hc])) x1 λc hc=>hF c (by simp[hc])
  ·rw[if_neg e];exact oi s (λc hc=>hv c (by simp[hc])) x λc hc=>hF c (by simp[hc])
end
section
variable (en:List (Nat×Nat)) (re:List Nat) (cs ds:List Int) (ms ns:List (List Int))
def Ntl (F:Nat->Nat->Int):Prop:=(∀b t:Nat,b<re.length->(t:Int)<cs.getD b (-1)->0<=F b t/\F b t<ds.getD b (-1)) /\
 ∀a t:Nat,a<en.length->(t:Int)<cs.getD (en.getD a (0,0)).1 (-1)->F (en.getD a (0,0)).2 (aT ms t a)=aG ns (F (en.getD a (0,0)).1 t).toNat a
def ClF (f:PF):Prop:=Shp cs re.length f/\(∀b t g,fa f b t=some g->0<=g/\g<ds.getD b (-1))/\∀a t g,a<en.length->fa f (en.getD a (0,0)).1 t=some g->fa f (en.getD a (0,0)).2 (aT ms t a)=some (aG ns g.toNat a)
def Val (b t:Nat):Prop:=b<re.length/\(t:Int)<cs.getD b (-1)
def Bef (b' t' b t:Nat):Prop:=b'<b\/(b'=b/\t'<t)
def FLt (f f':PF):Prop:=∃b t g g',fa f b t=some g/\fa f' b t=some g'/\g<g'/\∀b' t',Bef b' t' b t->Val re cs b' t'->∃v,fa f b' t'=some v/\fa f' b' t'=some v
def ton (b t:Nat) (f:PF):List PF:=if(fa f b t).isSome=true then[f]else(List.range (ds.getD b (-1)).toNat).flatMap λg=>(tal en ms ns b t g (List.range en.length) f).toList
def tOn (b t:Nat) (fs:List PF):List PF:=fs.flatMap (ton en ds ms ns b t)
def FInv (b t:Nat) (fs:List PF):Prop:=(∀f∈fs,ClF en re cs ds ms ns f/\∀b' t',Bef b' t' b t->Val re cs b' t'->∃v,fa f b' t'=some v)/\fs.Pairwise (FLt re cs)/\∀F,Ntl en re cs ds ms ns F->∃f∈fs,Ext F f
end
variable {g:Nat}
section
variable {en:List (Nat×Nat)} {re:List Nat} {tb:List (List Int)} {cs ds:List Int} {ms ns:List (List Int)} {L M:Nat}
theorem zv (r:IsR L en re tb cs ms) {a:Nat} (ha:a<en.length) (ht:(t:Int)<cs.getD (en.getD a (0,0)).1 (-1)):0<=(ms.getD a []).getD t (-1)/\(aT ms t a:Int)<cs.getD (en.getD a (0,0)).2 (-1):=by
 have l:=r.ml a ha;have hl:t<(ms.getD a []).length:=by omega
 have:=r.mb a ha ((ms.getD a []).getD t (-1)) (by rw[ai hl];exact Ϙ hl);unfold aT;omega
theorem GS (q:IsR M en re tb ds ns) {a:Nat} (ha:a<en.length) (hg:(g:Int)<ds.getD (en.getD a (0,0)).1 (-1)):0<=aG ns g a/\aG ns g a<ds.getD (en.getD a (0,0)).2 (-1):=by
 have l:=q.ml a ha;have hl:g<(ns.getD a []).length:=by omega
 exact q.mb a ha ((ns.getD a []).getD g (-1)) (by rw[ai hl];exact Ϙ hl)
theorem yz {a b:List Int} (h:t<a.length):(fol a b).getD t (-1)=b.getD (a.getD t (-1)).toNat (-1):=by
 unfold fol;rw[i6 (d:=-1) h]
theorem Fd (h:HallN en re tb) (r:IsR L en re tb cs ms) (hi:i<en.length) (hj:j<en.length) (e:(tb.getD i []).getD j (-1)=(k:Int)) (ht:(t:Int)<cs.getD (en.getD i (0,0)).1 (-1)):aT ms t k=aT ms (aT ms t i) j:=by
 have l:=r.ml i hi;unfold aT;rw[r.cmp i j k hi hj e,yz (by omega)]
theorem Fe (h:HallN en re tb) (q:IsR M en re tb ds ns) (hi:i<en.length) (hj:j<en.length) (e:(tb.getD i []).getD j (-1)=(k:Int)) (hg:(g:Int)<ds.getD (en.getD i (0,0)).1 (-1)):aG ns g k=aG ns (aG ns g i).toNat j:=by
 have l:=q.ml i hi;unfold aG;rw[q.cmp i j k hi hj e,yz (by omega)]
theorem BX (r:IsR L en re tb cs ms) (hb:b<re.length) (ht:(t:Int)<cs.getD b (-1)):aT ms t (re.getD b 0)=t:=by
 unfold aT;rw[r.idn b hb,xi (by omega)];omega
theorem BY (q:IsR M en re tb ds ns) (hb:b<re.length) (hg:(g:Int)<ds.getD b (-1)):aG ns g (re.getD b 0)=(g:Int):=by
 unfold aG;rw[q.idn b hb,xi (by omega)]
theorem oh (h:HallN en re tb) (r:IsR L en re tb cs ms) (ht:(t:Int)<cs.getD b (-1)):∀a∈List.range en.length,(en.getD a (0,0)).1=b->(en.getD a (0,0)).2<re.length/\(aT ms t a:Int)<cs.getD (en.getD a (0,0)).2 (-1):=λa ha e=>by
 have ha:=ό.mp ha;exact⟨(h.eb a ha).2,(zv r ha (by rw[e];exact ht)).2⟩
theorem r_ (h:HallN en re tb) (r:IsR L en re tb cs ms) (q:IsR M en re tb ds ns) (c:ClF en re cs ds ms ns f) (hb:b<re.length) (ht:(t:Int)<cs.getD b (-1)) (hg:(g:Int)<ds.getD b (-1)) (e:tal en ms ns b t g (List.range en.length) f=some f') :
  ClF en re cs ds ms ns f'/\fa f' b t=some (g:Int)/\∀c u x,fa f c u=some x->fa f' c u=some x:=by
 obtain⟨s,cv,cc⟩:=c;obtain⟨s2,k2,g2,b2⟩:=r9 s (oh h r ht) e;obtain⟨q1,q2⟩:=h.rs b hb;have at_:fa f' b t=some (g:Int):=by
  have:=g2 (re.getD b 0) (ό.mpr q1) (by rw[q2]);rw[q2,BX r hb ht,BY q hb hg]at this;exact this
 refine⟨⟨s2,λc u x hx=>?_,λa u x ha hx=>?_⟩,at_,k2⟩
 ·rcases b2 c u x hx with z|⟨a,ha,e1,rfl,rfl,rfl⟩
  ·exact cv c u x z
  ·exact GS q (ό.mp ha) (by rw[e1];exact hg)
 ·rcases b2 _ u x hx with z|⟨i,hi,e1,e2,rfl,rfl⟩
  ·exact k2 _ _ _ (cc a u x ha z)
  ·have hi:=ό.mp hi;obtain⟨k,hk,e3,e4⟩:=h.tp i a hi ha e2.symm;have:=g2 k (ό.mpr hk) (by rw[e4,<- e1]);rw[e4]at this;rw[<- Fd h r hi ha e3 (by rw[e1];exact ht),<- Fe h q hi ha e3 (by rw[e1];exact hg)];exact this
theorem n_ (h:HallN en re tb) (r:IsR L en re tb cs ms) (q:IsR M en re tb ds ns) (c:ClF en re cs ds ms ns f) (hb:b<re.length) (ht:(t:Int)<cs.getD b (-1)) (hm:f'∈ton en ds ms ns b t f) :
  ClF en re cs ds ms ns f'/\(∃v,fa f' b t=some v)/\∀c u x,fa f c u=some x->fa f' c u=some x:=by
 unfold ton at hm;by_cases e:(fa f b t).isSome=true
 ·rw[if_pos e]at hm;obtain rfl:=ϓ.mp hm;exact⟨c,Ε.mp e,λ_ _ _ x=>x⟩
 ·rw[if_neg e]at hm;obtain⟨g,hg,hm⟩:=Τ.mp hm;have hg:=ό.mp hg;obtain⟨a1,a2,a3⟩:=r_ h r q c hb ht (by omega) (Option.mem_toList.mp hm);exact⟨a1,⟨_,a2⟩,a3⟩
theorem FLt.up {g g':PF} (l:FLt re cs f f') (h1:∀c u x,fa f c u=some x->fa g c u=some x) (h2:∀c u x,fa f' c u=some x->fa g' c u=some x):FLt re cs g g':=by
 obtain⟨b,t,x,x',e1,e2,e3,e4⟩:=l;refine⟨b,t,x,x',h1 _ _ _ e1,h2 _ _ _ e2,e3,λb' t' hb hv=>?_⟩;obtain⟨v,v1,v2⟩:=e4 b' t' hb hv;exact⟨v,h1 _ _ _ v1,h2 _ _ _ v2⟩
theorem zL (h:HallN en re tb) (r:IsR L en re tb cs ms) (q:IsR M en re tb ds ns) {fs:List PF} (hb:b<re.length) (ht:(t:Int)<cs.getD b (-1)) (I:FInv en re cs ds ms ns b t fs):FInv en re cs ds ms ns b (t+1) (tOn en ds ms ns b t fs):=by
 obtain⟨i1,i2,i3⟩:=I;refine⟨λf' hf=>?_,?_,λF hF=>?_⟩
 ·obtain⟨f,hf,hm⟩:=Τ.mp hf;obtain⟨c,hs⟩:=i1 f hf;obtain⟨a1,a2,a3⟩:=n_ h r q c hb ht hm;refine⟨a1,λb' t' hB hv=>?_⟩;by_cases e:b'=b/\t'=t
  ·rw[e.1,e.2];exact a2
  ·obtain⟨v,hv⟩:=hs b' t' (by unfold Bef at *;omega) hv;exact⟨v,a3 _ _ _ hv⟩
 ·unfold tOn;rw[List.pairwise_flatMap];refine⟨λf hf=>?_,?_⟩
  ·obtain⟨c,hs⟩:=i1 f hf;unfold ton;by_cases e:(fa f b t).isSome=true
   ·rw[if_pos e];exact List.pairwise_singleton _ _
   ·rw[if_neg e,List.pairwise_flatMap];refine⟨λg _=>?_,?_⟩
    ·cases tal en ms ns b t g (List.range en.length) f with
     | none=>exact List.Pairwise.nil
     | some x=>exact List.pairwise_singleton _ _
    ·refine List.Pairwise.imp_of_mem ?_ (List.pairwise_lt_range (n:=(ds.getD b (-1)).toNat));intro g g' hg hg' hlt x hx y hy;have hg:=ό.mp hg;have hg':=ό.mp hg';obtain⟨x1,x2,x3⟩:=r_ h r q c hb ht (by omega) (Option.mem_toList.mp hx);obtain⟨y1,y2,y3⟩:=r_ h r q c hb ht (by omega) (Option.mem_toList.mp hy);refine⟨b,t,_,_,x2,y2,by omega,λb' t' hB hv=>?_⟩;obtain⟨v,hv⟩:=hs b' t' hB hv;exact⟨v,x3 _ _ _ hv,y3 _ _ _ hv⟩
  ·refine List.Pairwise.imp_of_mem ?_ i2;intro f f' hf hf' hl x hx y hy;obtain⟨_,_,x3⟩:=n_ h r q (i1 f hf).1 hb ht hx;obtain⟨_,_,y3⟩:=n_ h r q (i1 f' hf').1 hb ht hy;exact hl.up x3 y3
 ·obtain⟨f,hf,x⟩:=i3 F hF;have c:=(i1 f hf).1;by_cases e:(fa f b t).isSome=true
  ·exact⟨f,Τ.mpr ⟨f,hf,by unfold ton;rw[if_pos e];exact ϓ.mpr rfl⟩,x⟩
  ·have bd:=hF.1 b t hb ht;obtain⟨f',e',x'⟩:=oi (goal:=(F b t).toNat) (ns:=ns) c.1 (oh h r ht) x λa ha ea=>by
    have ha:=ό.mp ha;have:=hF.2 a t ha (by rw[ea];exact ht);rw[ea]at this;exact this
   refine⟨f',Τ.mpr ⟨f,hf,?_⟩,x'⟩;unfold ton;rw[if_neg e];exact Τ.mpr ⟨(F b t).toNat,ό.mpr (by omega),by rw[e'];exact Option.mem_toList.mpr rfl⟩
theorem FInv.next {fs:List PF} (I:FInv en re cs ds ms ns b (cs.getD b (-1)).toNat fs):FInv en re cs ds ms ns (b+1) 0 fs:=by
 refine⟨λf hf=>⟨(I.1 f hf).1,λb' t' hB hv=>(I.1 f hf).2 b' t' ?_ hv⟩,I.2⟩;have:=hv.2;unfold Bef at *;by_cases e:b'=b
 ·subst e;omega
 ·omega
def f0 (cs:List Int):PF:=cs.map λc=>List.replicate c.toNat none
theorem yM:fa (f0 cs) b t=none:=by
 unfold fa f0;by_cases hb:b<cs.length
 ·rw[ϊ (l:=cs.map _),ϥ,Ϗ hb];show(List.replicate _ none).getD t none=none;rw[ϊ];by_cases ht:t<cs[b].toNat
  ·rw[Ϗ (by simpa using ht),List.getElem_replicate];rfl
  ·rw[τ (by simpa using ht)];rfl
 ·rw[ϊ (l:=cs.map _),τ (by simpa using hb)];rfl
theorem Et (r:IsR L en re tb cs ms):FInv en re cs ds ms ns 0 0 [f0 cs]:=by
 refine⟨λf hf=>?_,List.pairwise_singleton _ _,λF _=>⟨_,ϓ.mpr rfl,λb t g e=>by rw[yM]at e;cases e⟩⟩;obtain rfl:=ϓ.mp hf;refine⟨⟨⟨by unfold f0;rw[ϋ,r.lc],λb hb=>?_⟩,(λb t g e=>by rw[yM]at e;cases e),(λa t g _ e=>by rw[yM]at e;cases e)⟩,(λb' t' hB=>by unfold Bef at hB;omega)⟩;have:=r.cb b hb;unfold f0;have hb':b<cs.length:=by rw[r.lc];exact hb
 rw[ϊ (l:=cs.map _),ϥ,Ϗ hb'];show((List.replicate cs[b].toNat none).length:Int)=_;rw[ϻ,ai hb'];rw[ai hb']at this;omega
def fM (en:List (Nat×Nat)) (cs ds:List Int) (ms ns:List (List Int)):Nat->List PF
 | 0=>[f0 cs]
 | b+1=>(List.range (cs.getD b (-1)).toNat).foldl (λfs t=>tOn en ds ms ns b t fs) (fM en cs ds ms ns b)
theorem oA (h:HallN en re tb) (r:IsR L en re tb cs ms) (q:IsR M en re tb ds ns) {b:Nat} (hb:b<re.length) {fs:List PF} (I:FInv en re cs ds ms ns b 0 fs):∀k:Nat,(k:Int)<=cs.getD b (-1)->FInv en re cs ds ms ns b k ((List.range k).foldl (λfs t=>tOn en ds ms ns b t fs) fs)
 | 0,_=>I
 | k+1,hk=>by
  rw[α,List.foldl_append];exact zL h r q hb (by omega) (oA h r q hb I k (by omega))
theorem iU (h:HallN en re tb) (r:IsR L en re tb cs ms) (q:IsR M en re tb ds ns):∀b:Nat,b<=re.length->FInv en re cs ds ms ns b 0 (fM en cs ds ms ns b)
 | 0,_=>Et r
 | b+1,hb=>by
  have:=r.cb b (by omega);exact(oA h r q (by omega) (iU h r q b (by omega)) (cs.getD b (-1)).toNat (by omega)).next
end
def gI (G:List (List Int)) (b t:Nat):Int:=(G.getD b []).getD t (-1)
def Shw (cs:List Int) (n:Nat) (G:List (List Int)):Prop:=G.length=n/\∀b,b<n->((G.getD b []).length:Int)=cs.getD b (-1)
def tot (f:PF):List (List Int):=f.map λl=>l.map λo=>o.getD (-1)
theorem wJ:(tot f).getD b []=(f.getD b []).map λo=>o.getD (-1):=by
 unfold tot;rw[ϊ,ϥ,ϊ];cases f[b]?<;>rfl
theorem n9 {v:Int} (h:fa f b t=some v):gI (tot f) b t=v:=by
 unfold gI;rw[wJ,ϊ,ϥ];unfold fa at h;rw[ϊ]at h;cases e:(f.getD b [])[t]? with
 | none=>rw[e]at h;cases h
 | some o=>rw[e]at h;dsimp at h;rw[h];rfl
theorem Shp.tot {cs:List Int} {n:Nat} {f:PF} (s:Shp cs n f):Shw cs n (tot f):=by
 refine⟨by unfold DL.tot;rw[ϋ];exact s.1,λb hb=>?_⟩;rw[wJ,ϋ];exact s.2 b hb
variable {G:List (List Int)}
theorem Shw.ext {H:List (List Int)} (s:Shw cs n G) (s':Shw cs n H) (h:∀b t:Nat,b<n->(t:Int)<cs.getD b (-1)->gI G b t=gI H b t):G=H:=by
 apply υ (by rw[s.1,s'.1]);intro b h1 h2;have hb:b<n:=by rw[<- s.1];exact h1
 have e1:=s.2 b hb;have e2:=s'.2 b hb;rw[ai h1]at e1;rw[ai h2]at e2;apply υ (by omega);intro t t1 t2;have:=h b t hb (by omega);unfold gI at this;rw[ai h1,ai h2,ai t1,ai t2]at this;exact this
section
variable (en:List (Nat×Nat)) (re:List Nat) (cs ds:List Int) (ms ns:List (List Int))
def IsC (G:List (List Int)):Prop:=Shw cs re.length G/\Ntl en re cs ds ms ns (gI G)
def rF:List (List (List Int)):=(fM en cs ds ms ns re.length).map tot
end
section
variable {en:List (Nat×Nat)} {re:List Nat} {tb:List (List Int)} {cs ds:List Int} {ms ns:List (List Int)} {L M:Nat}
theorem kZ (I:FInv en re cs ds ms ns re.length 0 (fM en cs ds ms ns re.length)) (hf:f∈fM en cs ds ms ns re.length) (hb:b<re.length) (ht:(t:Int)<cs.getD b (-1)):∃v,fa f b t=some v:=(I.1 f hf).2 b t (.inl hb) ⟨hb,ht⟩
theorem qK (h:HallN en re tb) (r:IsR L en re tb cs ms) (q:IsR M en re tb ds ns):G∈rF en re cs ds ms ns↔IsC en re cs ds ms ns G:=by
 have I:=iU h r q re.length (ϗ _);unfold rF;rw[ϱ];constructor
 ·rintro⟨f,hf,rfl⟩;obtain⟨s,cv,cc⟩:=(I.1 f hf).1;refine⟨s.tot,λb t hb ht=>?_,λa t ha ht=>?_⟩
  ·obtain⟨v,hv⟩:=kZ I hf hb ht;rw[n9 hv];exact cv _ _ _ hv
  ·obtain⟨v,hv⟩:=kZ I hf (h.eb a ha).1 ht;rw[n9 hv,n9 (cc a t v ha hv)]
 ·rintro⟨s,hn⟩;obtain⟨f,hf,x⟩:=I.2.2 _ hn;refine⟨f,hf,(I.1 f hf).1.1.tot.ext s λb t hb ht=>?_⟩;obtain⟨v,hv⟩:=kZ I hf hb ht;rw[n9 hv,x _ _ _ hv]
end
def oD:Option Int->D
 | none=>.non
 | some g=>.int g
def prD (l:List (Option Int)):D:=.lst (l.map oD)
def pfD (f:PF):D:=.lst (f.map prD)
theorem td {l:List (Option Int)} (h:t<l.length):fix (prD l) (.int (t:Int))=.val (oD (l.getD t none)):=gK (bZ h)
theorem Eo (h:b<f.length):fix (pfD f) (.int (b:Int))=.val (prD (f.getD b [])):=gK (bZ h)
theorem lS (h:i<n):ixN n (i:Int)=some i:=by
 unfold ixN;rw[if_pos (Int.natCast_nonneg i),if_pos (ς.mpr h),Α]
theorem kY (a b:Int):feq (.int a) (.int b)=.val (.bl (decide (a=b))):=by
 by_cases e:a=b
 ·subst e;rw[i_ (uC a),decide_eq_true rfl]
 ·rw[ja (uC a) (uC b) (λz=>e (by injection z)),decide_eq_false e]
def vG (l:List (Option Int)) (t:Nat) (g:Int):Bool×List (Option Int):=match l.getD t none with
 | none=>(true,l.set t (some g))
 | some g'=>(decide (g'=g),l)
theorem wa {l:List (Option Int)} {g:Int} (h:t<l.length):dS [prD l] [nD t,.int g]=.val (.bl (vG l t g).1,[prD (vG l t g).2]):=by
 have f:=td h;unfold dS mq vG;show R.bind (R.bind (R.bind (R.bind (R.bind (fix (prD l) (nD t)) λd=>.val (l7 d)) asB) λc=>if c=true then R.bind (.val (.int g)) (λx=>R.bind (.val []) λpp=>R.bind (.val (nD t)) λn=>lq 0 .s pp (stF n x) [some (.tre (.l .s) (prD l)),sh (nD t),sh (.int g)])else .val [some (.tre (.l .s) (prD l)),sh (nD t),sh (.int g)]) (rtB (bin feq (bin fix (vb 0) (vb 1)) (vb 2)))) (qt [.l .s])=_;rw[show nD t=.int (t:Int)from rfl,f];cases e:l.getD t none with
 | none =>
  have u:lq 0 .s [] (stF (.int (t:Int)) (.int g)) [some (.tre (.l .s) (prD l)),sh (nD t),sh (.int g)]=.val [some (.tre (.l .s) (prD (l.set t (some g)))),sh (nD t),sh (.int g)]:=by
   have s:stF (.int (t:Int)) (.int g) (l.map oD)=.val ((l.map oD).set t (.int g)):=by
    unfold stF;dsimp only;rw[ϋ,lS h]
   show(if(some (.l .s):Option OK)=some (.l .s)then R.bind (stF (.int (t:Int)) (.int g) (l.map oD)) (λys=>R.val (Y:=Rho) [some (.tre (.l .s) (.lst ys)),sh (nD t),sh (.int g)])else .bad)=_;rw[if_pos rfl,s,aa];unfold prD;rw[List.map_set];rfl
  have q:=td (l:=l.set t (some g)) (t:=t) (by rw[ϰ];exact h);rw[ϊ (l:=l.set _ _),Ϲ h]at q;show R.bind (R.bind (lq 0 .s [] (stF (.int (t:Int)) (.int g)) [some (.tre (.l .s) (prD l)),sh (nD t),sh (.int g)]) (rtB (bin feq (bin fix (vb 0) (vb 1)) (vb 2)))) (qt [.l .s])=_;rw[u,aa];show R.bind (R.bind (R.bind (fix (prD (l.set t (some g))) (.int (t:Int))) λx=>R.bind (.val (.int g)) λy=>feq x y) λd=>.val (d,[some (.tre (.l .s) (prD (l.set t (some g)))),sh (nD t),sh (.int g)])) (qt [.l .s])=_;rw[q];show R.bind (R.bind (feq (.int g) (.int g)) λd=>.val (d,_)) (qt [.l .s])=_;rw[kY,decide_eq_true rfl];rfl
 | some g' =>
  show R.bind (R.bind (R.bind (fix (prD l) (.int (t:Int))) λx=>R.bind (.val (.int g)) λy=>feq x y) λd=>.val (d,[some (.tre (.l .s) (prD l)),sh (nD t),sh (.int g)])) (qt [.l .s])=_;rw[f,e];show R.bind (R.bind (feq (.int g') (.int g)) λd=>.val (d,_)) (qt [.l .s])=_;rw[kY];rfl
variable {ys:List D}
theorem D2 {P:Rho->R (List Nat)} {den:List D->List D->R (D×List D)} {Fa:Rho->R (List D)} {pp:List Nat} {k:OK} {b:D} {ds:List D} (h1:P U=.val pp) (h2:U[i]?=some (some (.tre k d))) (h3:Fa U=.val ds) (h4:gv d pp=some (.lst xs)) (h5:eE k pp=some (.l .s)/\xs.all (bB .s)=true/\ds.all (bB .s)=true/\ds.length=n) (h6:den [.lst xs] ds=.val (b,[.lst ys])) (h7:ys.all (bB .s)=true):mvP i P den n Fa U=.val (b,U.set i (some (.tre k (io d pp (.lst ys))))):=by
 unfold mvP;rw[h1,h2,h3];dsimp only;rw[h4];dsimp only;rw[if_pos h5,h6];dsimp only;rw[if_pos h7]
theorem zt (l:List (Option Int)):(l.map oD).all (bB .s)=true:=by
 rw[List.all_map,ύ];intro o _;cases o<;>rfl
theorem CM (h:b<f.length):gv (pfD f) [b]=some (prD (f.getD b [])):=by
 show(match(f.map prD)[b]? with|some d=>gv d [] | none=>none)=_;rw[bZ (d:=[]) h];rfl
theorem Do (h:b<f.length) (l:List (Option Int)):io (pfD f) [b] (prD l)=pfD (f.set b l):=by
 show(match(f.map prD)[b]? with|some d=>D.lst ((f.map prD).set b (io d [] (prD l)))|none=>.lst (f.map prD))=_;rw[bZ (d:=[]) h];show D.lst ((f.map prD).set b (prD l))=D.lst ((f.set b l).map prD);rw[List.map_set]
def rT (H one other ch:D) (b t g:Nat) (f:PF) (x y:Option Slt):Rho:=[sh H,sh one,sh other,sh ch,sh (nD b),sh (nD t),sh (nD g),some (.tre (.l (.l .s)) (pfD f)),x,y]
abbrev tlF:Rho->R Out:=(ifM (anM (tst (bin feq (bin fix (vb 9) (kd (.int 0))) (vb 4))) (noM (tsM (mvP 7 (pN 7 (pN0 7) (bin fix (vb 9) (kd (.int 1)))) dS 2 (aC (bin fix (bin fix (bin fix (vb 1) (kd (.int 1))) (vb 8)) (vb 5)) (aC (bin fix (bin fix (bin fix (vb 2) (kd (.int 1))) (vb 8)) (vb 6)) aN))))))
 (ret (eL aN))
 nxt)
section
variable {en:List (Nat×Nat)} {re:List Nat} {tb:List (List Int)} {cs ds:List Int} {ms ns:List (List Int)} {L M:Nat}
theorem qh (h:b<f.length):f.set b (f.getD b [])=f:=by
 rw[ai h,List.set_getElem_self]
theorem zH (h:HallN en re tb) (r:IsR L en re tb cs ms) (q:IsR M en re tb ds ns) (s:Shp cs re.length f) {H ch:D} {a:Nat} {x y:Option Slt} (ha:a<en.length) (ht:(t:Int)<cs.getD b (-1)) (hg:(g:Int)<ds.getD b (-1)) :
  tlF (rT H (.tup [ae cs,af ms]) (.tup [ae ds,af ns]) ch b t g f (sh (nD a)) (sh (bp (en.getD a (0,0))))) =
   if(en.getD a (0,0)).1=b then(match stl f (en.getD a (0,0)).2 (aT ms t a) (aG ns g a)with
    | some f'=>.val (.nx (rT H (.tup [ae cs,af ms]) (.tup [ae ds,af ns]) ch b t g f' (sh (nD a)) (sh (bp (en.getD a (0,0))))))
    | none=>.val (.rt (.lst [])))else .val (.nx (rT H (.tup [ae cs,af ms]) (.tup [ae ds,af ns]) ch b t g f (sh (nD a)) (sh (bp (en.getD a (0,0)))))):=by
 have t1:tst (bin feq (bin fix (vb 9) (kd (.int 0))) (vb 4)) (rT H (.tup [ae cs,af ms]) (.tup [ae ds,af ns]) ch b t g f (sh (nD a)) (sh (bp (en.getD a (0,0)))))=.val (decide (((en.getD a (0,0)).1:Int)=(b:Int))):=by
  show R.bind (feq (nD (en.getD a (0,0)).1) (nD b)) asB=_;rw[kY];rfl
 by_cases e:(en.getD a (0,0)).1=b
 ·have eb:=h.eb a ha;have hb:(en.getD a (0,0)).2<f.length:=by rw[s.1];exact eb.2
  obtain⟨p0,p1⟩:=zv r ha (t:=t) (by rw[e];exact ht);have hl:aT ms t a<(f.getD (en.getD a (0,0)).2 []).length:=by have:=s.2 _ eb.2;omega
  have m:=wa (g:=aG ns g a) hl;have a1:bin fix (bin fix (bin fix (vb 1) (kd (.int 1))) (vb 8)) (vb 5) (rT H (.tup [ae cs,af ms]) (.tup [ae ds,af ns]) ch b t g f (sh (nD a)) (sh (bp (en.getD a (0,0)))))=.val (nD (aT ms t a)):=by
   show R.bind (fix (af ms) (.int (a:Int))) (λx=>fix x (.int (t:Int)))=_;have l:=r.ml a ha;rw[aJ (by rw[r.lm];exact ha),aa,aM (by rw[e]at l;omega)];unfold aT nD;rw[Δ p0]
  have a2:bin fix (bin fix (bin fix (vb 2) (kd (.int 1))) (vb 8)) (vb 6) (rT H (.tup [ae cs,af ms]) (.tup [ae ds,af ns]) ch b t g f (sh (nD a)) (sh (bp (en.getD a (0,0)))))=.val (.int (aG ns g a)):=by
   show R.bind (fix (af ns) (.int (a:Int))) (λx=>fix x (.int (g:Int)))=_;have l:=q.ml a ha;rw[aJ (by rw[q.lm];exact ha),aa,aM (by rw[e]at l;omega)];rfl
  have a3:pN 7 (pN0 7) (bin fix (vb 9) (kd (.int 1))) (rT H (.tup [ae cs,af ms]) (.tup [ae ds,af ns]) ch b t g f (sh (nD a)) (sh (bp (en.getD a (0,0)))))=.val [(en.getD a (0,0)).2]:=by
   show(match ixN (f.map prD).length ((en.getD a (0,0)).2:Int)with|some j=>R.val [j] | none=>.bad)=_;rw[ϋ,lS hb]
  have mv:=D2 (den:=dS) (n:=2) (Fa:=aC (bin fix (bin fix (bin fix (vb 1) (kd (.int 1))) (vb 8)) (vb 5)) (aC (bin fix (bin fix (bin fix (vb 2) (kd (.int 1))) (vb 8)) (vb 6)) aN)) (i:=7) (k:=.l (.l .s)) (d:=pfD f) a3 rfl (by rw[aZ,a1,aa,aZ,a2];rfl) (CM hb) ⟨rfl,zt _,rfl,rfl⟩ m (zt _);rw[show D.lst (List.map oD (vG (f.getD (en.getD a (0,0)).2 []) (aT ms t a) (aG ns g a)).2)=prD (vG (f.getD (en.getD a (0,0)).2 []) (aT ms t a) (aG ns g a)).2 from rfl,Do hb]at mv;rw[if_pos e,decide_eq_true (show((en.getD a (0,0)).1:Int)=(b:Int) by rw[e])]at *;unfold tlF ifM anM;rw[t1];dsimp only;unfold noM tsM;rw[mv,aa];unfold stl vG fa;cases z:(f.getD (en.getD a (0,0)).2 []).getD (aT ms t a) none with
  | none=>rfl
  | some g' =>
   dsimp only;by_cases w:g'=aG ns g a
   ·rw[if_pos w,qh hb,decide_eq_true w];rfl
   ·rw[if_neg w,qh hb,decide_eq_false w];rfl
 ·rw[if_neg e];have e':¬ (((en.getD a (0,0)).1:Int)=(b:Int)):=by omega
  rw[decide_eq_false e']at t1;show ifM (anM _ _) _ _ _=_;unfold ifM anM;rw[t1];rfl
end
theorem HI {G:Rho->R D} {b e f g:D} (ha:A U=.val a) (hb:B U=.val b) (hc:C U=.val c) (he:E U=.val e) (hf:F U=.val f) (hg:G U=.val g) (h:den [a,b,c,e,f,g]=.val x):cal 6 den (aC A (aC B (aC C (aC E (aC F (aC G aN)))))) U=.val x:=by
 simp[ha,hb,hc,he,hf,hg,h]
theorem HH {G J:Rho->R D} {b e f g j:D} (ha:A U=.val a) (hb:B U=.val b) (hc:C U=.val c) (he:E U=.val e) (hf:F U=.val f) (hg:G U=.val g) (hj:J U=.val j) (h:den [a,b,c,e,f,g,j]=.val x):cal 7 den (aC A (aC B (aC C (aC E (aC F (aC G (aC J aN))))))) U=.val x:=by
 simp[ha,hb,hc,he,hf,hg,hj,h]
theorem sgo {A B:Rho->R Out} {x:R Out} (h:A U=.val (.nx ρ')) (k:B ρ'=x):sq A B U=x:=by rw[dL h];exact k
theorem fgo {A B:Rho->R Out} {x:R D} (h:A U=.val (.nx ρ')) (k:fin (B ρ')=x):fin (sq A B U)=x:=by rw[dL h];exact k
section
variable {en:List (Nat×Nat)} {re:List Nat} {tb:List (List Int)} {cs ds:List Int} {ms ns:List (List Int)} {L M:Nat}
abbrev rdD (cs:List Int) (ms:List (List Int)):D:=.tup [ae cs,af ms]
theorem oj (h:HallN en re tb) (r:IsR L en re tb cs ms) (q:IsR M en re tb ds ns) {H ch:D} {b t g:Nat} (ht:(t:Int)<cs.getD b (-1)) (hg:(g:Int)<ds.getD b (-1)):∀{l:List Nat} {f:PF} {x y:Option Slt},(∀a∈l,a<en.length)->Shp cs re.length f ->
  match tal en ms ns b t g l f with
  | some f'=>∃x' y',aX (tg2 8 9) tlF (l.map λi=>.tup [nD i,bp (en.getD i (0,0))]) (rT H (rdD cs ms) (rdD ds ns) ch b t g f x y)=.val (.nx (rT H (rdD cs ms) (rdD ds ns) ch b t g f' x' y'))
  | none=>aX (tg2 8 9) tlF (l.map λi=>.tup [nD i,bp (en.getD i (0,0))]) (rT H (rdD cs ms) (rdD ds ns) ch b t g f x y)=.val (.rt (.lst []))
 | [],f,x,y,_,_=>⟨x,y,rfl⟩
 | a::l,f,x,y,hl,s=>by
  have ha:=hl a (by simp);have st:=zH h r q s (H:=H) (ch:=ch) (x:=x) (y:=y) ha ht hg;have un:aX (tg2 8 9) tlF ((a::l).map λi=>.tup [nD i,bp (en.getD i (0,0))]) (rT H (rdD cs ms) (rdD ds ns) ch b t g f x y)=R.bind (tlF (rT H (rdD cs ms) (rdD ds ns) ch b t g f (sh (nD a)) (sh (bp (en.getD a (0,0)))))) λo=>match o with
   | .nx U2=>aX (tg2 8 9) tlF (l.map λi=>.tup [nD i,bp (en.getD i (0,0))]) U2
   | .ct U2=>aX (tg2 8 9) tlF (l.map λi=>.tup [nD i,bp (en.getD i (0,0))]) U2
   | .bk U2=>.val (.nx U2)
   | .rt d=>.val (.rt d):=ϕ rfl rfl
  rw[un,st];unfold tal;by_cases e:(en.getD a (0,0)).1=b
  ·rw[if_pos e,if_pos e];cases z:stl f (en.getD a (0,0)).2 (aT ms t a) (aG ns g a)with
   | none=>rfl
   | some f1 =>
    have v:=oh h r ht a (ό.mpr ha) e;exact oj h r q ht hg (λc hc=>hl c (by simp[hc])) (si s v.1 v.2 z).1
  ·rw[if_neg e,if_neg e];exact oj h r q ht hg (λc hc=>hl c (by simp[hc])) s
theorem mV (h:HallN en re tb) (r:IsR L en re tb cs ms) (q:IsR M en re tb ds ns) (ht:(t:Int)<cs.getD b (-1)) (hg:(g:Int)<ds.getD b (-1)) (s:Shp cs re.length f) :
  bI [hlD en re tb,rdD cs ms,rdD ds ns,pfD f,nD b,nD t,nD g]=.val (.lst ((tal en ms ns b t g (List.range en.length) f).toList.map pfD)):=by
 simp only[bI,gU];show fin (sq _ _ [sh (hlD en re tb),sh (rdD cs ms),sh (rdD ds ns),sh (pfD f),sh (nD b),sh (nD t),sh (nD g),none,none,none])=_;have n6:=h.nb6;have sl:=s.1;have lp:=oj h r q (H:=hlD en re tb) (ch:=pfD f) ht hg (l:=List.range en.length) (x:=none) (y:=none) (λa ha=>ό.mp ha) s;have hs:∀f:PF,c9 (aC (una (ci 0) (vb 0)) aN) (rT (hlD en re tb) (rdD cs ms) (rdD ds ns) (pfD f) b t g f none none)=.val ((List.range en.length).map λi=>.tup [nD i,bp (en.getD i (0,0))]):=λf=>by rw[<- yW (f:=bp) en (0,0)];rfl
 refine fgo (ρ':=rT (hlD en re tb) (rdD cs ms) (rdD ds ns) (pfD f) b t g f none none) ?_ ?_
 ·unfold trS;rw[aP,aS (f:=prD) (g:=prD) (l:=f) rfl (by omega) λl _=>rfl];rfl
 ·rw[ar,bK,hs,aa];cases z:tal en ms ns b t g (List.range en.length) f with
  | none =>
   rw[z]at lp;rw[lp];rfl
  | some f' =>
   rw[z]at lp;obtain⟨x',y',e⟩:=lp;rw[e];rfl
abbrev lat (fs:List PF):Slt:=.own (fs.map pfD)
def rO (H one other bg:D) (b t:Nat) (fs:List PF) (x y:Option Slt):Rho:=[sh H,sh one,sh other,sh bg,sh (nD b),sh (nD t),some (lat fs),x,y]
theorem Eu {e:Rho->R D} (h1:U[i]?=some (some (.own xs))) (h2:e U=.val (.lst ys)) (h3:xs.length+ys.length<100000):ext i e U=.val (.nx (U.set i (some (.own (xs++ys))))):=by
 unfold ext;rw[h1];dsimp only;rw[h2,aa];exact if_pos h3
theorem lu (o:Option Y):o.toList.length<=1:=by cases o<;>simp
theorem qe (b t:Nat) (f:PF) (k:Nat):((List.range k).flatMap λg=>(tal en ms ns b t g (List.range en.length) f).toList).length<=k:=by
 induction k with
 | zero=>simp
 | succ k ih =>
  rw[α,List.flatMap_append,Ϝ];have:=lu (tal en ms ns b t k (List.range en.length) f);simp only[List.flatMap_cons,List.flatMap_nil,Ϫ];omega
theorem uc (h1:1<=k) (hk:(ds.getD b (-1)).toNat=k):(ton en ds ms ns b t f).length<=k:=by
 unfold ton;by_cases e:(fa f b t).isSome=true
 ·rw[if_pos e];exact h1
 ·rw[if_neg e,hk];exact qe b t f k
theorem ud {b t:Nat} {k:Nat} (h1:1<=k) (hk:(ds.getD b (-1)).toNat=k):∀fs:List PF,(tOn en ds ms ns b t fs).length<=fs.length*k
 | []=>Nat.le_of_eq (by simp[tOn])
 | f::fs=>by
  have a:=uc (en:=en) (ms:=ms) (ns:=ns) (t:=t) (f:=f) h1 hk;have b:=ud (t:=t) h1 hk fs;unfold tOn at b ⊢;rw[List.flatMap_cons,Ϝ,ϫ,Nat.add_mul];omega
theorem tq (h:HallN en re tb) (r:IsR L en re tb cs ms) (q:IsR M en re tb ds ns) (hb:b<re.length) (ht:(t:Int)<cs.getD b (-1)) (h1:1<=k) (hk:(ds.getD b (-1)).toNat=k) {fs:List PF} (hs:∀f∈fs,Shp cs re.length f) (hl:fs.length*k<=10000) (hf:fs.length<=10000) :
  cC [hlD en re tb,rdD cs ms,rdD ds ns,.lst (fs.map pfD),nD b,nD t]=.val (.lst ((tOn en ds ms ns b t fs).map pfD)):=by
 simp only[cC,ki];show fin (sq _ _ [sh (hlD en re tb),sh (rdD cs ms),sh (rdD ds ns),sh (.lst (fs.map pfD)),sh (nD b),sh (nD t),none,none,none])=_;have cb:=q.cb b hb;have e0:=hk;have dk:ds.getD b (-1)=(k:Int):=by omega
 refine fgo (ρ':=rO (hlD en re tb) (rdD cs ms) (rdD ds ns) (.lst (fs.map pfD)) b t [] none none) (ϕ rfl rfl) ?_;have lp:∀(gs:List PF) (m:Nat),(∀f∈gs,Shp cs re.length f)->∀(acc:List PF) (x y:Option Slt),acc.length+gs.length*k<=10000->∃x' y',aX (tgN 7) (DL.iff (tst (una (λd=>.val (cT d)) (bin fix (bin fix (vb 7) (vb 4)) (vb 5)))) (app 6 (vr 7)) (aE (aK (aC (bin fix (bin fix (vb 2) (kd (.int 0))) (vb 4)) aN)) (tgN 8) (ext 6 (cal 7 bI (aC (vr 0) (aC (vr 1) (aC (vr 2) (aC (vr 7) (aC (vr 4) (aC (vr 5) (aC (vr 8) aN))))))))))) (gs.map pfD) (rO (hlD en re tb) (rdD cs ms) (rdD ds ns) (.lst (fs.map pfD)) b t acc x y)=.val (.nx (rO (hlD en re tb) (rdD cs ms) (rdD ds ns) (.lst (fs.map pfD)) b t (acc++tOn en ds ms ns b t gs) x' y')):=by
  intro gs m
  induction gs with
  | nil=>intro _ acc x y _;exact⟨x,y,by unfold tOn;rw[List.flatMap_nil,Ϫ];rfl⟩
  | cons f gs ih =>
   intro hS acc x y ha;have s:=hS f (by simp);rw[ϫ,Nat.add_mul]at ha;have tn:=uc (en:=en) (ms:=ms) (ns:=ns) (t:=t) (f:=f) h1 hk;have st:∃y',DL.iff (tst (una (λd=>.val (cT d)) (bin fix (bin fix (vb 7) (vb 4)) (vb 5)))) (app 6 (vr 7)) (aE (aK (aC (bin fix (bin fix (vb 2) (kd (.int 0))) (vb 4)) aN)) (tgN 8) (ext 6 (cal 7 bI (aC (vr 0) (aC (vr 1) (aC (vr 2) (aC (vr 7) (aC (vr 4) (aC (vr 5) (aC (vr 8) aN)))))))))) (rO (hlD en re tb) (rdD cs ms) (rdD ds ns) (.lst (fs.map pfD)) b t acc (sh (pfD f)) y)=.val (.nx (rO (hlD en re tb) (rdD cs ms) (rdD ds ns) (.lst (fs.map pfD)) b t (acc++ton en ds ms ns b t f) (sh (pfD f)) y')):=by
    have sl:=s.2 b hb;have tt:tst (una (λd=>.val (cT d)) (bin fix (bin fix (vb 7) (vb 4)) (vb 5))) (rO (hlD en re tb) (rdD cs ms) (rdD ds ns) (.lst (fs.map pfD)) b t acc (sh (pfD f)) y)=.val (fa f b t).isSome:=by
     show R.bind (R.bind (R.bind (fix (pfD f) (.int (b:Int))) λx=>fix x (.int (t:Int))) λd=>.val (cT d)) asB=_;rw[Eo (by rw[s.1];exact hb),aa,td (by omega)];show _=R.val ((f.getD b []).getD t none).isSome;cases(f.getD b []).getD t none<;>rfl
    rw[aR,tt,aa];unfold ton;by_cases e:(fa f b t).isSome=true
    ·rw[if_pos e,if_pos e];refine⟨y,?_⟩;have:=iT (i:=6) (e:=vr 7) (xs:=acc.map pfD) (d:=pfD f) (U:=rO (hlD en re tb) (rdD cs ms) (rdD ds ns) (.lst (fs.map pfD)) b t acc (sh (pfD f)) y) rfl rfl (by rw[ϋ];omega);rw[this];unfold rO lat;rw[Ϭ];rfl
    ·rw[if_neg e,if_neg e,hk];obtain⟨ρ',e1,y',rfl⟩:=dE (i:=8) (n:=k) (F:=ext 6 (cal 7 bI (aC (vr 0) (aC (vr 1) (aC (vr 2) (aC (vr 7) (aC (vr 4) (aC (vr 5) (aC (vr 8) aN))))))))) (λj U=>∃y',U=rO (hlD en re tb) (rdD cs ms) (rdD ds ns) (.lst (fs.map pfD)) b t (acc++(List.range j).flatMap λg=>(tal en ms ns b t g (List.range en.length) f).toList) (sh (pfD f)) y') (λj U hj hI=>by
      obtain⟨y',rfl⟩:=hI;have tl:=qe (en:=en) (ms:=ms) (ns:=ns) b t f j;have t1:=lu (tal en ms ns b t j (List.range en.length) f);refine⟨_,Eu (i:=6) rfl (HH rfl rfl rfl rfl rfl rfl rfl (mV h r q ht (by rw[dk];omega) s)) (by rw[ϋ,ϋ,Ϝ];omega),sh (nD j),?_⟩;rw[α,List.flatMap_append];simp only[List.flatMap_cons,List.flatMap_nil,Ϫ];rw[<- List.append_assoc];unfold rO lat;rw[Ϭ (l₁:=acc++_)];rfl) (U:=rO (hlD en re tb) (rdD cs ms) (rdD ds ns) (.lst (fs.map pfD)) b t acc (sh (pfD f)) y) ⟨y,by simp⟩
     refine⟨y',?_⟩;have sr:aK (aC (bin fix (bin fix (vb 2) (kd (.int 0))) (vb 4)) aN) (rO (hlD en re tb) (rdD cs ms) (rdD ds ns) (.lst (fs.map pfD)) b t acc (sh (pfD f)) y)=.val (rng 0 k):=by
      rw[dq];refine cM ?_ (by omega);show fix (ae ds) (.int (b:Int))=_;rw[aM (by rw[q.lc];exact hb),dk]
     rw[bK,sr,aa,e1]
   obtain⟨y',st⟩:=st;obtain⟨x2,y2,e2⟩:=ih (λc hc=>hS c (by simp[hc])) (acc++ton en ds ms ns b t f) (sh (pfD f)) y' (by rw[Ϝ];omega);refine⟨x2,y2,?_⟩;rw[show tOn en ds ms ns b t (f::gs)=ton en ds ms ns b t f++tOn en ds ms ns b t gs from List.flatMap_cons,<- List.append_assoc,<- e2];show R.bind (DL.iff _ _ _ (rO (hlD en re tb) (rdD cs ms) (rdD ds ns) (.lst (fs.map pfD)) b t acc (sh (pfD f)) y)) _=_;rw[st];rfl
 obtain⟨x',y',e⟩:=lp fs 0 hs [] none none (by simpa using hl);have sr:fIt (vr 3) (rO (hlD en re tb) (rdD cs ms) (rdD ds ns) (.lst (fs.map pfD)) b t [] none none)=.val (fs.map pfD):=ϕ rfl rfl;rw[ar,bK,sr,aa,e,aa];rfl
end
section
variable {en:List (Nat×Nat)} {re:List Nat} {tb:List (List Int)} {cs ds:List Int} {ms ns:List (List Int)} {L M:Nat}
def rmB (cs ds:List Int) (i:Nat):Bool:=decide (0<ds.getD i (-1))||decide (cs.getD i (-1)=0)
theorem qZ (hl:cs.length=ds.length) (h6:cs.length<=1000):dI [ae cs,ae ds]=.val (.bl ((List.range cs.length).all (rmB cs ds))):=by
 simp only[dI,jt];show fin (ret _ [sh (ae cs),sh (ae ds)])=_;have hc:=cF (src:=jb (aC (vr 0) (aC (vr 1) aN))) (n:=2) (T:=tg2 2 3) (t:=tT) (e:=orV (bin (iI fgt) (vb 3) (kd (.int 0))) (bin feq (vb 2) (kd (.int 0)))) (f:=λi=>.tup [.int (cs.getD i (-1)),.int (ds.getD i (-1))]) (g:=λi=>.bl (rmB cs ds i)) (p:=λ_=>true) (l:=List.range cs.length) (U:=[sh (ae cs),sh (ae ds)]) (by
   have:=lh (f:=D.int) (g:=D.int) (l:=cs) (m:=ds) (a:=-1) (b:=-1) hl;rw[<- this];rfl) (by rw[ϸ];omega) λi hi=>by
   refine⟨_,rfl,rfl,?_⟩;show R.bind (.val (.bl (decide (0<ds.getD i (-1))))) (λx=>R.bind (asB x) λc=>if c=true then .val (.bl true)else feq (.int (cs.getD i (-1))) (.int 0))=_;unfold rmB;by_cases e:0<ds.getD i (-1)
   ·rw[decide_eq_true e];rfl
   ·rw[decide_eq_false e,kY];rfl
 rw[List.filter_eq_self.mpr λ_ _=>rfl]at hc;rw[bM,bG,aP,hc,aa,aa,gL];rfl
def pws (cs ds:List Int):Nat->Nat
 | 0=>1
 | b+1=>pws cs ds b*(ds.getD b (-1)).toNat ^ (cs.getD b (-1)).toNat
def zw (cs ds:List Int) (n:Nat):Prop:=∀b,b<n->0<ds.getD b (-1)\/cs.getD b (-1)=0
theorem Ad {c:Nat} (h:1<=k\/c=0):1<=k ^ c:=by
 rcases h with h|rfl
 ·exact Nat.one_le_pow _ _ h
 ·exact ϗ _
theorem sx {n:Nat} (hr:zw cs ds n) {b:Nat}:∀{m:Nat},b<=m->m<=n->pws cs ds b<=pws cs ds m
 | 0,h,_=>by rw[Nat.le_zero.mp h];exact ϗ _
 | m+1,h,hm=>by
  by_cases e:b=m+1
  ·rw[e];exact ϗ _
  ·have ih:=sx hr (b:=b) (m:=m) (by omega) (by omega);have one:=Ad (k:=(ds.getD m (-1)).toNat) (c:=(cs.getD m (-1)).toNat) (by
    rcases hr m (by omega)with z|z
    ·left;omega
    ·right;rw[z];rfl)
   show _<=pws cs ds m*_;exact ϣ ih (Nat.le_mul_of_pos_right _ one)
def ql (en:List (Nat×Nat)) (ds:List Int) (ms ns:List (List Int)) (b:Nat) (fs:List PF) (j:Nat):List PF:=(List.range j).foldl (λfs t=>tOn en ds ms ns b t fs) fs
theorem nr (b:Nat) (fs:List PF) (j:Nat):ql en ds ms ns b fs (j+1)=tOn en ds ms ns b j (ql en ds ms ns b fs j):=by
 unfold ql;rw[α,List.foldl_append];rfl
theorem ly {b k:Nat} (h1:1<=k) (hk:(ds.getD b (-1)).toNat=k) {fs:List PF} {m:Nat} (hm:fs.length<=m):∀j:Nat,(ql en ds ms ns b fs j).length<=m*k ^ j
 | 0=>by rw[Nat.pow_zero,Nat.mul_one];exact hm
 | j+1=>by
  rw[nr,Nat.pow_succ,<- Nat.mul_assoc];exact ϣ (ud h1 hk _) (Nat.mul_le_mul_right k (ly h1 hk hm j))
theorem ll {n:Nat} (hr:zw cs ds n):∀{b:Nat},b<=n->(fM en cs ds ms ns b).length<=pws cs ds b
 | 0,_=>ϗ _
 | b+1,hb=>by
  have ih:=ll hr (b:=b) (by omega);show(ql en ds ms ns b (fM en cs ds ms ns b) (cs.getD b (-1)).toNat).length<=pws cs ds b*(ds.getD b (-1)).toNat ^ (cs.getD b (-1)).toNat;rcases hr b (by omega)with z|z
  ·exact ly (by omega) rfl ih _
  ·rw[z];show(fM en cs ds ms ns b).length<=_;rw[show(0:Int).toNat=0 from rfl,Nat.pow_zero,Nat.mul_one];exact ih
theorem DB (s:Shp cs n f) (hv:∀b t:Nat,b<n->(t:Int)<cs.getD b (-1)->∃v,fa f b t=some v):pfD f=af (tot f):=by
 unfold pfD af tot;rw[ϩ]
 congr 1
 apply Ϧ;intro l hl;obtain⟨b,hb,rfl⟩:=ϲ.mp hl;unfold prD ae;simp only[Function.comp,ϩ]
 congr 1
 apply Ϧ;intro o ho;obtain⟨t,ht,rfl⟩:=ϲ.mp ho;have hn:b<n:=by rw[<- s.1];exact hb
 have sl:=s.2 b hn;rw[ai hb]at sl;obtain⟨v,hv⟩:=hv b t hn (by omega);unfold fa at hv;rw[ai hb,ai ht]at hv;rw[hv];rfl
theorem BV (h:HallN en re tb) (r:IsR L en re tb cs ms) (q:IsR M en re tb ds ns):(fM en cs ds ms ns re.length).map pfD=(rF en re cs ds ms ns).map af:=by
 have I:=iU h r q re.length (ϗ _);unfold rF;rw[ϩ];apply Ϧ;intro f hf;exact DB (I.1 f hf).1.1 λb t hb ht=>kZ I hf hb ht
theorem wq (h:HallN en re tb) (r:IsR L en re tb cs ms) (q:IsR M en re tb ds ns) (hb:b<re.length) (h1:¬ 0<ds.getD b (-1)) (h2:cs.getD b (-1)≠0):rF en re cs ds ms ns=[]:=by
 cases e:rF en re cs ds ms ns with
 | nil=>rfl
 | cons G l =>
  have c:=(qK h r q (G:=G)).mp (by rw[e];simp);have cb:=r.cb b hb;have:=c.2.1 b 0 hb (by omega);omega
def rCh (H one other:D) (fs:List PF) (x y z:Option Slt):Rho:=[sh H,sh one,sh other,sh (.lst (fs.map pfD)),x,y,z]
theorem tz (h:HallN en re tb) (r:IsR 40 en re tb cs ms) (q:IsR 40 en re tb ds ns) (hm:pws cs ds re.length<=2000):eB [hlD en re tb,rdD cs ms,rdD ds ns]=.val (.lst ((rF en re cs ds ms ns).map af)):=by
 simp only[eB,ko];show fin (sq _ _ [sh (hlD en re tb),sh (rdD cs ms),sh (rdD ds ns),none,none,none,none])=_;have n6:=h.nb6;have lc:=r.lc;have ld:=q.lc;refine fgo (tG (iS rfl rfl (dh h r))) (fgo (tG (iS rfl rfl (dh h q))) ?_);have hr:=qZ (cs:=cs) (ds:=ds) (by omega) (by omega);have tt:bz (tst (cal 2 dI (aC (bin fix (vb 1) (kd (.int 0))) (aC (bin fix (vb 2) (kd (.int 0))) aN)))) [sh (hlD en re tb),sh (rdD cs ms),sh (rdD ds ns),none,none,none,none]=.val (!(List.range cs.length).all (rmB cs ds)):=by
  rw[dA,bn,iS (a:=ae cs) (b:=ae ds) rfl rfl hr];rfl
 cases e:(List.range cs.length).all (rmB cs ds)with
 | false =>
  rw[e]at tt;rw[ar,aR,tt,aa,if_pos (by decide)];obtain⟨b,hb,z⟩:=List.all_eq_false.mp e;have hb:=ό.mp hb;unfold rmB at z;simp only[Bool.or_eq_true,decide_eq_true_eq,not_or]at z;rw[wq h r q (by omega) z.1 z.2];rfl
 | true =>
  rw[e]at tt;have rm:zw cs ds re.length:=λb hb=>by
   have:=ύ.mp e b (ό.mpr (by omega));unfold rmB at this;simpa using this
  have ul:∀b,b<=re.length->(fM en cs ds ms ns b).length<=2000:=λb hb=>ϣ (ll rm hb) (ϣ (sx rm hb (ϗ _)) hm);refine fgo (bo tt) (fgo (ρ':=rCh (hlD en re tb) (rdD cs ms) (rdD ds ns) [f0 cs] none none none) (bR (x:=.lst [pfD (f0 cs)]) ?_) ?_)
  ·rw[Cj,aZ,aP,aS (f:=D.int) (g:=λc=>prD (List.replicate c.toNat none)) (l:=cs) rfl (by omega) λc hc=>?_]
   ·show R.val (D.lst [D.lst (cs.map λc=>prD (List.replicate c.toNat none))])=_;unfold pfD f0;rw[ϩ];rfl
   ·obtain⟨i,hi,rfl⟩:=ϲ.mp hc;have cb:=r.cb i (by omega);rw[ai hi]at cb;show sZ (.lst [.non]) (.int cs[i])=_;unfold sZ;dsimp only;rw[if_pos (by simp;omega),List.flatten_replicate_singleton];unfold prD;rw[List.map_replicate];rfl
  ·have hs:c9 (aC (bin fix (vb 1) (kd (.int 0))) aN) (rCh (hlD en re tb) (rdD cs ms) (rdD ds ns) [f0 cs] none none none)=.val ((List.range re.length).map λi=>.tup [nD i,.int (cs.getD i (-1))]):=by
    rw[<- lc,<- yW (f:=D.int) cs (-1)];rfl
   have lp:∀n:Nat,n<=re.length->∃x y z,aX (tg2 4 5) (aE (aK (aC (vr 5) aN)) (tgN 6) (asg 3 (cal 6 cC (aC (vr 0) (aC (vr 1) (aC (vr 2) (aC (vr 3) (aC (vr 4) (aC (vr 6) aN))))))))) ((List.range n).map λi=>.tup [nD i,.int (cs.getD i (-1))]) (rCh (hlD en re tb) (rdD cs ms) (rdD ds ns) [f0 cs] none none none)=.val (.nx (rCh (hlD en re tb) (rdD cs ms) (rdD ds ns) (fM en cs ds ms ns n) x y z)):=by
    intro n hn;obtain⟨ρ',e1,x,y,z,rfl⟩:=dR (T:=tg2 4 5) (F:=aE (aK (aC (vr 5) aN)) (tgN 6) (asg 3 (cal 6 cC (aC (vr 0) (aC (vr 1) (aC (vr 2) (aC (vr 3) (aC (vr 4) (aC (vr 6) aN))))))))) (xs:=(List.range n).map λi=>D.tup [nD i,.int (cs.getD i (-1))]) (λi U=>∃x y z,U=rCh (hlD en re tb) (rdD cs ms) (rdD ds ns) (fM en cs ds ms ns i) x y z) (λi d U hi hI=>by
     obtain⟨x,y,z,rfl⟩:=hI;have hb:i<n:=by
      have:=(ώ.mp hi).1;simpa using this
     obtain rfl:d=.tup [nD i,.int (cs.getD i (-1))]:=by
      rw[ϥ,List.getElem?_range hb]at hi;exact(Ϥ hi).symm
     have hb:i<re.length:=by omega
     have cb:=r.cb i hb;have I:=iU h r q i (by omega);have len:=ll (en:=en) (ms:=ms) (ns:=ns) rm (b:=i) (by omega);obtain⟨ρ',e1,z',rfl⟩:=dE (i:=6) (n:=(cs.getD i (-1)).toNat) (F:=asg 3 (cal 6 cC (aC (vr 0) (aC (vr 1) (aC (vr 2) (aC (vr 3) (aC (vr 4) (aC (vr 6) aN)))))))) (λj U=>∃z,U=rCh (hlD en re tb) (rdD cs ms) (rdD ds ns) (ql en ds ms ns i (fM en cs ds ms ns i) j) (sh (nD i)) (sh (.int (cs.getD i (-1)))) z) (λj U hj hI=>by
      obtain⟨z,rfl⟩:=hI;have k1:1<=(ds.getD i (-1)).toNat:=by
       rcases rm i hb with w|w
       ·omega
       ·rw[w]at hj;simp at hj
      have J:=oA h r q hb I j (by omega);have l1:=ly (en:=en) (ms:=ms) (ns:=ns) k1 rfl len j;have up:pws cs ds i*(ds.getD i (-1)).toNat ^ (j+1)<=2000:=by
       refine ϣ (Nat.mul_le_mul_left _ (Nat.pow_le_pow_right k1 (show j+1<=(cs.getD i (-1)).toNat by omega))) ?_;exact ϣ (sx rm (b:=i+1) (by omega) (ϗ _)) hm
      rw[Nat.pow_succ,<- Nat.mul_assoc]at up;have l2:=ϣ (Nat.mul_le_mul_right (ds.getD i (-1)).toNat l1) up;have l3:(ql en ds ms ns i (fM en cs ds ms ns i) j).length<=(ql en ds ms ns i (fM en cs ds ms ns i) j).length*(ds.getD i (-1)).toNat:=Nat.le_mul_of_pos_right _ k1;refine⟨_,bR (HI rfl rfl rfl rfl rfl rfl (tq h r q hb (by omega) k1 rfl (λf hf=>(J.1 f hf).1.1) (by omega) (by omega))),sh (nD j),?_⟩;rw[nr];rfl) (U:=rCh (hlD en re tb) (rdD cs ms) (rdD ds ns) (fM en cs ds ms ns i) (sh (nD i)) (sh (.int (cs.getD i (-1)))) z) ⟨z,rfl⟩
     refine⟨_,rCh (hlD en re tb) (rdD cs ms) (rdD ds ns) (fM en cs ds ms ns (i+1)) (sh (nD i)) (sh (.int (cs.getD i (-1)))) z',rfl,?_,_,_,_,rfl⟩
     ·have sr:aK (aC (vr 5) aN) (rCh (hlD en re tb) (rdD cs ms) (rdD ds ns) (fM en cs ds ms ns i) (sh (nD i)) (sh (.int (cs.getD i (-1)))) z)=.val (rng 0 (cs.getD i (-1)).toNat):=iW cb.1 (by omega);show R.bind (aK (aC (vr 5) aN) (rCh (hlD en re tb) (rdD cs ms) (rdD ds ns) (fM en cs ds ms ns i) (sh (nD i)) (sh (.int (cs.getD i (-1)))) z)) _=_;rw[sr,aa];exact e1) ⟨none,none,none,rfl⟩
    rw[ϋ,ϸ]at *;exact⟨x,y,z,e1⟩
   obtain⟨x,y,z,e1⟩:=lp re.length (ϗ _);rw[ar,bK,hs,aa,e1,aa,<- BV h r q];rfl
end
section
variable {en:List (Nat×Nat)} {re:List Nat} {tb:List (List Int)} {cs ds:List Int} {ms ns:List (List Int)} {L M:Nat}
theorem Bp (h:HallN en re tb) (r:IsR 40 en re tb cs ms) (q:IsR 40 en re tb ds ns):dG [rdD cs ms,rdD ds ns]=.val (.int (pws cs ds re.length:Int)):=by
 simp only[dG,jm];show fin (sq _ _ [sh (rdD cs ms),sh (rdD ds ns),none,none,none])=_;have n6:=h.nb6;have lc:=r.lc;refine fgo (bR (x:=.int 1) rfl) ?_;obtain⟨ρ',e,x,y,rfl⟩:=dE (i:=3) (n:=re.length) (F:=aE (aK (aC (bin fix (bin fix (vb 0) (kd (.int 0))) (vb 3)) aN)) (tgN 4) (asg 2 (bin (iI dP) (vb 2) (bin fix (bin fix (vb 1) (kd (.int 0))) (vb 3))))) (λb U=>∃x y,U=[sh (rdD cs ms),sh (rdD ds ns),sh (.int (pws cs ds b:Int)),x,y]) (λb U hb hI=>by
  obtain⟨x,y,rfl⟩:=hI;have cb:=r.cb b hb;have db:=q.cb b hb;obtain⟨ρ',e,y',rfl⟩:=dE (i:=4) (n:=(cs.getD b (-1)).toNat) (F:=asg 2 (bin (iI dP) (vb 2) (bin fix (bin fix (vb 1) (kd (.int 0))) (vb 3)))) (λj U=>∃y,U=[sh (rdD cs ms),sh (rdD ds ns),sh (.int ((pws cs ds b*(ds.getD b (-1)).toNat ^ j:Nat):Int)),sh (nD b),y]) (λj U hj hI=>by
   obtain⟨y,rfl⟩:=hI;refine⟨_,bR (x:=.int ((pws cs ds b*(ds.getD b (-1)).toNat ^ (j+1):Nat):Int)) ?_,_,rfl⟩;show R.bind (fix (ae ds) (.int (b:Int))) (λy=>iI dP (.int ((pws cs ds b*(ds.getD b (-1)).toNat ^ j:Nat):Int)) y)=_;rw[aM (by rw[q.lc];exact hb),aa,gG,i8 (by omega),Nat.pow_succ,<- Nat.mul_assoc,Int.natCast_mul (pws cs ds b*_),Δ db.1]) (U:=[sh (rdD cs ms),sh (rdD ds ns),sh (.int (pws cs ds b:Int)),sh (nD b),y]) ⟨y,by rw[Nat.pow_zero,Nat.mul_one]⟩
  have sr:aK (aC (bin fix (bin fix (vb 0) (kd (.int 0))) (vb 3)) aN) [sh (rdD cs ms),sh (rdD ds ns),sh (.int (pws cs ds b:Int)),sh (nD b),y]=.val (rng 0 (cs.getD b (-1)).toNat):=by
   have v:bin fix (bin fix (vb 0) (kd (.int 0))) (vb 3) [sh (rdD cs ms),sh (rdD ds ns),sh (.int (pws cs ds b:Int)),sh (nD b),y]=.val (.int (cs.getD b (-1))):=aM (by rw[r.lc];exact hb);rw[k6,aZ,v];exact iW cb.1 (by omega)
  refine⟨_,?_,sh (nD b),y',rfl⟩;show aE _ _ _ [sh (rdD cs ms),sh (rdD ds ns),sh (.int (pws cs ds b:Int)),sh (nD b),y]=_;rw[bK,sr,aa,e];rfl) (U:=[sh (rdD cs ms),sh (rdD ds ns),sh (.int 1),none,none]) ⟨none,none,rfl⟩
 have sr:aK (aC (una aj (bin fix (vb 0) (kd (.int 0)))) aN) [sh (rdD cs ms),sh (rdD ds ns),sh (.int 1),none,none]=.val (rng 0 re.length):=by
  rw[dq,<- lc];exact cM (i9 cs) (by omega)
 show fin (sq _ _ [sh (rdD cs ms),sh (rdD ds ns),sh (.int 1),none,none])=_;rw[ar,bK,sr,aa,e];rfl
theorem tx (h:HallN en re tb) (r:IsR 40 en re tb cs ms) (q:IsR 40 en re tb ds ns) (c:IsC en re cs ds ms ns G) {p1 p2 p3 p4:D}:bO [.tup [aw en,p1,p2,p3,p4],rdD cs ms,rdD ds ns,af G]=.val (.bl true):=by
 simp only[bO,eV];show fin (sq _ _ [sh (.tup [aw en,p1,p2,p3,p4]),sh (rdD cs ms),sh (rdD ds ns),sh (af G),none,none,none,none,none])=_;have n40:=h.na40;have fe:=eR (src:=aK (aC (una aj (bin fix (vb 0) (kd (.int 0)))) aN)) (T:=tgN 4) (F:=sq (asT (tg2 5 6) (bin fix (bin fix (vb 0) (kd (.int 0))) (vb 4))) (aE (aK (aC (bin fix (bin fix (vb 1) (kd (.int 0))) (vb 5)) aN)) (tgN 7) (sq (asg 8 (bin fix (bin fix (bin fix (vb 1) (kd (.int 1))) (vb 4)) (vb 7))) (DL.iff (tst (bin fne (bin fix (bin fix (vb 3) (vb 6)) (vb 8)) (bin fix (bin fix (bin fix (vb 2) (kd (.int 1))) (vb 4)) (bin fix (bin fix (vb 3) (vb 5)) (vb 7))))) (ret (kd (.bl false))) nxt)))) (f:=nD) (ok:=λ_=>true) (l:=List.range en.length) (U:=[sh (.tup [aw en,p1,p2,p3,p4]),sh (rdD cs ms),sh (rdD ds ns),sh (af G),none,none,none,none,none]) (λU=>∃a b c d e,U=[sh (.tup [aw en,p1,p2,p3,p4]),sh (rdD cs ms),sh (rdD ds ns),sh (af G),a,b,c,d,e]) (cM (yE en) (by omega)) (λi hi U hI=>by
  obtain⟨a0,a1,a2,a3,a4,rfl⟩:=hI;have hi:=ό.mp hi;have eb:=h.eb i hi;have cb:=r.cb _ eb.1;have g1:=c.1.2 _ eb.1;have g2:=c.1.2 _ eb.2;have gl:=c.1.1;have l1:=r.ml i hi;have l2:=q.ml i hi;refine⟨_,rfl,(λz=>by cases z),λ_=>?_⟩;have lp:=cw (src:=aK (aC (bin fix (bin fix (vb 1) (kd (.int 0))) (vb 5)) aN)) (T:=tgN 7) (F:=sq (asg 8 (bin fix (bin fix (bin fix (vb 1) (kd (.int 1))) (vb 4)) (vb 7))) (DL.iff (tst (bin fne (bin fix (bin fix (vb 3) (vb 6)) (vb 8)) (bin fix (bin fix (bin fix (vb 2) (kd (.int 1))) (vb 4)) (bin fix (bin fix (vb 3) (vb 5)) (vb 7))))) (ret (kd (.bl false))) nxt)) (f:=nD) (ok:=λ_=>true) (l:=List.range (cs.getD (en.getD i (0,0)).1 (-1)).toNat) (U:=[sh (.tup [aw en,p1,p2,p3,p4]),sh (rdD cs ms),sh (rdD ds ns),sh (af G),sh (nD i),sh (nD (en.getD i (0,0)).1),sh (nD (en.getD i (0,0)).2),a3,a4]) (λU=>∃d e,U=[sh (.tup [aw en,p1,p2,p3,p4]),sh (rdD cs ms),sh (rdD ds ns),sh (af G),sh (nD i),sh (nD (en.getD i (0,0)).1),sh (nD (en.getD i (0,0)).2),d,e]) (by
   rw[<- dq];have v:bin fix (bin fix (vb 1) (kd (.int 0))) (vb 5) [sh (.tup [aw en,p1,p2,p3,p4]),sh (rdD cs ms),sh (rdD ds ns),sh (af G),sh (nD i),sh (nD (en.getD i (0,0)).1),sh (nD (en.getD i (0,0)).2),a3,a4]=.val (.int (cs.getD (en.getD i (0,0)).1 (-1))):=aM (by rw[r.lc];exact eb.1);rw[k6,aZ,v];exact iW cb.1 (by omega)) (λt ht U hI=>by
   obtain⟨d,e,rfl⟩:=hI;have ht:=ό.mp ht;have ht':(t:Int)<cs.getD (en.getD i (0,0)).1 (-1):=by omega
   obtain⟨p0,p1⟩:=zv r hi ht';have nt:=c.2.2 i t hi ht';have bd:=c.2.1 _ t eb.1 ht';refine⟨_,rfl,(λz=>by cases z),λ_=>⟨_,sgo (bR (x:=nD (aT ms t i)) ?_) (bo ?_),_,_,rfl⟩⟩
   ·show R.bind (fix (af ms) (.int (i:Int))) (λx=>fix x (.int (t:Int)))=_;rw[aJ (by rw[r.lm];exact hi),aa,aM (by omega)];unfold aT nD;rw[Δ p0]
   ·show R.bind (R.bind (R.bind (fix (af G) (.int ((en.getD i (0,0)).2:Int))) λx=>fix x (.int (aT ms t i:Int))) λx=>R.bind (R.bind (fix (af ns) (.int (i:Int))) λx=>R.bind (R.bind (fix (af G) (.int ((en.getD i (0,0)).1:Int))) λx=>fix x (.int (t:Int))) λy=>fix x y) λy=>fne x y) asB=_;have v1:=aJ (tb:=G) (i:=(en.getD i (0,0)).2) (by omega);have v2:=aM (r:=G.getD (en.getD i (0,0)).2 []) (i:=aT ms t i) (by omega);have v3:=aJ (tb:=ns) (i:=i) (by rw[q.lm];exact hi);have v4:=aJ (tb:=G) (i:=(en.getD i (0,0)).1) (by omega);have v5:=aM (r:=G.getD (en.getD i (0,0)).1 []) (i:=t) (by omega);have v6:=qT (r:=ns.getD i []) (x:=(G.getD (en.getD i (0,0)).1 []).getD t (-1)) bd.1 (by rw[l2];exact bd.2);have nt:(G.getD (en.getD i (0,0)).2 []).getD (aT ms t i) (-1)=(ns.getD i []).getD ((G.getD (en.getD i (0,0)).1 []).getD t (-1)).toNat (-1):=nt;rw[v1,aa,v2,aa,v3,aa,v4,aa,v5,aa,v6,aa,nt,o8];simp) ⟨_,_,rfl⟩
  rcases lp with⟨z,_⟩|⟨_,ρ',e',d,e,rfl⟩
  ·rw[ύ.mpr λ_ _=>rfl]at z;cases z
  ·refine⟨_,sgo (ρ':=[sh (.tup [aw en,p1,p2,p3,p4]),sh (rdD cs ms),sh (rdD ds ns),sh (af G),sh (nD i),sh (nD (en.getD i (0,0)).1),sh (nD (en.getD i (0,0)).2),a3,a4]) ?_ e',_,_,_,_,_,rfl⟩;show R.bind (fix (aw en) (.int (i:Int))) _=_;rw[ce hi];rfl) ⟨_,_,_,_,_,rfl⟩
 rw[fe,ύ.mpr λ_ _=>rfl]
end
theorem fex {A B:Rho->R Out} {c:Nat} (h:A U=.exc c):fin (sq A B U)=.exc c:=by rw[ar,h];rfl
theorem e8 {t:Rho->R Bool} {a b:Rho->R Out} {x:R Out} (h:t U=.val true) (k:a U=x):DL.iff t a b U=x:=by rw[aR,h,<- k];rfl
theorem Ee {t:Rho->R Bool} {a b:Rho->R Out} {x:R Out} (h:t U=.val false) (k:b U=x):DL.iff t a b U=x:=by rw[aR,h,<- k];rfl
theorem vf {e:Rho->R D} {c:Nat} (h:e U=.exc c):drp e U=.exc c:=by rw[za,h];rfl
theorem GR {b:D} {x:R D} (ha:A U=.val a) (hb:B U=.val b) (h:den [a,b]=x):pG 2 den (aC A (aC B aN)) U=x:=by
 rw[BP,aZ,ha,aa,aZ,hb,aa,iJ];simp only[aa,h];rfl
theorem u3 (h:ms.length<=100000):cH [af ms]=.val (af ms):=by
 simp only[cH,jq];show eLs _ [sh (af ms)]=_;have hc:=aS (src:=fIt (vr 0)) (n:=1) (i:=1) (e:=eLs (fIt (vb 1))) (f:=ae) (g:=ae) (l:=ms) (U:=[sh (af ms)]) rfl h λa _=>rfl;rw[aP,hc];rfl
section
variable {en:List (Nat×Nat)} {re:List Nat} {tb:List (List Int)} {cs:List Int} {ms:List (List Int)} {r:List D}
theorem F2 (h:HallN en re tb) (l1:cs.length=re.length) (h2:cs.all (cK 41)=true) (h3:r3 en cs ms=true) (hb:b<re.length):(ms.getD (re.getD b 0) []).length=(cs.getD b (-1)).toNat:=by
 obtain⟨q1,q2⟩:=h.rs b hb;have:=ύ.mp h3 _ (ό.mpr q1);unfold fOk at this;rw[ϝ,decide_eq_true_iff,q2]at this;have:=this.1;dsimp only at this;omega
def rG (en:List (Nat×Nat)) (re:List Nat) (tb:List (List Int)) (r:List D) (cs:List Int) (ms:List (List Int)) (a3 a4 a5 a6 a7 a8:Option Slt):Rho:=[sh (.tup (aw en::ac re::af tb::r)),sh (ae cs),sh (af ms),a3,a4,a5,a6,a7,a8]
theorem pf (h:HallN en re tb) (b:Bd cs ms):cV [.tup (aw en::ac re::af tb::r),ae cs,af ms]=.val (.bl (isR en re tb cs ms)):=by
 simp only[cV,iF];show fin (sq _ _ (rG en re tb r cs ms none none none none none none))=_;have bm:=b.m;unfold isR;refine qi (·=rG en re tb r cs ms none none none none none none) (ifR ?_) ?_
 ·unfold r1 rG;by_cases p1:cs.length=re.length
  ·by_cases p2:ms.length=en.length
   ·simp[p1,p2]
   ·have q2:¬ (ms.length:Int)=en.length:=by omega
    simp[p1,p2,q2]
  ·have q1:¬ (cs.length:Int)=re.length:=by omega
   simp[p1,q1]
 rintro e1 _ rfl;unfold r1 at e1;rw[ϝ,decide_eq_true_iff,decide_eq_true_iff]at e1;obtain⟨l1,l2⟩:=e1;refine qi (·=rG en re tb r cs ms none none none none none none) (ifR ?_) ?_
 ·have hc:av (fIt (vr 1)) 1 (tgN 9) (bz (tst (chn (λi j=>decide (i<=j)) (λi j=>decide (i<=j)) (kd (.int 0)) (vb 9) (kd (.int 40))))) (vr 9) (rG en re tb r cs ms none none none none none none)=.val ((cs.filter λx=>!cK 41 x).map D.int):=by
   refine cF (f:=D.int) (g:=D.int) rfl (by have:=b.c;omega) λx _=>⟨_,rfl,?_,rfl⟩;unfold cK rG;by_cases p:(0:Int)<=x
   ·simp[p];omega
   ·simp[p]
  rw[bn,aF,bG,aP,hc];simp only[aa,s_,c_,gG,tf,pU,uJ]
 rintro e2 _ rfl;refine qi (λU=>∃a b c,U=rG en re tb r cs ms a b c none none none) ?_ ?_
 ·refine cw (f:=nD) (ok:=fOk en cs ms) (l:=List.range en.length) (λU=>∃a b c,U=rG en re tb r cs ms a b c none none none) (by rw[<- l2];exact cM (by unfold rG;simp) (by omega)) (λi hi U hI=>?_) ⟨_,_,_,rfl⟩;obtain⟨x,y,z,rfl⟩:=hI;have hi:=ό.mp hi;have eb:=h.eb i hi;have bl:=b.at i;refine⟨_,rfl,?_⟩;have fe:=ce (en:=en) (i:=i) hi;have fm:=aJ (tb:=ms) (i:=i) (by omega);have f2:=aM (r:=cs) (i:=(en.getD i (0,0)).1) (by omega);have f3:=aM (r:=cs) (i:=(en.getD i (0,0)).2) (by omega);have s1:asT (tg2 4 5) (bin fix (bin fix (vb 0) (kd (.int 0))) (vb 3)) (rG en re tb r cs ms (sh (nD i)) y z none none none)=.val (.nx (rG en re tb r cs ms (sh (nD i)) (sh (nD (en.getD i (0,0)).1)) (sh (nD (en.getD i (0,0)).2)) none none none)):=by
   unfold rG;simp[-List.getD_eq_getElem?_getD,fe,bp];rfl
  have hc:av (fIt (bin fix (vb 2) (vb 3))) 1 (tgN 9) (bz (tst (chn (λi j=>decide (i<=j)) (λi j=>decide (i<j)) (kd (.int 0)) (vb 9) (bin fix (vb 1) (vb 5))))) (vr 9) (rG en re tb r cs ms (sh (nD i)) (sh (nD (en.getD i (0,0)).1)) (sh (nD (en.getD i (0,0)).2)) none none none)=.val (((ms.getD i []).filter λx=>!cK (cs.getD (en.getD i (0,0)).2 (-1)) x).map D.int):=by
   refine cF (f:=D.int) (g:=D.int) ?_ (by omega) λx _=>⟨_,rfl,?_,rfl⟩
   ·unfold rG;simp[-List.getD_eq_getElem?_getD,fm];rfl
   ·unfold cK rG;by_cases p:(0:Int)<=x
    ·simp[-List.getD_eq_getElem?_getD,p,f3]
    ·simp[p]
  have t1:tst (bin fne (una aj (bin fix (vb 2) (vb 3))) (bin fix (vb 1) (vb 4))) (rG en re tb r cs ms (sh (nD i)) (sh (nD (en.getD i (0,0)).1)) (sh (nD (en.getD i (0,0)).2)) none none none)=.val (!decide (((ms.getD i []).length:Int)=cs.getD (en.getD i (0,0)).1 (-1))):=by
   unfold rG;simp[-List.getD_eq_getElem?_getD,fm,f2]
  have t2:tst (bin (iI fgt) (una aj (eLs (av (fIt (bin fix (vb 2) (vb 3))) 1 (tgN 9) (bz (tst (chn (λi j=>decide (i<=j)) (λi j=>decide (i<j)) (kd (.int 0)) (vb 9) (bin fix (vb 1) (vb 5))))) (vr 9)))) (kd (.int 0))) (rG en re tb r cs ms (sh (nD i)) (sh (nD (en.getD i (0,0)).1)) (sh (nD (en.getD i (0,0)).2)) none none none)=.val (!(ms.getD i []).all (cK (cs.getD (en.getD i (0,0)).2 (-1)))):=by
   rw[bn,aF,bG,aP,hc];simp only[aa,s_,c_,gG,tf,pU,uJ]
  show(_->sq _ _ (rG en re tb r cs ms (sh (nD i)) y z none none none)=_)/\(_->∃_,sq _ _ (rG en re tb r cs ms (sh (nD i)) y z none none none)=_/\_);rw[ar,s1,aa];dsimp only;rw[ar,aR,t1,aa];unfold fOk;cases decide (((ms.getD i []).length:Int)=cs.getD (en.getD i (0,0)).1 (-1))with
  | false=>exact⟨λ_=>rfl,λz=>by cases z⟩
  | true =>
   simp only[Μ,γ,Ζ,if_false,cO,aa];obtain⟨k1,k2⟩:=iA t2;exact⟨k1,λz=>⟨_,k2 z,_,_,_,rfl⟩⟩
 rintro e3 _ ⟨a,b',c,rfl⟩;have e3:r3 en cs ms=true:=e3;refine qi (λU=>∃d,U=rG en re tb r cs ms a b' c d none none) ?_ ?_
 ·refine cw (f:=λi=>nD (re.getD i 0)) (ok:=okR re cs ms) (l:=List.range re.length) (λU=>∃d,U=rG en re tb r cs ms a b' c d none none) ?_ (λi hi U hI=>?_) ⟨_,rfl⟩
  ·have:ac re=.lst ((List.range re.length).map λi=>nD (re.getD i 0)):=by
    unfold ac
    conv=>lhs;rw[<- gE re,ϩ]
    rfl
   unfold rG;rw[this];simp[-List.getD_eq_getElem?_getD]
  ·obtain⟨d,rfl⟩:=hI;have hi:=ό.mp hi;refine⟨_,rfl,?_⟩;have q1:=(h.rs i hi).1;have f1:=aJ (tb:=ms) (i:=re.getD i 0) (by omega);have bl:=b.at (re.getD i 0);have lr:=lN (n:=(ms.getD (re.getD i 0) []).length) (by omega);have q:=o7 (ms.getD (re.getD i 0) []) (rg (ms.getD (re.getD i 0) []).length);rw[<- xh]at q;have ht:tst (bin fne (bin fix (vb 2) (vb 6)) (eLs (jS (aC (una aj (bin fix (vb 2) (vb 6))) aN)))) (rG en re tb r cs ms a b' c (sh (nD (re.getD i 0))) none none)=.val (!okR re cs ms i):=by
    unfold okR;rw[<- F2 h l1 e2 e3 hi];unfold rG;simp[-List.getD_eq_getElem?_getD,f1,lr,q]
   obtain⟨k1,k2⟩:=iA ht;exact⟨k1,λz=>⟨_,k2 z,_,rfl⟩⟩
 rintro e4 _ ⟨d,rfl⟩;refine qi (λ_=>True) ?_ λ_ _ _=>rfl;have main:=cw (src:=aK (aC (una aj (vb 2)) aN)) (T:=tgN 4) (F:=(aE (aK (aC (una aj (vb 2)) aN)) (tgN 5)
 (sq (asg 7 (bin fix (bin fix (bin fix (vb 0) (kd (.int 2))) (vb 4)) (vb 5)))
 (DL.iff (tst (bin (iI fge) (vb 7) (kd (.int 0))))
 (sq (asg 8 (eLs (av (fIt (bin fix (vb 2) (vb 4))) 1 (tgN 9) tT (bin fix (bin fix (vb 2) (vb 5)) (vb 9)))))
 (DL.iff (tst (bin fne (vb 8) (bin fix (vb 2) (vb 7))))
 (ret (kd (.bl false)))
 nxt))
 nxt)))) (f:=nD) (ok:=λi=>(List.range en.length).all (okT tb ms i)) (l:=List.range en.length) (U:=rG en re tb r cs ms a b' c d none none) (λU=>∃a4 a5 a7 a8,U=rG en re tb r cs ms a a4 a5 d a7 a8) (by rw[<- l2];exact cM (by unfold rG;simp) (by omega)) (λi hi U hI=>?_) ⟨_,_,_,_,rfl⟩
 ·rcases main with⟨q,e⟩|⟨q,ρ',e,_⟩
  ·exact .inl ⟨q,e⟩
  ·exact .inr ⟨q,ρ',e,trivial⟩
 ·obtain⟨a4,a5,a7,a8,rfl⟩:=hI;have hi:=ό.mp hi;refine⟨_,rfl,?_⟩;have in2:=cw (src:=aK (aC (una aj (vb 2)) aN)) (T:=tgN 5) (F:=(sq (asg 7 (bin fix (bin fix (bin fix (vb 0) (kd (.int 2))) (vb 4)) (vb 5)))
 (DL.iff (tst (bin (iI fge) (vb 7) (kd (.int 0))))
 (sq (asg 8 (eLs (av (fIt (bin fix (vb 2) (vb 4))) 1 (tgN 9) tT (bin fix (bin fix (vb 2) (vb 5)) (vb 9)))))
 (DL.iff (tst (bin fne (vb 8) (bin fix (vb 2) (vb 7))))
 (ret (kd (.bl false)))
 nxt))
 nxt))) (f:=nD) (ok:=okT tb ms i) (l:=List.range en.length) (U:=rG en re tb r cs ms a (sh (nD i)) a5 d a7 a8) (λU=>∃a5 a7 a8,U=rG en re tb r cs ms a (sh (nD i)) a5 d a7 a8) (by rw[<- l2];exact cM (by unfold rG;simp) (by omega)) (λj hj U hI=>?_) ⟨_,_,_,rfl⟩
  ·obtain⟨k1,k2⟩:=Gj in2;refine⟨k1,λz=>?_⟩;obtain⟨ρ',e,x,y,w,rfl⟩:=k2 z;exact⟨_,e,_,_,_,_,rfl⟩
  ·obtain⟨a5,a7,a8,rfl⟩:=hI;have hj:=ό.mp hj;refine⟨_,rfl,?_⟩;have g1:=aJ (tb:=tb) (i:=i) (by have:=h.tl;omega);have g2:=aM (r:=tb.getD i []) (i:=j) (by rw[h.rl i hi];exact hj);have s1:asg 7 (bin fix (bin fix (bin fix (vb 0) (kd (.int 2))) (vb 4)) (vb 5)) (rG en re tb r cs ms a (sh (nD i)) (sh (nD j)) d a7 a8)=.val (.nx (rG en re tb r cs ms a (sh (nD i)) (sh (nD j)) d (sh (.int ((tb.getD i []).getD j (-1)))) a8)):=by
    unfold rG;simp[-List.getD_eq_getElem?_getD,g1,g2]
   show(_->sq _ _ (rG en re tb r cs ms a (sh (nD i)) (sh (nD j)) d a7 a8)=_)/\(_->∃_,sq _ _ (rG en re tb r cs ms a (sh (nD i)) (sh (nD j)) d a7 a8)=_/\_);rw[ar,s1,aa];dsimp only;have t1:∀z:Int,tst (bin (iI fge) (vb 7) (kd (.int 0))) (rG en re tb r cs ms a (sh (nD i)) (sh (nD j)) d (sh (.int z)) a8)=.val (decide (0<=z)):=λz=>ϕ rfl rfl;rw[aR,t1,aa];unfold okT;rcases fX h hi hj with e|⟨k,hk,e,e2⟩
   ·rw[e];exact⟨λz=>by simp at z,λ_=>⟨_,rfl,_,_,_,rfl⟩⟩
   ·rw[e,if_pos (decide_eq_true (Int.natCast_nonneg k))];have nk:decide ((k:Int)=-1)=false:=decide_eq_false (by omega);rw[nk,Bool.false_or];have f1:=aJ (tb:=ms) (i:=k) (by omega);have f2:=aJ (tb:=ms) (i:=i) (by omega);have f3:=aJ (tb:=ms) (i:=j) (by omega);have bl:=b.at i;have q:=yx (a:=ms.getD i []) (b:=ms.getD j []) (src:=fIt (bin fix (vb 2) (vb 4))) (e:=bin fix (bin fix (vb 2) (vb 5)) (vb 9)) (i:=9) (U:=rG en re tb r cs ms a (sh (nD i)) (sh (nD j)) d (sh (.int (k:Int))) a8) (by omega) (yw e3 hi hj e2) (by unfold rG;simp[-List.getD_eq_getElem?_getD,f2];rfl) (λx=>by unfold rG;simp[-List.getD_eq_getElem?_getD,f3]);have s2:asg 8 (eLs (av (fIt (bin fix (vb 2) (vb 4))) 1 (tgN 9) tT (bin fix (bin fix (vb 2) (vb 5)) (vb 9)))) (rG en re tb r cs ms a (sh (nD i)) (sh (nD j)) d (sh (.int (k:Int))) a8)=.val (.nx (rG en re tb r cs ms a (sh (nD i)) (sh (nD j)) d (sh (.int (k:Int))) (sh (ae (fol (ms.getD i []) (ms.getD j [])))))):=by
     rw[dn,q];rfl
    rw[ar,s2,aa];dsimp only;have q2:=o7 (fol (ms.getD i []) (ms.getD j [])) (ms.getD k []);have ht:tst (bin fne (vb 8) (bin fix (vb 2) (vb 7))) (rG en re tb r cs ms a (sh (nD i)) (sh (nD j)) d (sh (.int (k:Int))) (sh (ae (fol (ms.getD i []) (ms.getD j [])))))=.val (!decide (ms.getD (k:Int).toNat []=fol (ms.getD i []) (ms.getD j []))):=by
     unfold rG;rw[Α,show decide (ms.getD k []=fol (ms.getD i []) (ms.getD j []))=decide (fol (ms.getD i []) (ms.getD j [])=ms.getD k [])from by rw[decide_eq_decide];exact eq_comm];simp[-List.getD_eq_getElem?_getD,f1,q2]
    obtain⟨k1,k2⟩:=iA ht;exact⟨k1,λz=>⟨_,k2 z,_,_,_,rfl⟩⟩
end
section
variable {en:List (Nat×Nat)} {re:List Nat} {tb:List (List Int)}
end
section
variable (U:Rho)
end
def bv (n:Nat) (z:Int):Bool:=decide (0<=z)&&decide (z<(n:Int))
theorem iD (l:List Int) (n:Nat) (hl:l.length<=100000):aW [ae l,.int (n:Int)]=.val (.bl (l.all (bv n))):=by
 simp only[aW,fg];show fin (ret _ [sh (ae l),sh (.int (n:Int))])=_;have hc:av (fIt (vr 0)) 1 (tgN 2) tT (cal 2 ba (aC (vr 2) (aC (vr 1) aN))) [sh (ae l),sh (.int (n:Int))]=.val (l.map λz=>.bl (bv n z)):=aS (f:=D.int) rfl hl λz _=>by
  have:=gO z n;simp[this,bv]
 rw[bM,bG,aP,hc,aa,aa,gL];rfl
theorem D0 {n:Nat}:∀{l:List Int},l.all (bv n)=true->∃m:List Nat,ae l=ac m/\m.length=l.length/\∀x∈m,x<n
 | [],_=>⟨[],rfl,rfl,λx h=>by cases h⟩
 | z::r,h=>by
  rw[List.all_cons,ϝ]at h;obtain⟨m,h1,h2,h3⟩:=D0 h.2;have hz:=h.1;unfold bv at hz;rw[ϝ,decide_eq_true_iff,decide_eq_true_iff]at hz;refine⟨z.toNat::m,?_,by simp[h2],λx hx=>?_⟩
  ·unfold ae ac at h1 ⊢;rw[Ϯ,Ϯ];have:nD z.toNat=.int z:=by unfold nD;rw[Δ hz.1]
   rw[this];injection h1 with h1;rw[h1]
  ·rcases Ϣ.mp hx with rfl|hx
   ·omega
   ·exact h3 x hx
variable {y:D} {as:List Int}
section
variable {en en2:List (Nat×Nat)} {re re2:List Nat} {tb tb2:List (List Int)} {b a:List Nat}
def okE (en en2:List (Nat×Nat)) (b a:List Nat) (i:Nat):Bool:=decide (en2.getD (a.getD i 0) (0,0)=(b.getD (en.getD i (0,0)).1 0,b.getD (en.getD i (0,0)).2 0))
def lE (re re2 b a:List Nat) (i:Nat):Bool:=decide (a.getD (re.getD i 0) 0=re2.getD (b.getD i 0) 0)
def kz (tb tb2:List (List Int)) (a:List Nat) (i j:Nat):Bool:=decide ((tb.getD i []).getD j (-1)=-1)||decide ((tb2.getD (a.getD i 0) []).getD (a.getD j 0) (-1)=(a.getD ((tb.getD i []).getD j (-1)).toNat 0:Nat))
theorem uT (p q:Nat×Nat):fne (bp p) (bp q)=.val (.bl (!decide (p=q))):=by
 by_cases h:p=q
 ·subst h;rw[fB (eN _)];simp
 ·rw[lW (eN _) (eN _) (λz=>h (endD_inj.mp z))];simp[h]
theorem ltD {l:List Nat} (h:∀x∈l,x<n) (hi:i<l.length):l.getD i 0<n:=by rw[ai hi];exact h _ (Ϙ hi)
theorem wU {A B:Rho->R Out} {U'':Rho} {c:Bool} (hs:A U=.val (.nx ρ')) (hk:(c=false->B ρ'=.val (.rt (.bl false)))/\(c=true->B ρ'=.val (.nx U''))):(c=false->sq A B U=.val (.rt (.bl false)))/\(c=true->sq A B U=.val (.nx U'')):=by
 rw[ar,hs];exact hk
theorem mW (h:HallN en re tb) (h2:HallN en2 re2 tb2) (hb:b.length=re.length) (ha:a.length=en.length) (na:∀x∈a,x<en2.length) :
  dB [hlD en re tb,hlD en2 re2 tb2,ac b,ac a]=.val (.bl ((List.range en.length).all (okE en en2 b a))):=by
 simp only[dB,gY];show fin (sq _ _ [sh (hlD en re tb),sh (hlD en2 re2 tb2),sh (ac b),sh (ac a),none,none])=_;refine eR (f:=λi=>.tup [bp (en.getD i (0,0)),nD (a.getD i 0)]) (λU=>∃x y,U=[sh (hlD en re tb),sh (hlD en2 re2 tb2),sh (ac b),sh (ac a),x,y]) ?_ (λi hi U hI=>?_) ⟨_,_,rfl⟩
 ·have:=lh (f:=bp) (g:=nD) (l:=en) (m:=a) (a:=(0,0)) (b:=0) ha.symm;simp[aw,ac,this]
 ·obtain⟨x,y,rfl⟩:=hI;have hi:=ό.mp hi;have eb:=h.eb i hi;have f1:=ce (en:=en2) (i:=a.getD i 0) (ltD na (by omega));have f2:=aY (re:=b) (i:=(en.getD i (0,0)).1) (by omega);have f3:=aY (re:=b) (i:=(en.getD i (0,0)).2) (by omega);have q:=uT (en2.getD (a.getD i 0) (0,0)) (b.getD (en.getD i (0,0)).1 0,b.getD (en.getD i (0,0)).2 0);have ht:tst (bin fne (bin fix (una (ci 0) (vb 1)) (vb 5)) (eT (aC (bin fix (vb 2) (bin fix (vb 4) (kd (.int 0)))) (aC (bin fix (vb 2) (bin fix (vb 4) (kd (.int 1)))) aN)))) [sh (hlD en re tb),sh (hlD en2 re2 tb2),sh (ac b),sh (ac a),sh (bp (en.getD i (0,0))),sh (nD (a.getD i 0))]=.val (!okE en en2 b a i):=by
   simp[-List.getD_eq_getElem?_getD,f1,f2,f3];exact(congrArg (λz=>R.bind z asB) q)
  obtain⟨k1,k2⟩:=iA ht;exact⟨_,rfl,k1,λz=>⟨_,k2 z,_,_,rfl⟩⟩
theorem fE (h:HallN en re tb) (h2:HallN en2 re2 tb2) (hb:b.length=re.length) (ha:a.length=en.length) (nb:∀x∈b,x<re2.length) :
  bf [hlD en re tb,hlD en2 re2 tb2,ac b,ac a]=.val (.bl ((List.range re.length).all (lE re re2 b a))):=by
 simp only[bf,cq];show fin (ret _ [sh (hlD en re tb),sh (hlD en2 re2 tb2),sh (ac b),sh (ac a)])=_;have n6:=h.nb6;have hc:av (jb (aC (una (ci 1) (vb 0)) (aC (vr 2) aN))) 2 (tg2 4 5) tT (bin feq (bin fix (vb 3) (vb 4)) (bin fix (una (ci 1) (vb 1)) (vb 5))) [sh (hlD en re tb),sh (hlD en2 re2 tb2),sh (ac b),sh (ac a)]=.val ((List.range re.length).map λi=>.bl (lE re re2 b a i)):=by
  have:=cF (src:=jb (aC (una (ci 1) (vb 0)) (aC (vr 2) aN))) (n:=2) (T:=tg2 4 5) (t:=tT) (e:=bin feq (bin fix (vb 3) (vb 4)) (bin fix (una (ci 1) (vb 1)) (vb 5))) (f:=λi=>.tup [nD (re.getD i 0),nD (b.getD i 0)]) (g:=λi=>.bl (lE re re2 b a i)) (p:=λ_=>true) (l:=List.range re.length) (U:=[sh (hlD en re tb),sh (hlD en2 re2 tb2),sh (ac b),sh (ac a)]) ?_ (by rw[ϸ];omega) λi hi=>?_
  ·rw[this,List.filter_eq_self.mpr λ_ _=>rfl]
  ·have:=lh (f:=nD) (g:=nD) (l:=re) (m:=b) (a:=0) (b:=0) hb.symm;simp[ac,this]
  ·have hi:=ό.mp hi;have r1:=(h.rs i hi).1;have f1:=aY (re:=a) (i:=re.getD i 0) (by omega);have f2:=aY (re:=re2) (i:=b.getD i 0) (ltD nb (by omega));refine⟨_,rfl,rfl,?_⟩;have q:=l8 (a.getD (re.getD i 0) 0:Nat) (re2.getD (b.getD i 0) 0:Nat);simp[-List.getD_eq_getElem?_getD,f1,f2];unfold lE;rw[show decide (((a.getD (re.getD i 0) 0:Nat):Int)=(re2.getD (b.getD i 0) 0:Nat))=decide (a.getD (re.getD i 0) 0=re2.getD (b.getD i 0) 0)from by simp only[Int.natCast_inj]]
 rw[bM,bG,aP,hc,aa,aa,gL];rfl
theorem kh (h:HallN en re tb) (hi:i<en.length) (hj:j<en.length):(tb.getD i []).getD j (-1)=-1\/∃k,k<en.length/\(tb.getD i []).getD j (-1)=(k:Int):=by
 by_cases e:(en.getD i (0,0)).2=(en.getD j (0,0)).1
 ·obtain⟨k,h1,h2,_⟩:=h.tp i j hi hj e;exact .inr ⟨k,h1,h2⟩
 ·exact .inl (h.tn i j hi hj e)
theorem fC (h:HallN en re tb) (h2:HallN en2 re2 tb2) (ha:a.length=en.length) (na:∀x∈a,x<en2.length) :
  bb [hlD en re tb,hlD en2 re2 tb2,ac a]=.val (.bl ((List.range en.length).all λi=>(List.range en.length).all (kz tb tb2 a i))):=by
 simp only[bb,cj];show fin (sq _ _ [sh (hlD en re tb),sh (hlD en2 re2 tb2),sh (ac a),none,none,none,none])=_;have hl:=h.tl;refine eR (f:=λi=>.tup [nD i,ae (tb.getD i [])]) (λU=>∃x y z w,U=[sh (hlD en re tb),sh (hlD en2 re2 tb2),sh (ac a),x,y,z,w]) ?_ (λi hi U hI=>?_) ⟨_,_,_,_,rfl⟩
 ·have:enu 0 (tb.map ae)=_:=fW _ _;simp only[jc,aZ,bG,iJ];show(ph [.lst (tb.map ae)])=_;rw[jg,this,ϋ,hl]
  congr 1
  apply Ϧ;intro i hi;have hi:=ό.mp hi;rw[Λ,ai (show i<(tb.map ae).length by simpa[hl]using hi),ai (show i<tb.length by omega),ϵ]
 ·obtain⟨x,y,z,w,rfl⟩:=hI;have hi:=ό.mp hi;have rl:=h.rl i hi;refine⟨_,rfl,?_⟩;have main:=cw (src:=c9 (aC (vr 4) aN)) (T:=tg2 5 6) (F:=DL.iff (jX (tst (bin fne (vb 6) (una cS (kd (.int 1))))) (tst (bin fne (bin fix (vb 2) (vb 6)) (bin fix (bin fix (una (ci 2) (vb 1)) (bin fix (vb 2) (vb 3))) (bin fix (vb 2) (vb 5)))))) (ret (kd (.bl false))) nxt) (f:=λj=>.tup [nD j,.int ((tb.getD i []).getD j (-1))]) (ok:=kz tb tb2 a i) (l:=List.range en.length) (U:=[sh (hlD en re tb),sh (hlD en2 re2 tb2),sh (ac a),sh (nD i),sh (ae (tb.getD i [])),z,w])
   (λU=>∃z w,U=[sh (hlD en re tb),sh (hlD en2 re2 tb2),sh (ac a),sh (nD i),sh (ae (tb.getD i [])),z,w]) ?_ (λj hj U hI=>?_) ⟨_,_,rfl⟩
  ·rcases main with⟨q,e⟩|⟨q,ρ',e,z',w',rfl⟩
   ·exact⟨λ_=>e,λt=>(by rw[t]at q;cases q)⟩
   ·exact⟨λt=>(by rw[t]at q;cases q),λ_=>⟨_,e,_,_,_,_,rfl⟩⟩
  ·have:enu 0 ((tb.getD i []).map D.int)=_:=fW _ _;simp only[jc,aZ,B2,iJ];show(ph [.lst ((tb.getD i []).map D.int)])=_;rw[jg,this,ϋ,rl]
   congr 1
   apply Ϧ;intro j hj;have hj:=ό.mp hj;rw[Λ,ai (show j<((tb.getD i []).map D.int).length by rw[ϋ,rl];exact hj),ai (show j<(tb.getD i []).length by omega),ϵ]
  ·obtain⟨z,w,rfl⟩:=hI;have hj:=ό.mp hj;refine⟨_,rfl,?_⟩;have ht:jX (tst (bin fne (vb 6) (una cS (kd (.int 1))))) (tst (bin fne (bin fix (vb 2) (vb 6)) (bin fix (bin fix (una (ci 2) (vb 1)) (bin fix (vb 2) (vb 3))) (bin fix (vb 2) (vb 5))))) [sh (hlD en re tb),sh (hlD en2 re2 tb2),sh (ac a),sh (nD i),sh (ae (tb.getD i [])),sh (nD j),sh (.int ((tb.getD i []).getD j (-1)))]=.val (!kz tb tb2 a i j):=by
    unfold kz;rcases kh h hi hj with e|⟨k,hk,e⟩
    ·rw[e];simp
    ·rw[e];have l1:=ltD na (i:=i) (by omega);have l2:=ltD na (i:=j) (by omega);have f1:=aY (re:=a) (i:=k) (by omega);have f2:=aY (re:=a) (i:=i) (by omega);have f3:=aY (re:=a) (i:=j) (by omega);have f4:=aJ (tb:=tb2) (i:=a.getD i 0) (by rw[h2.tl];exact l1);have f5:=aM (r:=tb2.getD (a.getD i 0) []) (i:=a.getD j 0) (by rw[h2.rl _ l1];exact l2);have nk:¬ (k:Int)=-1:=by omega
     simp[-List.getD_eq_getElem?_getD,f1,f2,f3,f4,f5,nk];exact eq_comm
   obtain⟨k1,k2⟩:=iA ht;exact⟨k1,λz=>⟨_,k2 z,_,_,rfl⟩⟩
theorem b4 {bs:List Int} (hb:bs.length<=100000) (ha:as.length<=100000):aU [hlD en re tb,hlD en2 re2 tb2,ae bs,ae as]=.val (.bl (decide (bs.length=re.length)&&decide (as.length=en.length)&&(bs.all (bv re2.length)&&as.all (bv en2.length)))):=by
 simp only[aU,da];show fin (sq _ _ [sh (hlD en re tb),sh (hlD en2 re2 tb2),sh (ae bs),sh (ae as)])=_;have e1:=iD bs re2.length hb;have e2:=iD as en2.length ha;by_cases p1:bs.length=re.length
 ·by_cases p2:as.length=en.length
  ·simp[-List.all_eq_true,p1,p2,e1,e2];cases bs.all (bv re2.length)<;>simp
  ·have q2:¬ (as.length:Int)=en.length:=by omega
   simp[p1,p2,q2]
 ·have q1:¬ (bs.length:Int)=re.length:=by omega
  simp[p1,q1]
theorem iC (h:HallN en re tb) (h2:HallN en2 re2 tb2) (hb:b.length=re.length) (ha:a.length=en.length) (nb:∀x∈b,x<re2.length) (na:∀x∈a,x<en2.length)
  (hf:aU [hlD en re tb,hlD en2 re2 tb2,ac b,ac a]=.val (.bl true)) :
  aL [hlD en re tb,hlD en2 re2 tb2,ac b,ac a]=.val (.bl ((List.range en.length).all (okE en en2 b a)&&((List.range re.length).all (lE re re2 b a)&&(List.range en.length).all λi=>(List.range en.length).all (kz tb tb2 a i)))):=by
 simp only[aL,eD];show fin (sq _ _ [sh (hlD en re tb),sh (hlD en2 re2 tb2),sh (ac b),sh (ac a)])=_;have e1:=mW h h2 hb ha na;have e2:=fE h h2 hb ha nb;have e3:=fC h h2 ha na;generalize (List.range en.length).all (okE en en2 b a)=c1 at e1 ⊢;generalize (List.range re.length).all (lE re re2 b a)=c2 at e2 ⊢;generalize ((List.range en.length).all λi=>(List.range en.length).all (kz tb tb2 a i))=c3 at e3 ⊢;cases c1<;>cases c2<;>simp[hf,e1,e2,e3]
theorem iB (hf:aU [hlD en re tb,hlD en2 re2 tb2,x,y]=.val (.bl false)):aL [hlD en re tb,hlD en2 re2 tb2,x,y]=.val (.bl false):=by
 simp only[aL,eD];show fin (sq _ _ [sh (hlD en re tb),sh (hlD en2 re2 tb2),sh x,sh y])=_;simp[hf]
end
section
variable {en en2:List (Nat×Nat)} {re re2:List Nat} {tb tb2:List (List Int)} {b a:List Nat} {r r2:List D}
theorem q8 (h:HallN en re tb) (r:List D):dH [.tup (aw en::ac re::af tb::r)]=.val (hlD en re tb):=by
 have n1:=h.na40;have n2:=h.tl;simp only[dH,jp];have hf:av (fIt (bin fix (vb 0) (kd (.int 2)))) 1 (tgN 1) tT (eLs (fIt (vb 1))) [sh (.tup (aw en::ac re::af tb::r))]=.val (tb.map ae):=aS (f:=ae) (by simp;rfl) (by omega) λr _=>rfl;have eh:=Bv h;show fin (ret _ [sh (.tup (aw en::ac re::af tb::r))])=_;have ha:aC (eLs (fIt (bin fix (vb 0) (kd (.int 0))))) (aC (eLs (fIt (bin fix (vb 0) (kd (.int 1))))) (aC (eLs (av (fIt (bin fix (vb 0) (kd (.int 2)))) 1 (tgN 1) tT (eLs (fIt (vb 1))))) aN)) [sh (.tup (aw en::ac re::af tb::r))]=.val [aw en,ac re,af tb]:=by
  simp only[aZ,aP,hf];simp;rfl
 rw[bM,D5,ha,aa];dsimp only;rw[eh];rfl
theorem k7 {U1:Rho} {N:Rho->R D} (hl:l.length<=100000) (hv:fIt (vr i) U=.val (l.map D.int)) (hN:∀z:Int,∃U1,tgN 11 (.int z) (U++List.replicate 1 none)=some U1/\vb 11 U1=.val (.int z)/\vr 11 U1=.val (.int z)/\N U1=.val (.int (n:Int))) :
  tst (bin (iI fgt) (una aj (eLs (av (fIt (vr i)) 1 (tgN 11) (bz (tst (chn (λi j=>decide (i<=j)) (λi j=>decide (i<j)) (kd (.int 0)) (vb 11) N))) (vr 11)))) (kd (.int 0))) U=.val (!l.all (bv n)):=by
 have hc:=cF (src:=fIt (vr i)) (n:=1) (T:=tgN 11) (t:=bz (tst (chn (λi j=>decide (i<=j)) (λi j=>decide (i<j)) (kd (.int 0)) (vb 11) N))) (e:=vr 11) (f:=D.int) (g:=D.int) (p:=λz=>!bv n z) (l:=l) (U:=U) hv hl λz hz=>by
  obtain⟨U1,h1,h2,h3,h4⟩:=hN z;refine⟨U1,h1,?_,h3⟩;simp only[dA,bn,E4,c_,h2,h4,aa];unfold bv;by_cases q:(0:Int)<=z<;>simp[q]
 rw[bn,aF,bG,aP,hc];simp only[aa,s_,c_,gG,tf,pU,ϋ]
 congr 1
 rw[Bool.eq_iff_iff];simp only[decide_eq_true_iff,Bool.not_eq_true',List.all_eq_false];constructor
 ·intro q;have:0<(l.filter λz=>!bv n z).length:=by omega
  obtain⟨z,hz⟩:=List.exists_mem_of_length_pos this;have:=Υ.mp hz;exact⟨z,this.1,by simpa using this.2⟩
 ·rintro⟨z,h1,h2⟩;have:z∈l.filter λz=>!bv n z:=Υ.mpr ⟨h1,by simpa using h2⟩;have:=Ω this;omega
theorem Br {bs:List Int} (hb:bs.length<=100000) (ha:as.length<=100000) (hn:(decide (bs.length=re.length)&&decide (as.length=en.length)&&(bs.all (bv re2.length)&&as.all (bv en2.length)))=false) :
  bD [.tup (aw en::ac re::af tb::r),.tup (aw en2::ac re2::af tb2::r2),ae bs,ae as]=.val (.bl false):=by
 simp only[bD,ff];show fin (sq _ _ [sh (.tup (aw en::ac re::af tb::r)),sh (.tup (aw en2::ac re2::af tb2::r2)),sh (ae bs),sh (ae as),none,none,none,none,none,none,none])=_;have t1:=k7 (U1:=[]) (U:=[sh (.tup (aw en::ac re::af tb::r)),sh (.tup (aw en2::ac re2::af tb2::r2)),sh (ae bs),sh (ae as),none,none,none,none,none,none,none]) (i:=2) (N:=una aj (bin fix (vb 1) (kd (.int 1)))) (l:=bs) (n:=re2.length) hb rfl λz=>⟨_,rfl,rfl,rfl,by simp⟩;have t2:=k7 (U1:=[]) (U:=[sh (.tup (aw en::ac re::af tb::r)),sh (.tup (aw en2::ac re2::af tb2::r2)),sh (ae bs),sh (ae as),none,none,none,none,none,none,none]) (i:=3) (N:=una aj (bin fix (vb 1) (kd (.int 0)))) (l:=as) (n:=en2.length) ha rfl λz=>⟨_,rfl,rfl,rfl,by simp⟩;have t0:orB (tst (bin fne (una aj (vb 2)) (una aj (bin fix (vb 0) (kd (.int 1)))))) (tst (bin fne (una aj (vb 3)) (una aj (bin fix (vb 0) (kd (.int 0)))))) [sh (.tup (aw en::ac re::af tb::r)),sh (.tup (aw en2::ac re2::af tb2::r2)),sh (ae bs),sh (ae as),none,none,none,none,none,none,none]=.val (!(decide (bs.length=re.length)&&decide (as.length=en.length))):=by
  by_cases p1:bs.length=re.length
  ·by_cases p2:as.length=en.length
   ·simp[p1,p2]
   ·have q2:¬ (as.length:Int)=en.length:=by omega
    simp[p1,p2,q2]
  ·have q1:¬ (bs.length:Int)=re.length:=by omega
   simp[p1,q1]
 generalize (decide (bs.length=re.length)&&decide (as.length=en.length))=c0 at t0 hn;generalize bs.all (bv re2.length)=c1 at t1 hn;generalize as.all (bv en2.length)=c2 at t2 hn;rw[ar,aR,t0];cases c0 with
 | false=>rfl
 | true =>
  rw[aa];simp only[γ,if_false,Ζ,cO,aa];rw[ar,aR,t1];cases c1 with
  | false=>rfl
  | true =>
   rw[aa];simp only[γ,if_false,Ζ,cO,aa];rw[ar,aR,t2];cases c2 with
   | false=>rfl
   | true=>cases hn
theorem pe (h:HallN en re tb) (h2:HallN en2 re2 tb2) (hb:b.length=re.length) (ha:a.length=en.length) (nb:∀x∈b,x<re2.length) (na:∀x∈a,x<en2.length) :
  bD [.tup (aw en::ac re::af tb::r),.tup (aw en2::ac re2::af tb2::r2),ac b,ac a]=.val (.bl ((List.range en.length).all (okE en en2 b a)&&((List.range re.length).all (lE re re2 b a)&&(List.range en.length).all λi=>(List.range en.length).all (kz tb tb2 a i)))):=by
 simp only[bD,ff];have rb:∀m:List Nat,ac m=ae (m.map Int.ofNat):=λm=>by unfold ac ae;rw[ϩ];rfl
 have allb:∀(m:List Nat) (n:Nat),(∀x∈m,x<n)->(m.map Int.ofNat).all (bv n)=true:=λm n hm=>by
  rw[ύ];intro z hz;obtain⟨x,hx,rfl⟩:=ϱ.mp hz;have:=hm x hx;unfold bv;simp only[Int.ofNat_eq_natCast,ϝ,decide_eq_true_iff];omega
 have n40:=h.na40;have n6:=h.nb6;generalize hP:D.tup (aw en::ac re::af tb::r)=P;generalize hM:D.tup (aw en2::ac re2::af tb2::r2)=M;have p0:fix P (.int 0)=.val (aw en):=by rw[<- hP];simp
 have p1:fix P (.int 1)=.val (ac re):=by rw[<- hP];simp
 have p2:fix P (.int 2)=.val (af tb):=by rw[<- hP];simp
 have m0:fix M (.int 0)=.val (aw en2):=by rw[<- hM];simp
 have m1:fix M (.int 1)=.val (ac re2):=by rw[<- hM];simp
 have m2:fix M (.int 2)=.val (af tb2):=by rw[<- hM];simp
 show fin (sq _ _ [sh P,sh M,sh (ac b),sh (ac a),none,none,none,none,none,none,none])=_;have t1:=k7 (U1:=[]) (U:=[sh P,sh M,sh (ac b),sh (ac a),none,none,none,none,none,none,none]) (i:=2) (N:=una aj (bin fix (vb 1) (kd (.int 1)))) (l:=b.map Int.ofNat) (n:=re2.length) (by rw[ϋ];omega) (by simp[ac]) λz=>⟨_,rfl,rfl,rfl,by simp[m1]⟩;have t2:=k7 (U1:=[]) (U:=[sh P,sh M,sh (ac b),sh (ac a),none,none,none,none,none,none,none]) (i:=3) (N:=una aj (bin fix (vb 1) (kd (.int 0)))) (l:=a.map Int.ofNat) (n:=en2.length) (by rw[ϋ];omega) (by simp[ac]) λz=>⟨_,rfl,rfl,rfl,by simp[m0]⟩;rw[allb b _ nb]at t1;rw[allb a _ na]at t2;have t0:orB (tst (bin fne (una aj (vb 2)) (una aj (bin fix (vb 0) (kd (.int 1)))))) (tst (bin fne (una aj (vb 3)) (una aj (bin fix (vb 0) (kd (.int 0)))))) [sh P,sh M,sh (ac b),sh (ac a),none,none,none,none,none,none,none]=.val false:=by
  simp[p1,p0,hb,ha]
 rw[ar,aR,t0,aa,if_neg (by decide),cO,aa];dsimp only;rw[ar,aR,t1,aa,if_neg (by decide),cO,aa];dsimp only;rw[ar,aR,t2,aa,if_neg (by decide),cO,aa];dsimp only;have er:=cN (n:=en.length) (by omega);have eb:=cN (n:=re.length) (by omega);have L1:=cw (src:=aK (aC (una aj (vb 3)) aN)) (T:=tgN 4) (F:=sq (asT (tg2 5 6) (bin fix (bin fix (vb 0) (kd (.int 0))) (vb 4))) (DL.iff (tst (bin fne (bin fix (bin fix (vb 1) (kd (.int 0))) (bin fix (vb 3) (vb 4))) (eT (aC (bin fix (vb 2) (vb 5)) (aC (bin fix (vb 2) (vb 6)) aN))))) (ret (kd (.bl false))) nxt)) (f:=nD) (ok:=okE en en2 b a) (l:=List.range en.length) (U:=[sh P,sh M,sh (ac b),sh (ac a),none,none,none,none,none,none,none])
  (λU=>∃x y z,U=[sh P,sh M,sh (ac b),sh (ac a),x,y,z,none,none,none,none]) (by simp[ha,er,dq]) (λi hi U hI=>by
   obtain⟨x,y,z,rfl⟩:=hI;have hi:=ό.mp hi;have ebi:=h.eb i hi;have f0:=ce (en:=en) hi;have fa:=aY (re:=a) (i:=i) (by omega);have f1:=ce (en:=en2) (i:=a.getD i 0) (ltD na (by omega));have f2:=aY (re:=b) (i:=(en.getD i (0,0)).1) (by omega);have f3:=aY (re:=b) (i:=(en.getD i (0,0)).2) (by omega);have q:=uT (en2.getD (a.getD i 0) (0,0)) (b.getD (en.getD i (0,0)).1 0,b.getD (en.getD i (0,0)).2 0);have hs:asT (tg2 5 6) (bin fix (bin fix (vb 0) (kd (.int 0))) (vb 4)) [sh P,sh M,sh (ac b),sh (ac a),sh (nD i),y,z,none,none,none,none]=.val (.nx [sh P,sh M,sh (ac b),sh (ac a),sh (nD i),sh (nD (en.getD i (0,0)).1),sh (nD (en.getD i (0,0)).2),none,none,none,none]):=by
    unfold asT;simp only[aF,B3,c_];simp[-List.getD_eq_getElem?_getD,p0,f0];rfl
   have ht:tst (bin fne (bin fix (bin fix (vb 1) (kd (.int 0))) (bin fix (vb 3) (vb 4))) (eT (aC (bin fix (vb 2) (vb 5)) (aC (bin fix (vb 2) (vb 6)) aN)))) [sh P,sh M,sh (ac b),sh (ac a),sh (nD i),sh (nD (en.getD i (0,0)).1),sh (nD (en.getD i (0,0)).2),none,none,none,none]=.val (!okE en en2 b a i):=by
    simp[-List.getD_eq_getElem?_getD,m0,fa,f1,f2,f3];exact(congrArg (λz=>R.bind z asB) q)
   obtain⟨k1,k2⟩:=wU hs (iA ht);exact⟨_,rfl,k1,λz=>⟨_,k2 z,_,_,_,rfl⟩⟩) ⟨none,none,none,rfl⟩
 rw[ar];rcases L1 with⟨q,e⟩|⟨q,U1,e,x,y,z,rfl⟩
 ·rw[e,q];rfl
 rw[e,q,aa];dsimp only;have L2:=cw (src:=aK (aC (una aj (vb 2)) aN)) (T:=tgN 7) (F:=DL.iff (tst (bin fne (bin fix (vb 3) (bin fix (bin fix (vb 0) (kd (.int 1))) (vb 7))) (bin fix (bin fix (vb 1) (kd (.int 1))) (bin fix (vb 2) (vb 7))))) (ret (kd (.bl false))) nxt) (f:=nD) (ok:=lE re re2 b a) (l:=List.range re.length) (U:=[sh P,sh M,sh (ac b),sh (ac a),x,y,z,none,none,none,none])
  (λU=>∃w,U=[sh P,sh M,sh (ac b),sh (ac a),x,y,z,w,none,none,none]) (by simp[hb,eb,dq]) (λi hi U hI=>by
   obtain⟨w,rfl⟩:=hI;have hi:=ό.mp hi;have r1:=(h.rs i hi).1;have f0:=aY (re:=re) hi;have fb:=aY (re:=b) (i:=i) (by omega);have f1:=aY (re:=a) (i:=re.getD i 0) (by omega);have f2:=aY (re:=re2) (i:=b.getD i 0) (ltD nb (by omega));have ht:tst (bin fne (bin fix (vb 3) (bin fix (bin fix (vb 0) (kd (.int 1))) (vb 7))) (bin fix (bin fix (vb 1) (kd (.int 1))) (bin fix (vb 2) (vb 7)))) [sh P,sh M,sh (ac b),sh (ac a),x,y,z,sh (nD i),none,none,none]=.val (!lE re re2 b a i):=by
    simp[-List.getD_eq_getElem?_getD,p1,m1,f0,fb,f1,f2];unfold lE;simp only[Int.natCast_inj]
   obtain⟨k1,k2⟩:=iA ht;exact⟨_,rfl,k1,λz=>⟨_,k2 z,_,rfl⟩⟩) ⟨none,rfl⟩
 rw[ar];rcases L2 with⟨q,e⟩|⟨q,U1,e,w,rfl⟩
 ·rw[e,q];rfl
 rw[e,q,aa,Μ,Μ];dsimp only;refine eR (f:=nD) (λU=>∃y z m u v,U=[sh P,sh M,sh (ac b),sh (ac a),x,y,z,w,m,u,v]) (by simp[ha,er,dq]) (λi hi U hI=>?_) ⟨_,_,_,_,_,rfl⟩;obtain⟨y,z,m,u,v,rfl⟩:=hI;have hi:=ό.mp hi;refine⟨_,rfl,?_⟩;have main:=cw (src:=aK (aC (una aj (vb 3)) aN)) (T:=tgN 6) (F:=sq (asg 8 (bin fix (bin fix (bin fix (vb 0) (kd (.int 2))) (vb 5)) (vb 6))) (sq (par 9 10 (aC (bin fix (vb 3) (vb 5)) (aC (bin fix (vb 3) (vb 6)) aN))) (DL.iff (jX (tst (bin (iI fge) (vb 8) (kd (.int 0)))) (tst (bin fne (bin fix (bin fix (bin fix (vb 1) (kd (.int 2))) (vb 9)) (vb 10)) (bin fix (vb 3) (vb 8))))) (ret (kd (.bl false))) nxt))) (f:=nD) (ok:=kz tb tb2 a i) (l:=List.range en.length) (U:=[sh P,sh M,sh (ac b),sh (ac a),x,sh (nD i),z,w,m,u,v])
  (λU=>∃z m u v,U=[sh P,sh M,sh (ac b),sh (ac a),x,sh (nD i),z,w,m,u,v]) (by simp[ha,er,dq]) (λj hj U hI=>by
   obtain⟨z,m,u,v,rfl⟩:=hI;have hj:=ό.mp hj;have l1:=ltD na (i:=i) (by omega);have l2:=ltD na (i:=j) (by omega);have g1:=aJ (tb:=tb) (i:=i) (by rw[h.tl];exact hi);have g2:=aM (r:=tb.getD i []) (i:=j) (by rw[h.rl _ hi];exact hj);have f2:=aY (re:=a) (i:=i) (by omega);have f3:=aY (re:=a) (i:=j) (by omega);have f4:=aJ (tb:=tb2) (i:=a.getD i 0) (by rw[h2.tl];exact l1);have f5:=aM (r:=tb2.getD (a.getD i 0) []) (i:=a.getD j 0) (by rw[h2.rl _ l1];exact l2);have s1:asg 8 (bin fix (bin fix (bin fix (vb 0) (kd (.int 2))) (vb 5)) (vb 6)) [sh P,sh M,sh (ac b),sh (ac a),x,sh (nD i),sh (nD j),w,m,u,v]=.val (.nx [sh P,sh M,sh (ac b),sh (ac a),x,sh (nD i),sh (nD j),w,sh (.int ((tb.getD i []).getD j (-1))),u,v]):=by
    simp[-List.getD_eq_getElem?_getD,p2,g1,g2]
   have s2:par 9 10 (aC (bin fix (vb 3) (vb 5)) (aC (bin fix (vb 3) (vb 6)) aN)) [sh P,sh M,sh (ac b),sh (ac a),x,sh (nD i),sh (nD j),w,sh (.int ((tb.getD i []).getD j (-1))),u,v]=.val (.nx [sh P,sh M,sh (ac b),sh (ac a),x,sh (nD i),sh (nD j),w,sh (.int ((tb.getD i []).getD j (-1))),sh (nD (a.getD i 0)),sh (nD (a.getD j 0))]):=by
    unfold par;simp[-List.getD_eq_getElem?_getD,f2,f3]
   have ht:jX (tst (bin (iI fge) (vb 8) (kd (.int 0)))) (tst (bin fne (bin fix (bin fix (bin fix (vb 1) (kd (.int 2))) (vb 9)) (vb 10)) (bin fix (vb 3) (vb 8)))) [sh P,sh M,sh (ac b),sh (ac a),x,sh (nD i),sh (nD j),w,sh (.int ((tb.getD i []).getD j (-1))),sh (nD (a.getD i 0)),sh (nD (a.getD j 0))]=.val (!kz tb tb2 a i j):=by
    unfold kz;rcases kh h hi hj with e|⟨k,hk,e⟩
    ·rw[e];simp
    ·rw[e];have f1:=aY (re:=a) (i:=k) (by omega);have nk:¬ (k:Int)=-1:=by omega
     simp[-List.getD_eq_getElem?_getD,m2,f1,f4,f5,nk]
   obtain⟨k1,k2⟩:=wU s1 (wU s2 (iA ht));exact⟨_,rfl,k1,λz=>⟨_,k2 z,_,_,_,_,rfl⟩⟩) ⟨_,_,_,_,rfl⟩
 rcases main with⟨q,e⟩|⟨q,ρ',e,z',m',u',v',rfl⟩
 ·exact⟨λ_=>e,λt=>(by rw[t]at q;cases q)⟩
 ·exact⟨λt=>(by rw[t]at q;cases q),λ_=>⟨_,e,_,_,_,_,_,rfl⟩⟩
theorem Bu (h:HallN en re tb) (h2:HallN en2 re2 tb2) (r r2:List D) {bs:List Int} (hb:bs.length<=100000) (ha:as.length<=100000) :
  ∃c,aL [hlD en re tb,hlD en2 re2 tb2,ae bs,ae as]=.val (.bl c)/\bD [.tup (aw en::ac re::af tb::r),.tup (aw en2::ac re2::af tb2::r2),ae bs,ae as]=.val (.bl c):=by
 have hf:=b4 (en:=en) (re:=re) (tb:=tb) (en2:=en2) (re2:=re2) (tb2:=tb2) hb ha;cases q:(decide (bs.length=re.length)&&decide (as.length=en.length)&&(bs.all (bv re2.length)&&as.all (bv en2.length)))with
 | false =>
  rw[q]at hf;exact⟨false,iB hf,Br hb ha q⟩
 | true =>
  rw[q]at hf;simp only[ϝ,decide_eq_true_iff]at q;obtain⟨⟨q1,q2⟩,q3,q4⟩:=q;obtain⟨b,eb,lb,nb⟩:=D0 q3;obtain⟨a,ea,la,na⟩:=D0 q4;rw[eb,ea]at hf ⊢;exact⟨_,iC h h2 (lb.trans q1) (la.trans q2) nb na hf,pe h h2 (lb.trans q1) (la.trans q2) nb na⟩
end
structure Snd (en:List (Nat×Nat)) (re:List Nat) (tb:List (List Int)) (en2:List (Nat×Nat)) (re2:List Nat) (tb2:List (List Int)) (b a:List Nat):Prop where
 lb:b.length=re.length
 la:a.length=en.length
 nb:∀x∈b,x<re2.length
 na:∀x∈a,x<en2.length
 oe:∀i,i<en.length->en2.getD (a.getD i 0) (0,0)=(b.getD (en.getD i (0,0)).1 0,b.getD (en.getD i (0,0)).2 0)
 or_:∀i,i<re.length->a.getD (re.getD i 0) 0=re2.getD (b.getD i 0) 0
 ot:∀i j k:Nat,i<en.length->j<en.length->(tb.getD i []).getD j (-1)=(k:Int)->(tb2.getD (a.getD i 0) []).getD (a.getD j 0) (-1)=((a.getD k 0:Nat):Int)
theorem bJ (h:i<n):(List.range n).getD i 0=i:=by
 rw[ai (by simpa using h)];simp
theorem bL {l:List Y} (h:i<l.length):(l.map λ_=>n).getD i 0=n:=by
 rw[ai (by simpa using h)];simp
section
variable {en:List (Nat×Nat)} {re:List Nat} {tb:List (List Int)}
theorem CT (h:HallN en re tb):Snd en re tb en re tb (List.range re.length) (List.range en.length):=by
 refine⟨by simp,by simp,λx hx=>ό.mp hx,λx hx=>ό.mp hx,λi hi=>?_,λi hi=>?_,λi j k hi hj e=>?_⟩
 ·have:=h.eb i hi;rw[bJ hi,bJ this.1,bJ this.2]
 ·rw[bJ (h.rs i hi).1,bJ hi]
 ·have:=(eS h hi hj e).2.1;rw[bJ hi,bJ hj,bJ this,e]
theorem CU (h:HallN en re tb) {bx:Nat} (hb:bx<re.length):Snd en re tb en re tb (re.map λ_=>bx) (en.map λ_=>re.getD bx 0):=by
 obtain⟨q1,q2⟩:=h.rs bx hb;refine⟨by simp,by simp,λx hx=>?_,λx hx=>?_,λi hi=>?_,λi hi=>?_,λi j k hi hj e=>?_⟩
 ·obtain⟨_,_,rfl⟩:=ϱ.mp hx;exact hb
 ·obtain⟨_,_,rfl⟩:=ϱ.mp hx;exact q1
 ·have:=h.eb i hi;rw[bL hi,bL this.1,bL this.2,q2]
 ·rw[bL (h.rs i hi).1,bL hi]
 ·have:=(eS h hi hj e).2.1;have u:=h.ul _ q1;rw[q2]at u;rw[bL hi,bL hj,bL this];exact u
theorem CS (h:HallN en re tb):Snd en re tb (en++[(re.length,re.length)]) (re++[en.length]) (tbM tb en.length) (List.range re.length) (List.range en.length):=by
 refine⟨by simp,by simp,λx hx=>by have:=ό.mp hx;rw[Ϝ];simp;omega,λx hx=>by have:=ό.mp hx;rw[Ϝ];simp;omega,λi hi=>?_,λi hi=>?_,λi j k hi hj e=>?_⟩
 ·have:=h.eb i hi;rw[bJ hi,bJ this.1,bJ this.2,lU hi]
 ·rw[bJ (h.rs i hi).1,bJ hi,lU hi]
 ·have:=(eS h hi hj e).2.1;rw[bJ hi,bJ hj,bJ this,iV h hi hj,e]
theorem zP (h:HallN en re tb):Snd en re tb (en++[(re.length,re.length)]) (re++[en.length]) (tbM tb en.length) (re.map λ_=>re.length) (en.map λ_=>en.length):=by
 refine⟨by simp,by simp,λx hx=>?_,λx hx=>?_,λi hi=>?_,λi hi=>?_,λi j k hi hj e=>?_⟩
 ·obtain⟨_,_,rfl⟩:=ϱ.mp hx;simp
 ·obtain⟨_,_,rfl⟩:=ϱ.mp hx;simp
 ·have:=h.eb i hi;rw[bL hi,bL this.1,bL this.2,lV rfl]
 ·rw[bL (h.rs i hi).1,bL hi,lV rfl]
 ·have:=(eS h hi hj e).2.1;rw[bL hi,bL hj,bL this,vC h]
end
theorem v9 {A B:Rho->R Out} (h:A U=.val (.rt d)):fin (sq A B U)=.val d:=by rw[ar,h];rfl
theorem oB {e:Rho->R D} (h:e U=.val x):ret e U=.val (.rt x):=by rw[bM,h];rfl
theorem eT3 {b:D} (ha:A U=.val a) (hb:B U=.val b) (hc:C U=.val c):eT (aC A (aC B (aC C aN))) U=.val (.tup [a,b,c]):=by
 rw[jh,aZ,ha,aa,aZ,hb,aa,aZ,hc];rfl
theorem gT {F:Rho->R (List D)} (h:F U=.val xs):eLs F U=.val (.lst xs):=by rw[aP,h];rfl
section
variable {en en2:List (Nat×Nat)} {re re2:List Nat} {tb tb2:List (List Int)}
theorem pb (h:xs.length+ys.length<=100000):bA (.lst xs) (.lst ys)=.val (.lst (xs++ys)):=by
 unfold bA;dsimp only;exact if_pos h
theorem BT {e:Rho->R D} (h:U[i]?=some (some (.own xs))) (he:e U=.val d) (hl:xs.length<100000):app i e U=.val (.nx (U.set i (some (.own (xs++[d]))))):=by
 unfold app;rw[h];dsimp only;rw[he,aa];exact if_pos hl
theorem qU {x y:List Int} (h:x.length+y.length<=100000):bA (ae x) (ae y)=.val (ae (x++y)):=by
 unfold ae;rw[pb (by rw[ϋ,ϋ];exact h),Ϭ]
theorem tL {f:D->D->R D} {a b:Rho->R D} (ha:a U=.val x) (hb:b U=.val y):bin f a b U=f x y:=by rw[aF,ha,aa,hb,aa]
theorem AE (U:Rho):eL (aC (una cS (kd (.int 1))) aN) U=.val (ae [-1]):=by simp;rfl
theorem DV {e:Rho->R D} (h:e U=.val (.int z)):eL (aC e aN) U=.val (ae [z]):=by simp[h];rfl
theorem Cv {b:Bool} (h:F U=.val (.bl b)):tst F U=.val b:=by rw[bn,h];rfl
theorem jR {k:Int} (h:vb i U=.val (.int z)):tst (bin feq (vb i) (kd (.int k))) U=.val (decide (z=k)):=Cv ((tL h rfl).trans (l8 _ _))
theorem oY {e:Rho->R D} (h:e U=.val (nD n)) (hn:n<=100000):jS (aC e aN) U=.val ((List.range n).map nD):=by
 rw[Bg,aZ,h,aa,iJ,aa,aa];exact lN hn
theorem Bj (h:HallN en re tb) (h5:re.length<=5) (h39:en.length<=39) (ns:List Int) (k4 k5:D):∃(en2:List (Nat×Nat)) (re2:List Nat) (tb2:List (List Int)) (r2:List D) (b a:List Nat),HallN en2 re2 tb2/\Snd en re tb en2 re2 tb2 b a /\
  eU [.scr ns,.int 4,.tup [aw en,ac re,af tb,k4,k5]]=.val (.tup [.tup (aw en2::ac re2::af tb2::r2),ac b,ac a]):=by
 obtain⟨c,hc⟩:=fV ns 4;obtain⟨c1,hc1⟩:=fV ns 5;have hc:ag [.scr ns,.int 4]=.val (.int c):=hc;have hc1:ag [.scr ns,.int 5]=.val (.int c1):=hc1;have n1:=h.nb1;have ht:=h.tl;generalize hP:D.tup [aw en,ac re,af tb,k4,k5]=P;have p0:fix P (.int 0)=.val (aw en):=by rw[<- hP];simp
 have p1:fix P (.int 1)=.val (ac re):=by rw[<- hP];simp
 have p2:fix P (.int 2)=.val (af tb):=by rw[<- hP];simp
 have m4:aA c 4=.val (.int (c%4)):=cx (by decide);have mr:aA c1 (re.length:Int)=.val (.int (c1%(re.length:Int))):=cx (by omega);have q0:0<=c1%(re.length:Int):=ω _ (by omega);have q1:c1%(re.length:Int)<re.length:=ο _ (by omega);obtain⟨bx,hbx⟩:=Int.eq_ofNat_of_zero_le q0;rw[hbx]at mr q1;have hb:bx<re.length:=by omega
 simp only[eU,jk];show ∃(en2:List (Nat×Nat)) (re2:List Nat) (tb2:List (List Int)) (r2:List D) (b a:List Nat),HallN en2 re2 tb2/\Snd en re tb en2 re2 tb2 b a/\fin (sq _ _ [sh (.scr ns),sh (.int 4),sh P,none,none,none,none,none,none])=_;have s1:asg 3 (una aj (bin fix (vb 2) (kd (.int 1)))) [sh (.scr ns),sh (.int 4),sh P,none,none,none,none,none,none]=.val (.nx [sh (.scr ns),sh (.int 4),sh P,sh (nD re.length),none,none,none,none,none]):=by simp[p1]
 have s2:asg 4 (una aj (bin fix (vb 2) (kd (.int 0)))) [sh (.scr ns),sh (.int 4),sh P,sh (nD re.length),none,none,none,none,none]=.val (.nx [sh (.scr ns),sh (.int 4),sh P,sh (nD re.length),sh (nD en.length),none,none,none,none]):=by simp[p0]
 have s3:asg 5 (bin (iI aA) (cal 2 ag (aC (vr 0) (aC (vr 1) aN))) (kd (.int 4))) [sh (.scr ns),sh (.int 4),sh P,sh (nD re.length),sh (nD en.length),none,none,none,none]=.val (.nx [sh (.scr ns),sh (.int 4),sh P,sh (nD re.length),sh (nD en.length),sh (.int (c%4)),none,none,none]):=by simp[hc,m4]
 rw[dL s1,dL s2,dL s3];by_cases w0:c%4=0
 ·refine⟨en,re,tb,[k4,k5],List.range re.length,List.range en.length,h,CT h,?_⟩;rw[hP];exact v9 (e8 ((jR (z:=c%4) (k:=0) rfl).trans (by rw[w0];rfl)) (oB (eT3 rfl (gT (oY rfl (by omega))) (gT (oY rfl (by omega))))))
 rw[dL (bo ((jR (z:=c%4) (k:=0) rfl).trans (by rw[decide_eq_false w0])))];have s4:asg 6 (bin (iI aA) (cal 2 ag (aC (vr 0) (aC (bin bA (vb 1) (kd (.int 1))) aN))) (vb 3)) [sh (.scr ns),sh (.int 4),sh P,sh (nD re.length),sh (nD en.length),sh (.int (c%4)),none,none,none]=.val (.nx [sh (.scr ns),sh (.int 4),sh P,sh (nD re.length),sh (nD en.length),sh (.int (c%4)),sh (nD bx),none,none]):=by
  simp[hc1,mr]
 rw[dL s4];by_cases w1:c%4=1
 ·refine⟨en,re,tb,[k4,k5],(re.map λ_=>bx),(en.map λ_=>re.getD bx 0),h,CU h hb,?_⟩;have c1:av (fIt (bin fix (vb 2) (kd (.int 1)))) 1 (tgN 9) tT (vr 6) [sh (.scr ns),sh (.int 4),sh P,sh (nD re.length),sh (nD en.length),sh (.int (c%4)),sh (nD bx),none,none]=.val (re.map λ_=>nD bx):=aS (f:=nD) (by simp[p1];rfl) (by omega) λa _=>rfl;have c2:av (fIt (bin fix (vb 2) (kd (.int 0)))) 1 (tgN 9) tT (bin fix (bin fix (vb 2) (kd (.int 1))) (vb 6)) [sh (.scr ns),sh (.int 4),sh P,sh (nD re.length),sh (nD en.length),sh (.int (c%4)),sh (nD bx),none,none]=.val (en.map λ_=>nD (re.getD bx 0)):=aS (f:=bp) (by simp[p0];rfl) (by omega) λa _=>by
   have:=aY hb;simp[-List.getD_eq_getElem?_getD,p1,this]
  rw[hP];have x1:D.lst (re.map λ_=>nD bx)=ac (re.map λ_=>bx):=by unfold ac;rw[ϩ];rfl
  have x2:D.lst (en.map λ_=>nD (re.getD bx 0))=ac (en.map λ_=>re.getD bx 0):=by unfold ac;rw[ϩ];rfl
  rw[<- x1,<- x2];exact v9 (e8 ((jR (z:=c%4) (k:=1) rfl).trans (by rw[w1];rfl)) (oB (eT3 rfl (gT c1) (gT c2))))
 rw[dL (bo ((jR (z:=c%4) (k:=1) rfl).trans (by rw[decide_eq_false w1])))];have c3:av (fIt (bin fix (vb 2) (kd (.int 2)))) 1 (tgN 9) tT (bin bA (vb 9) (eL (aC (una cS (kd (.int 1))) aN))) [sh (.scr ns),sh (.int 4),sh P,sh (nD re.length),sh (nD en.length),sh (.int (c%4)),sh (nD bx),none,none]=.val (tb.map λr=>ae (r++[-1])):=aS (f:=ae) (by simp[p2];rfl) (by omega) λa ha=>by
  obtain⟨i,hi,rfl⟩:=ϲ.mp ha;have:=h.rl i (by omega);rw[ai hi]at this;exact(tL (x:=ae tb[i]) rfl (AE _)).trans (qU (by rw[this];show en.length+1<=100000;omega))
 have c4:av (aK (aC (vr 4) aN)) 1 (tgN 9) tT (una cS (kd (.int 1))) [sh (.scr ns),sh (.int 4),sh P,sh (nD re.length),sh (nD en.length),sh (.int (c%4)),sh (nD bx),some (.own (tb.map λr=>ae (r++[-1]))),none]=.val ((List.range en.length).map λ_=>.int (-1)):=jd (by simp[cN (n:=en.length) (by omega)]) (by omega) λk _=>rfl;have s5:own 7 (av (fIt (bin fix (vb 2) (kd (.int 2)))) 1 (tgN 9) tT (bin bA (vb 9) (eL (aC (una cS (kd (.int 1))) aN)))) [sh (.scr ns),sh (.int 4),sh P,sh (nD re.length),sh (nD en.length),sh (.int (c%4)),sh (nD bx),none,none]=.val (.nx [sh (.scr ns),sh (.int 4),sh P,sh (nD re.length),sh (nD en.length),sh (.int (c%4)),sh (nD bx),some (.own (tb.map λr=>ae (r++[-1]))),none]):=by rw[xO,c3,aa];rfl
 have s6:app 7 (bin bA (eLs (av (aK (aC (vr 4) aN)) 1 (tgN 9) tT (una cS (kd (.int 1))))) (eL (aC (vr 4) aN))) [sh (.scr ns),sh (.int 4),sh P,sh (nD re.length),sh (nD en.length),sh (.int (c%4)),sh (nD bx),some (.own (tb.map λr=>ae (r++[-1]))),none]=.val (.nx [sh (.scr ns),sh (.int 4),sh P,sh (nD re.length),sh (nD en.length),sh (.int (c%4)),sh (nD bx),some (.own ((tbM tb en.length).map ae)),none]):=by
  have hv:bin bA (eLs (av (aK (aC (vr 4) aN)) 1 (tgN 9) tT (una cS (kd (.int 1))))) (eL (aC (vr 4) aN)) [sh (.scr ns),sh (.int 4),sh P,sh (nD re.length),sh (nD en.length),sh (.int (c%4)),sh (nD bx),some (.own (tb.map λr=>ae (r++[-1]))),none]=.val (ae (List.replicate en.length (-1)++[(en.length:Int)])):=by
   have hx:D.lst ((List.range en.length).map λ_=>D.int (-1))=ae (List.replicate en.length (-1)):=by unfold ae;rw[List.map_const',ϸ,List.map_replicate]
   have hy:eLs (av (aK (aC (vr 4) aN)) 1 (tgN 9) tT (una cS (kd (.int 1)))) [sh (.scr ns),sh (.int 4),sh P,sh (nD re.length),sh (nD en.length),sh (.int (c%4)),sh (nD bx),some (.own (tb.map λr=>ae (r++[-1]))),none]=.val (ae (List.replicate en.length (-1))):=by rw[aP,c4,aa,hx]
   exact(tL hy (DV (z:=(en.length:Int)) rfl)).trans (qU (by rw[ϻ];show en.length+1<=100000;omega))
  have:(tb.map λr=>ae (r++[-1]))++[ae (List.replicate en.length (-1)++[(en.length:Int)])]=(tbM tb en.length).map ae:=by
   unfold tbM;rw[Ϭ,ϩ];rfl
  rw[BT rfl hv (by rw[ϋ];omega),this];rfl
 have s7:asg 8 (eT (aC (bin bA (bin fix (vb 2) (kd (.int 0))) (eL (aC (eT (aC (vr 3) (aC (vr 3) aN))) aN))) (aC (bin bA (bin fix (vb 2) (kd (.int 1))) (eL (aC (vr 4) aN))) (aC (vr 7) aN)))) [sh (.scr ns),sh (.int 4),sh P,sh (nD re.length),sh (nD en.length),sh (.int (c%4)),sh (nD bx),sh (af (tbM tb en.length)),none]=.val (.nx [sh (.scr ns),sh (.int 4),sh P,sh (nD re.length),sh (nD en.length),sh (.int (c%4)),sh (nD bx),sh (af (tbM tb en.length)),sh (.tup [aw (en++[(re.length,re.length)]),ac (re++[en.length]),af (tbM tb en.length)])]):=by
  have a1:bA (aw en) (.lst [.tup [nD re.length,nD re.length]])=.val (aw (en++[(re.length,re.length)])):=by
   unfold aw;rw[pb (by rw[ϋ];simp;omega),Ϭ];rfl
  have a2:bA (ac re) (.lst [nD en.length])=.val (ac (re++[en.length])):=by
   unfold ac;rw[pb (by rw[ϋ];simp;omega),Ϭ];rfl
  simp[p0,p1,a1,a2]
 have hm:=v8 h h5 h39;rw[dL s5,dL s6];show ∃(en2:List (Nat×Nat)) (re2:List Nat) (tb2:List (List Int)) (r2:List D) (b a:List Nat),HallN en2 re2 tb2/\Snd en re tb en2 re2 tb2 b a/\fin (sq _ _ [sh (.scr ns),sh (.int 4),sh P,sh (nD re.length),sh (nD en.length),sh (.int (c%4)),sh (nD bx),sh (af (tbM tb en.length)),none])=_;rw[dL s7];by_cases w2:c%4=2
 ·refine⟨_,_,_,[],_,_,hm,CS h,?_⟩;exact v9 (e8 ((jR (z:=c%4) (k:=2) rfl).trans (by rw[w2];rfl)) (oB (eT3 rfl (gT (oY rfl (by omega))) (gT (oY rfl (by omega))))))
 ·refine⟨_,_,_,[],_,_,hm,zP h,?_⟩;have c5:av (fIt (bin fix (vb 2) (kd (.int 1)))) 1 (tgN 9) tT (vr 3) [sh (.scr ns),sh (.int 4),sh P,sh (nD re.length),sh (nD en.length),sh (.int (c%4)),sh (nD bx),sh (af (tbM tb en.length)),sh (.tup [aw (en++[(re.length,re.length)]),ac (re++[en.length]),af (tbM tb en.length)])]=.val (re.map λ_=>nD re.length):=aS (f:=nD) (by simp[p1];rfl) (by omega) λa _=>rfl;have c6:av (fIt (bin fix (vb 2) (kd (.int 0)))) 1 (tgN 9) tT (vr 4) [sh (.scr ns),sh (.int 4),sh P,sh (nD re.length),sh (nD en.length),sh (.int (c%4)),sh (nD bx),sh (af (tbM tb en.length)),sh (.tup [aw (en++[(re.length,re.length)]),ac (re++[en.length]),af (tbM tb en.length)])]=.val (en.map λ_=>nD en.length):=aS (f:=bp) (by simp[p0];rfl) (by omega) λa _=>rfl;have x1:D.lst (re.map λ_=>nD re.length)=ac (re.map λ_=>re.length):=by unfold ac;rw[ϩ];rfl
  have x2:D.lst (en.map λ_=>nD en.length)=ac (en.map λ_=>en.length):=by unfold ac;rw[ϩ];rfl
  rw[dL (bo ((jR (z:=c%4) (k:=2) rfl).trans (by rw[decide_eq_false w2]))),oB (eT3 rfl (gT c5) (gT c6)),x1,x2];rfl
end
def pc (b:List Nat) (cs:List Int):List Int:=b.map λx=>cs.getD x (-1)
def pm (a:List Nat) (ms:List (List Int)):List (List Int):=a.map λx=>ms.getD x []
section
variable {en en2:List (Nat×Nat)} {re re2:List Nat} {tb tb2:List (List Int)} {b a:List Nat} {cs ds:List Int} {ms ns:List (List Int)} {L:Nat}
theorem j7 (h:i<b.length):(pc b cs).getD i (-1)=cs.getD (b.getD i 0) (-1):=i6 (d:=0) h
theorem j6 (h:i<a.length):(pm a ms).getD i []=ms.getD (a.getD i 0) []:=lM (d:=0) h
theorem iZ {l:List Nat} (h:∀x∈l,x<n) (hi:i<l.length):l.getD i 0<n:=by rw[ai hi];exact h _ (Ϙ hi)
theorem xo (h:HallN en re tb) (s:Snd en re tb en2 re2 tb2 b a) (r:IsR L en2 re2 tb2 cs ms):IsR L en re tb (pc b cs) (pm a ms):=by
 have lb:=s.lb;have la:=s.la;refine⟨by unfold pc;rw[ϋ,lb],by unfold pm;rw[ϋ,la],λi hi=>?_,λi hi=>?_,λi hi x hx=>?_,λi hi=>?_,λi j k hi hj e=>?_⟩
 ·rw[j7 (by omega)];exact r.cb _ (iZ s.nb (by omega))
 ·have eb:=h.eb i hi;have:=r.ml _ (iZ s.na (i:=i) (by omega));rw[s.oe i hi]at this;rw[j6 (by omega),j7 (by omega)];exact this
 ·have eb:=h.eb i hi;rw[j6 (by omega)]at hx;have:=r.mb _ (iZ s.na (i:=i) (by omega)) x hx;rw[s.oe i hi]at this;rw[j7 (by omega)];exact this
 ·obtain⟨q1,_⟩:=h.rs i hi;rw[j6 (by omega),j7 (by omega),s.or_ i hi];exact r.idn _ (iZ s.nb (by omega))
 ·have hk:=(eS h hi hj e).2.1;rw[j6 (by omega),j6 (by omega),j6 (by omega)];exact r.cmp _ _ _ (iZ s.na (by omega)) (iZ s.na (by omega)) (s.ot i j k hi hj e)
theorem xp (h:HallN en re tb) (s:Snd en re tb en2 re2 tb2 b a) (c:IsC en2 re2 cs ds ms ns G):IsC en re (pc b cs) (pc b ds) (pm a ms) (pm a ns) (b.map λx=>G.getD x []):=by
 have lb:=s.lb;have la:=s.la;have g:∀i,i<re.length->(b.map λx=>G.getD x []).getD i []=G.getD (b.getD i 0) []:=λi hi=>lM (d:=0) (by omega);refine⟨⟨by rw[ϋ,lb],λi hi=>?_⟩,λi t hi ht=>?_,λi t hi ht=>?_⟩
 ·rw[g i hi,j7 (by omega)];exact c.1.2 _ (iZ s.nb (by omega))
 ·rw[j7 (by omega)]at ht;unfold gI;rw[g i hi,j7 (by omega)];exact c.2.1 _ t (iZ s.nb (by omega)) ht
 ·have eb:=h.eb i hi;have oe:=s.oe i hi;rw[j7 (by omega)]at ht;have:=c.2.2 (a.getD i 0) t (iZ s.na (by omega)) (by rw[oe];exact ht);rw[oe]at this;unfold gI aT aG at this ⊢;rw[g _ eb.1,g _ eb.2,j6 (by omega),j6 (by omega)];exact this
theorem kO (m:List Nat):ac m=ae (m.map Int.ofNat):=by unfold ac ae;rw[ϩ];rfl
theorem nL (h:HallN en re tb) (h2:HallN en2 re2 tb2) (s:Snd en re tb en2 re2 tb2 b a):aL [hlD en re tb,hlD en2 re2 tb2,ac b,ac a]=.val (.bl true):=by
 have n6:=h.nb6;have n40:=h.na40;have lb:=s.lb;have la:=s.la;have allb:∀(m:List Nat) (n:Nat),(∀x∈m,x<n)->(m.map Int.ofNat).all (bv n)=true:=λm n hm=>by
  rw[ύ];intro z hz;obtain⟨x,hx,rfl⟩:=ϱ.mp hz;have:=hm x hx;unfold bv;simp only[Int.ofNat_eq_natCast,ϝ,decide_eq_true_iff];omega
 have hf:=b4 (en:=en) (re:=re) (tb:=tb) (en2:=en2) (re2:=re2) (tb2:=tb2) (bs:=b.map Int.ofNat) (as:=a.map Int.ofNat) (by rw[ϋ];omega) (by rw[ϋ];omega);rw[allb b _ s.nb,allb a _ s.na,ϋ,ϋ,decide_eq_true lb,decide_eq_true la,<- kO,<- kO]at hf;rw[iC h h2 lb la s.nb s.na hf];have e1:(List.range en.length).all (okE en en2 b a)=true:=ύ.mpr λi hi=>decide_eq_true (s.oe i (ό.mp hi));have e2:(List.range re.length).all (lE re re2 b a)=true:=ύ.mpr λi hi=>decide_eq_true (s.or_ i (ό.mp hi));have e3:((List.range en.length).all λi=>(List.range en.length).all (kz tb tb2 a i))=true:=ύ.mpr λi hi=>ύ.mpr λj hj=>by
  have hi:=ό.mp hi;have hj:=ό.mp hj;unfold kz;rcases fX h hi hj with e|⟨k,hk,e,_⟩
  ·rw[decide_eq_true e];rfl
  ·rw[e,Α,decide_eq_true (s.ot i j k hi hj e),Bool.or_true]
 rw[e1,e2,e3];rfl
theorem yR (h:HallN en re tb) (s:Snd en re tb en2 re2 tb2 b a) (r:IsR L en2 re2 tb2 cs ms):d_ [ac b,ac a,rdD cs ms]=.val (rdD (pc b cs) (pm a ms)):=by
 have n6:=h.nb6;have n40:=h.na40;have lb:=s.lb;have la:=s.la;simp only[d_,km];show fin (ret (eT _) [sh (ac b),sh (ac a),sh (rdD cs ms)])=_;have c1:eLs (av (fIt (vr 0)) 1 (tgN 3) tT (bin fix (bin fix (vb 2) (kd (.int 0))) (vb 3))) [sh (ac b),sh (ac a),sh (rdD cs ms)]=.val (ae (pc b cs)):=gM (f:=nD) (g:=λx=>cs.getD x (-1)) (l:=b) rfl (by omega) λx hx=>aM (by rw[r.lc];exact s.nb x hx);have c2:eLs (av (fIt (vr 1)) 1 (tgN 3) tT (eLs (fIt (bin fix (bin fix (vb 2) (kd (.int 1))) (vb 3))))) [sh (ac b),sh (ac a),sh (rdD cs ms)]=.val (af (pm a ms)):=by
  rw[aP,aS (f:=nD) (g:=λx=>ae (ms.getD x [])) (l:=a) rfl (by omega) λx hx=>by
   have v:bin fix (bin fix (vb 2) (kd (.int 1))) (vb 3) [sh (ac b),sh (ac a),sh (rdD cs ms),sh (nD x)]=.val (ae (ms.getD x [])):=aJ (by rw[r.lm];exact s.na x hx);show eLs (fIt (bin fix (bin fix (vb 2) (kd (.int 1))) (vb 3))) [sh (ac b),sh (ac a),sh (rdD cs ms),sh (nD x)]=_;rw[aP,l9,v];rfl,aa,kM];rfl
 rw[bM,jh,aZ,c1,aa,aZ,c2];rfl
theorem CQ {A:Rho->R Out} (h:A U=.val (.nx ρ')):sqK A B U=B ρ':=by
 unfold sqK;rw[h]
theorem kgo {A:Rho->R Out} {x:R D} (h:A U=.val (.nx ρ')) (k:B ρ'=x):sqK A B U=x:=by rw[CQ h];exact k
theorem rY {k:OK} {e:Rho->R D} (h:e U=.val x):trS i k e U=.val (.nx (U.set i (some (.tre k x)))):=by
 unfold trS;rw[h];rfl
theorem iL (h:F U=.val (.bl true)):bz (tst F) U=.val false:=by rw[dA,bn,h];rfl
theorem tu (h:HallN en re tb) (h2:HallN en2 re2 tb2) (s:Snd en re tb en2 re2 tb2 b a) (r:IsR 40 en2 re2 tb2 cs ms):bU [hlD en re tb,hlD en2 re2 tb2,ac b,ac a,rdD cs ms]=.val (rdD (pc b cs) (pm a ms)):=by
 have n6:=h.nb6;have n40:=h.na40;have lb:=s.lb;have la:=s.la;simp only[bU,fG];show sqK _ _ [sh (hlD en re tb),sh (hlD en2 re2 tb2),sh (ac b),sh (ac a),sh (rdD cs ms),none,none]=_;refine kgo (bo (iL (rB rfl rfl rfl rfl (nL h h2 s)))) (kgo (tG (iS rfl rfl (dh h2 r))) (kgo (rY (x:=ae (pc b cs)) ?_) (kgo (rY (x:=af (pm a ms)) ?_) rfl)))
 ·exact gM (f:=nD) (g:=λx=>cs.getD x (-1)) (l:=b) rfl (by omega) λx hx=>aM (by rw[r.lc];exact s.nb x hx)
 ·rw[aP,aS (f:=nD) (g:=λx=>ae (ms.getD x [])) (l:=a) rfl (by omega) λx hx=>by
   have v:bin fix (bin fix (vb 4) (kd (.int 1))) (vb 7) [sh (hlD en re tb),sh (hlD en2 re2 tb2),sh (ac b),sh (ac a),sh (rdD cs ms),some (.tre (.l .s) (ae (pc b cs))),none,sh (nD x)]=.val (ae (ms.getD x [])):=aJ (by rw[r.lm];exact s.na x hx);show eLs (fIt (bin fix (bin fix (vb 4) (kd (.int 1))) (vb 7))) [sh (hlD en re tb),sh (hlD en2 re2 tb2),sh (ac b),sh (ac a),sh (rdD cs ms),some (.tre (.l .s) (ae (pc b cs))),none,sh (nD x)]=_;rw[aP,l9,v];rfl,aa,kM];rfl
end
theorem zC {S:List Nat} {ie c:Nat} {F G:Rho->R Out} (h:F U=.exc c) (hc:c∈S) (k:G (U.set ie (sh (.exn c)))=.val (.nx ρ')):vA S ie F G U=.val (.nx (ρ'.set ie none)):=by
 unfold vA;rw[h];dsimp only;rw[if_pos hc,k]
theorem yN {c:Nat} (h:c∈[4,6]):fZ [.exn c]=.val (nD c):=by
 have h:c=4\/c=6:=by simpa using h
 rcases h with rfl|rfl
 ·exact ϕ rfl rfl
 ·exact ϕ rfl rfl
theorem GQ {b e f:D} {x:R D} (ha:A U=.val a) (hb:B U=.val b) (hc:C U=.val c) (he:E U=.val e) (hf:F U=.val f) (h:den [a,b,c,e,f]=x):pG 5 den (aC A (aC B (aC C (aC E (aC F aN))))) U=x:=by
 unfold pG;rw[aZ,ha,aa,aZ,hb,aa,aZ,hc,aa,aZ,he,aa,aZ,hf];exact h
section
variable {en:List (Nat×Nat)} {re:List Nat} {tb:List (List Int)} {cs:List Int} {ms:List (List Int)}
theorem FO (h:HallN en re tb) (b:Bd cs ms) (q:isR en re tb cs ms=false):aO [hlD en re tb,rdD cs ms]=.exc 4:=by
 simp only[aO,cZ];show fin (DL.iff _ _ _ [sh (hlD en re tb),sh (rdD cs ms)])=_;have e:=e_ h b;rw[q]at e;have e2:cal 3 bq (aC (vr 0) (aC (bin fix (vb 1) (kd (.int 0))) (aC (bin fix (vb 1) (kd (.int 1))) aN))) [sh (hlD en re tb),sh (rdD cs ms)]=.val (.bl false):=pH (a:=hlD en re tb) (b:=ae cs) (c:=af ms) rfl rfl rfl e;rw[e8 (x:=.exc 4) (by rw[gB,dA,bn _ (cal 3 _ _),e2];rfl) rfl];rfl
end
theorem oW {H1 H2 z:D} {c:Nat} (hc:c∈[4,6]) (h:aV [H1,H2,x,y,z]=.exc c):dl [.lst [H1,H2],x,y,z]=.val (nD c):=by
 simp only[dl,kl];show fin (sq _ _ [sh (.lst [H1,H2]),sh x,sh y,sh z,none,none])=_;exact fgo (bR (x:=.int (-1)) rfl) (fgo (zC (vf (GQ rfl rfl rfl rfl rfl h)) hc (bR (zn rfl (yN hc)))) rfl)
theorem wK {H1 H2 z:D} (h:aL [H1,H2,x,y]=.val (.bl false)):aV [H1,H2,x,y,z]=.exc 6:=by
 simp only[aV,cD];show fin (sq _ _ [sh H1,sh H2,sh x,sh y,sh z])=_;exact fex (e8 (by rw[dA,bn,rB rfl rfl rfl rfl h];rfl) rfl)
theorem zD {H1:D} {re:List Nat} (hs:aL [H1,hlD en re tb,x,y]=.val (.bl true)) (h:HallN en re tb) (b:Bd cs ms) (q:isR en re tb cs ms=false):aV [H1,hlD en re tb,x,y,rdD cs ms]=.exc 4:=by
 simp only[aV,cD];show fin (sq _ _ [sh H1,sh (hlD en re tb),sh x,sh y,sh (rdD cs ms)])=_;exact fgo (bo (iL (rB rfl rfl rfl rfl hs))) (fex (vf (GR rfl rfl (FO h b q))))
def cf (ns:List Int) (k:Nat):Int:=(fV ns k).choose
theorem ku {ns:List Int} (ha:A U=.val (.scr ns)) (hb:B U=.val (.int z)) (hz:z=(k:Int)):cal 2 ag (aC A (aC B aN)) U=.val (.int (cf ns k)):=iS ha hb (by rw[hz];exact(fV ns k).choose_spec)
theorem AK (c:Int) {m:Nat} (h:0<m):(c%(m:Int)).toNat<m/\aA c (m:Int)=.val (nD (c%(m:Int)).toNat):=by
 obtain⟨i,hi,e⟩:=gS c m h;rw[cx (by omega),e];exact⟨by simpa using hi,by simp⟩
theorem dX {G:Rho->R D} {c:Int} {m:Nat} (hf:F U=.val (.int c)) (hg:G U=.val (nD m)) (h:0<m):∃k,k<m/\bin (iI aA) F G U=.val (nD k):=by
 obtain⟨a,b⟩:=AK c h;exact⟨_,a,by rw[aF,hf,aa,hg,aa,gG,b]⟩
theorem zb {c k:Int} (hf:F U=.val (.int c)) (hk:0<k/\k<1073741824):∃z,bin (iI bT) F (kd (.int k)) U=.val (.int z):=⟨_,by rw[aF,hf,aa,c_,aa,gG,o9 hk]⟩
section
variable {U:Rho} {i a k:Nat} {ms ms':List (List Int)} {l:List Int} {v:Int} {B b e:Rho->R D} {f:List D->R (List D)}
abbrev tM (ms:List (List Int)):Option Slt:=some (.tre (.l (.l .s)) (af ms))
theorem up1 (h:U[i]?=some (tM ms)) (ha:a<ms.length) (hf:f ((ms.getD a []).map D.int)=.val (l.map D.int)):lq i .s [a] f U=.val (U.set i (tM (ms.set a l))):=by
 have sub:gv (af ms) [a]=some (ae (ms.getD a [])):=by
  unfold af;simp only[gv];rw[bZ (d:=[]) ha]
 have put:∀x,io (af ms) [a] x=.lst ((ms.map ae).set a x):=λx=>by
  unfold af;simp only[io];rw[bZ (d:=[]) ha]
 unfold lq;rw[h];show(if eE (.l (.l .s)) [a]=some (.l .s)then _ else _)=_;rw[if_pos (show eE (.l (.l .s)) [a]=some (.l .s)from rfl),sub];show R.bind (f ((ms.getD a []).map D.int)) _=_;rw[hf,aa,put];have:D.lst ((ms.map ae).set a (.lst (l.map D.int)))=af (ms.set a l):=congrArg D.lst (List.map_set (f:=ae)).symm;rw[this]
theorem pn0 (h:U[i]?=some (tM ms)):pN0 i U=.val []:=by unfold pN0;rw[h]
theorem pn1 (h:U[i]?=some (tM ms)) (ha:a<ms.length) (hb:B U=.val (nD a)):pN i (pN0 i) B U=.val [a]:=by
 unfold pN;rw[pn0 h,aa,hb,aa,h];show pIx (.l (.l .s)) (af ms) [] (a:Int)=_;unfold pIx af;simp only[eE,gv];rw[ϋ,lS ha];rfl
theorem wR {g:Y->D} {xs:List Y} {x:Y} (h:k<xs.length):stF (nD k) (g x) (xs.map g)=.val ((xs.set k x).map g):=by
 unfold stF;dsimp only;rw[ϋ,lS h];dsimp only;rw[List.map_set]
theorem FG (h:U[i]?=some (tM ms)) (ha:a<ms.length) (hB:B U=.val (nD a)) (hk:k<(ms.getD a []).length) (hb:b U=.val (nD k)) (he:e U=.val (.int v)):asO (stP i .s (pN i (pN0 i) B) b e) U=.val (.nx (U.set i (tM (ms.set a ((ms.getD a []).set k v))))):=by
 unfold asO stP;rw[he,aa,pn1 h ha hB,aa,hb,aa,up1 h ha (wR hk)];rfl
end
section
variable {ch:List (List Int)} {a:Nat}
theorem CV (h:Bd [] ch) (hl:l.length<=1000):Bd [] (ch.set a l):=⟨Ρ _,by rw[ϰ];exact h.m,λl' h'=>by
 rcases List.mem_or_eq_of_mem_set h' with h'|rfl
 ·exact h.r _ h'
 ·exact hl⟩
end
theorem yF (ms:List (List Int)):bB (.l (.l .s)) (af ms)=true:=by
 show(ms.map ae).all (bB (.l .s))=true;rw[ύ];intro d hd;obtain⟨l,_,rfl⟩:=ϱ.mp hd;show(l.map D.int).all (bB .s)=true;rw[ύ];intro d hd;obtain⟨l,_,rfl⟩:=ϱ.mp hd;rfl
theorem zd (f:Y->D) (l:List Y):jU (l.map f) none (some (-1))=(l.take (l.length-1)).map f:=by
 have e:HT.sIx (l.map f).length (l.map f).length (some (-1))=l.length-1:=by
  unfold HT.sIx;dsimp only;rw[if_pos (by decide),ϋ];omega
 have e0:HT.sIx (l.map f).length 0 none=0:=rfl;unfold jU;rw[e,e0,List.drop_zero,Nat.sub_zero,<- List.map_take]
theorem qV {f:Y->D} {l:List Y} (h:F U=.val (.lst (l.map f))):eLs (fSl F oN (oS (una cS (kd (.int 1))))) U=.val (.lst ((l.take (l.length-1)).map f)):=by
 rw[aP];unfold fSl;rw[h];show R.bind (.val (jU (l.map f) none (some (-1)))) _=_;rw[zd];rfl
section
variable {en:List (Nat×Nat)} {re:List Nat} {tb:List (List Int)} {cs:List Int} {ms:List (List Int)} {r:List D} {ns:List Int}
abbrev paD (en:List (Nat×Nat)) (re:List Nat) (tb:List (List Int)) (r:List D):D:=.tup (aw en::ac re::af tb::r)
theorem DZ (h:cs.length≠re.length):isR en re tb cs ms=false:=by
 unfold isR r1;rw[decide_eq_false h];rfl
abbrev rOd (ns:List Int) (P:D) (cs:List Int) (ms0 ms:List (List Int)) (x5 x6 x7:Option Slt):Rho:=[sh (.scr ns),sh P,sh (rdD cs ms0),some (.tre (.l .s) (ae cs)),tM ms,x5,x6,x7]
theorem Ew (h:HallN en re tb) (g:Bd cs ms) (lc:cs.length=re.length) (hne:∃a,a<ms.length/\0<(ms.getD a []).length):∃cs' ms',Bd cs' ms'/\isR en re tb cs' ms'=false/\bu [.scr ns,paD en re tb r,rdD cs ms]=.val (rdD cs' ms'):=by
 simp only[bu,dN];show ∃cs' ms',_/\_/\fin (sq _ _ [sh (.scr ns),sh (paD en re tb r),sh (rdD cs ms),none,none,none,none,none])=_;have gm:=g.m;have n6:=h.nb6;have s1:oK 3 4 (.l .s) (.l (.l .s)) (eLs (fIt (bin fix (vb 2) (kd (.int 0))))) (cal 1 cH (aC (bin fix (vb 2) (kd (.int 1))) aN)) [sh (.scr ns),sh (paD en re tb r),sh (rdD cs ms),none,none,none,none,none]=.val (.nx (rOd ns (paD en re tb r) cs ms ms none none none)):=by
  have a:eLs (fIt (bin fix (vb 2) (kd (.int 0)))) [sh (.scr ns),sh (paD en re tb r),sh (rdD cs ms),none,none,none,none,none]=.val (ae cs):=rfl;unfold oK;rw[a,zn (a:=af ms) rfl (u3 (by omega)),aa,aa,if_pos (yF ms)];rfl
 obtain⟨n,s2⟩:∃n:Int,asg 5 (cal 2 ag (aC (vr 0) (aC (kd (.int 10)) aN))) (rOd ns (paD en re tb r) cs ms ms none none none)=.val (.nx (rOd ns (paD en re tb r) cs ms ms (sh (.int n)) none none)):=⟨_,bR (ku (k:=10) rfl rfl rfl)⟩;have s3:asg 6 (eLs (av (aK (aC (una aj (va 4)) aN)) 1 (tgN 8) (tst (bin (iI fgt) (una aj (bin fix (va 4) (vb 8))) (kd (.int 0)))) (vr 8))) (rOd ns (paD en re tb r) cs ms ms (sh (.int n)) none none)=.val (.nx (rOd ns (paD en re tb r) cs ms ms (sh (.int n)) (sh (ac ((List.range ms.length).filter λa=>decide ((0:Int)<(ms.getD a []).length)))) none)):=by
  refine bR ?_;rw[aP,cF (f:=nD) (g:=nD) (p:=λa=>decide ((0:Int)<(ms.getD a []).length)) (l:=List.range ms.length) (cM (yC ms) (by omega)) (by rw[ϸ];omega) λa ha=>⟨_,rfl,?_,rfl⟩]
  ·rfl
  ·have v:bin fix (va 4) (vb 8) (rOd ns (paD en re tb r) cs ms ms (sh (.int n)) none none++[sh (nD a)])=.val (ae (ms.getD a [])):=aJ (ό.mp ha);show tst (bin (iI fgt) (una aj (bin fix (va 4) (vb 8))) (kd (.int 0))) (rOd ns (paD en re tb r) cs ms ms (sh (.int n)) none none++[sh (nD a)])=_;rw[bn,aF,bG,v,aa,i9];rfl
 have hL:∀a∈(List.range ms.length).filter λa=>decide ((0:Int)<(ms.getD a []).length),a<ms.length/\0<(ms.getD a []).length:=λa ha=>by
  obtain⟨a1,a2⟩:=Υ.mp ha;have a2:=decide_eq_true_iff.mp a2;exact⟨ό.mp a1,by omega⟩
 have L0:0<((List.range ms.length).filter λa=>decide ((0:Int)<(ms.getD a []).length)).length:=by
  obtain⟨a,a1,a2⟩:=hne;exact Ω (Υ.mpr ⟨ό.mpr a1,decide_eq_true (by omega)⟩)
 generalize ((List.range ms.length).filter λa=>decide ((0:Int)<(ms.getD a []).length))=L at s3 hL L0;obtain⟨j,hj,ej⟩:=dX (F:=cal 2 ag (aC (vr 0) (aC (kd (.int 9)) aN))) (G:=una aj (vb 6)) (U:=rOd ns (paD en re tb r) cs ms ms (sh (.int n)) (sh (ac L)) none) (ku (k:=9) rfl rfl rfl) (qR L) L0;have s5:asg 7 (bin fix (vb 6) (bin (iI aA) (cal 2 ag (aC (vr 0) (aC (kd (.int 9)) aN))) (una aj (vb 6)))) (rOd ns (paD en re tb r) cs ms ms (sh (.int n)) (sh (ac L)) none)=.val (.nx (rOd ns (paD en re tb r) cs ms ms (sh (.int n)) (sh (ac L)) (sh (nD (L.getD j 0))))):=by
  refine bR ?_;rw[aF,ej];exact aY hj
 obtain⟨a1,a2⟩:=hL (L.getD j 0) (by rw[ai hj];exact Ϙ hj);generalize L.getD j 0=a at s5 a1 a2;have vl:una aj (bin fix (va 4) (vb 7)) (rOd ns (paD en re tb r) cs ms ms (sh (.int n)) (sh (ac L)) (sh (nD a)))=.val (nD (ms.getD a []).length):=by
  have v:bin fix (va 4) (vb 7) (rOd ns (paD en re tb r) cs ms ms (sh (.int n)) (sh (ac L)) (sh (nD a)))=.val (ae (ms.getD a [])):=aJ a1;rw[bG,v,aa,i9]
 obtain⟨k,hk,ek⟩:=dX (F:=vb 5) (U:=rOd ns (paD en re tb r) cs ms ms (sh (.int n)) (sh (ac L)) (sh (nD a))) (c:=n) rfl vl a2;obtain⟨z,hz⟩:=zb (F:=vb 5) (U:=rOd ns (paD en re tb r) cs ms ms (sh (.int n)) (sh (ac L)) (sh (nD a))) (c:=n) (k:=64) rfl (by decide);obtain⟨u,hu,eu⟩:=dX (G:=kd (.int 6)) hz rfl (m:=6) (by decide);have hv:bin (iI mU) (bin (iI aA) (bin (iI bT) (vb 5) (kd (.int 64))) (kd (.int 6))) (kd (.int 1)) (rOd ns (paD en re tb r) cs ms ms (sh (.int n)) (sh (ac L)) (sh (nD a)))=.val (.int ((u:Int)-1)):=by
  rw[aF,eu];rfl
 have s6:=FG (i:=4) (U:=rOd ns (paD en re tb r) cs ms ms (sh (.int n)) (sh (ac L)) (sh (nD a))) (B:=vr 7) rfl a1 rfl hk ek hv;have g':Bd cs (ms.set a ((ms.getD a []).set k ((u:Int)-1))):=by
  have:=CV (a:=a) (l:=(ms.getD a []).set k ((u:Int)-1)) ⟨Ρ _,g.m,g.r⟩ (by rw[ϰ];exact g.at a);exact⟨g.c,this.m,this.r⟩
 generalize ms.set a ((ms.getD a []).set k ((u:Int)-1))=ms' at s6 g';have rds:=pf (r:=r) h g';have tt:tst (flF (cal 3 cV (aC (vb 1) (aC (va 3) (aC (va 4) aN))))) (rOd ns (paD en re tb r) cs ms ms' (sh (.int n)) (sh (ac L)) (sh (nD a)))=.val (isR en re tb cs ms'):=by
  rw[bn];unfold flF;rw[pH rfl rfl rfl rds];rfl
 cases q:isR en re tb cs ms' with
 | true =>
  rw[q]at tt;refine⟨cs.take (cs.length-1),ms',⟨by rw[Θ];have:=g.c;omega,g'.m,g'.r⟩,DZ (by rw[Θ];have:=h.nb1;omega),?_⟩;refine fgo s1 (fgo s2 (fgo s3 (fgo s5 (fgo s6 (v9 (e8 tt ?_))))));have w:=qV (f:=D.int) (l:=cs) (F:=vb 3) (U:=[sh (.scr ns),sh (paD en re tb r),sh (rdD cs ms),some (.tre (.l .s) (ae cs)),sh (af ms'),sh (.int n),sh (ac L),sh (nD a)]) rfl;show ret _ [sh (.scr ns),sh (paD en re tb r),sh (rdD cs ms),some (.tre (.l .s) (ae cs)),sh (af ms'),sh (.int n),sh (ac L),sh (nD a)]=_;rw[bM,jh,aZ,w];rfl
 | false =>
  rw[q]at tt;exact⟨cs,ms',g',q,fgo s1 (fgo s2 (fgo s3 (fgo s5 (fgo s6 (fgo (bo tt) rfl)))))⟩
end
def rSd (ns:List Int) (P M x y:D) (bs as:List Int) (n:Option Slt):Rho:=[sh (.scr ns),sh P,sh M,sh x,sh y,some (.tre (.l .s) (ae bs)),some (.tre (.l .s) (ae as)),n]
theorem wO {b e:Rho->R D} {v:Int} (h:U[i]?=some (some (.tre (.l .s) (ae l)))) (hj:j<l.length) (hb:b U=.val (nD j)) (he:e U=.val (.int v)):asO (stP i .s (pN0 i) b e) U=.val (.nx (U.set i (some (.tre (.l .s) (ae (l.set j v)))))):=by
 unfold asO stP;have p0:pN0 i U=.val []:=by unfold pN0;rw[h]
 rw[he,aa,p0,aa,hb,aa];unfold lq;rw[h];show R.bind (R.bind (stF (nD j) (.int v) (l.map D.int)) _) _=_;rw[wR (g:=D.int) hj];rfl
section
variable {en en2:List (Nat×Nat)} {re re2:List Nat} {tb tb2:List (List Int)} {b a:List Nat} {r r2:List D} {ns:List Int}
theorem Bn (h:HallN en re tb) (h2:HallN en2 re2 tb2) (s:Snd en re tb en2 re2 tb2 b a):∃bs as:List Int,aL [hlD en re tb,hlD en2 re2 tb2,ae bs,ae as]=.val (.bl false)/\bt [.scr ns,paD en re tb r,paD en2 re2 tb2 r2,ac b,ac a]=.val (.tup [ae bs,ae as]):=by
 have n1:=h.nb1;have n6:=h.nb6;have a1:=h.na1;have n40:=h.na40;have lb:=s.lb;have la:=s.la;simp only[bt,dM];show ∃bs as:List Int,_/\fin (sq _ _ [sh (.scr ns),sh (paD en re tb r),sh (paD en2 re2 tb2 r2),sh (ac b),sh (ac a),none,none,none])=_;have s1:oK 5 6 (.l .s) (.l .s) (eLs (fIt (vb 3))) (eLs (fIt (vb 4))) [sh (.scr ns),sh (paD en re tb r),sh (paD en2 re2 tb2 r2),sh (ac b),sh (ac a),none,none,none]=.val (.nx (rSd ns (paD en re tb r) (paD en2 re2 tb2 r2) (ac b) (ac a) (b.map Int.ofNat) (a.map Int.ofNat) none)):=by
  have x1:eLs (fIt (vb 3)) [sh (.scr ns),sh (paD en re tb r),sh (paD en2 re2 tb2 r2),sh (ac b),sh (ac a),none,none,none]=.val (ac b):=rfl;have x2:eLs (fIt (vb 4)) [sh (.scr ns),sh (paD en re tb r),sh (paD en2 re2 tb2 r2),sh (ac b),sh (ac a),none,none,none]=.val (ac a):=rfl;unfold oK;rw[x1,aa,x2,aa,if_pos (by
   show(a.map nD).all (bB .s)=true;rw[List.all_map,ύ];exact λ_ _=>rfl)]
  unfold rSd;rw[<- kO,<- kO];rfl
 obtain⟨n,s2⟩:∃n:Int,asg 7 (cal 2 ag (aC (vr 0) (aC (kd (.int 12)) aN))) (rSd ns (paD en re tb r) (paD en2 re2 tb2 r2) (ac b) (ac a) (b.map Int.ofNat) (a.map Int.ofNat) none)=.val (.nx (rSd ns (paD en re tb r) (paD en2 re2 tb2 r2) (ac b) (ac a) (b.map Int.ofNat) (a.map Int.ofNat) (sh (.int n)))):=⟨_,bR (ku (k:=12) rfl rfl rfl)⟩;obtain⟨w,hw,ew⟩:=dX (F:=vb 7) (G:=kd (.int 2)) (U:=rSd ns (paD en re tb r) (paD en2 re2 tb2 r2) (ac b) (ac a) (b.map Int.ofNat) (a.map Int.ofNat) (sh (.int n))) (c:=n) rfl rfl (m:=2) (by decide);obtain⟨z,hz⟩:=zb (F:=vb 7) (U:=rSd ns (paD en re tb r) (paD en2 re2 tb2 r2) (ac b) (ac a) (b.map Int.ofNat) (a.map Int.ofNat) (sh (.int n))) (c:=n) (k:=2) rfl (by decide);obtain⟨u,hu,eu⟩:=dX (G:=kd (.int 8)) hz rfl (m:=8) (by decide);obtain⟨v,hv,ev⟩:=dX (G:=kd (.int 26)) hz rfl (m:=26) (by decide);have gl:∀(i:Nat) (l:List Int),(rSd ns (paD en re tb r) (paD en2 re2 tb2 r2) (ac b) (ac a) (b.map Int.ofNat) (a.map Int.ofNat) (sh (.int n)))[i]?=some (some (.tre (.l .s) (ae l)))->una aj (vb i) (rSd ns (paD en re tb r) (paD en2 re2 tb2 r2) (ac b) (ac a) (b.map Int.ofNat) (a.map Int.ofNat) (sh (.int n)))=.val (nD l.length):=λi l e=>by
  have:vb i (rSd ns (paD en re tb r) (paD en2 re2 tb2 r2) (ac b) (ac a) (b.map Int.ofNat) (a.map Int.ofNat) (sh (.int n)))=.val (ae l):=by
   unfold vb;rw[e];rfl
  rw[bG,this,aa,i9]
 have tw:tst (bin feq (bin (iI aA) (vb 7) (kd (.int 2))) (kd (.int 0))) (rSd ns (paD en re tb r) (paD en2 re2 tb2 r2) (ac b) (ac a) (b.map Int.ofNat) (a.map Int.ofNat) (sh (.int n)))=.val (decide ((w:Int)=0)):=by
  rw[bn,aF,ew,aa,c_,aa,l8];rfl
 obtain⟨bs,as,hbs,has,s3⟩:∃bs as:List Int,bs.length=re.length/\as.length=en.length/\DL.iff (tst (bin feq (bin (iI aA) (vb 7) (kd (.int 2))) (kd (.int 0)))) (asO (stP 5 .s (pN0 5) (bin (iI aA) (cal 2 ag (aC (vr 0) (aC (kd (.int 11)) aN))) (una aj (vb 5))) (bin (iI mU) (bin (iI aA) (bin (iI bT) (vb 7) (kd (.int 2))) (kd (.int 8))) (kd (.int 1))))) (asO (stP 6 .s (pN0 6) (bin (iI aA) (cal 2 ag (aC (vr 0) (aC (kd (.int 11)) aN))) (una aj (vb 6))) (bin (iI mU) (bin (iI aA) (bin (iI bT) (vb 7) (kd (.int 2))) (kd (.int 26))) (kd (.int 1))))) (rSd ns (paD en re tb r) (paD en2 re2 tb2 r2) (ac b) (ac a) (b.map Int.ofNat) (a.map Int.ofNat) (sh (.int n)))=.val (.nx (rSd ns (paD en re tb r) (paD en2 re2 tb2 r2) (ac b) (ac a) bs as (sh (.int n)))):=by
  by_cases c:(w:Int)=0
  ·obtain⟨j,hj,ej⟩:=dX (F:=cal 2 ag (aC (vr 0) (aC (kd (.int 11)) aN))) (G:=una aj (vb 5)) (ku (k:=11) rfl rfl rfl) (gl 5 _ rfl) (by rw[ϋ];omega);refine⟨(b.map Int.ofNat).set j ((u:Int)-1),a.map Int.ofNat,by rw[ϰ,ϋ,lb],by rw[ϋ,la],e8 (by rw[tw,decide_eq_true c]) ?_⟩;exact wO (i:=5) rfl hj ej (by rw[aF,eu];rfl)
  ·obtain⟨j,hj,ej⟩:=dX (F:=cal 2 ag (aC (vr 0) (aC (kd (.int 11)) aN))) (G:=una aj (vb 6)) (ku (k:=11) rfl rfl rfl) (gl 6 _ rfl) (by rw[ϋ];omega);refine⟨b.map Int.ofNat,(a.map Int.ofNat).set j ((v:Int)-1),by rw[ϋ,lb],by rw[ϰ,ϋ,la],Ee (by rw[tw,decide_eq_false c]) ?_⟩;exact wO (i:=6) rfl hj ej (by rw[aF,ev];rfl)
 obtain⟨c,c1,c2⟩:=Bu h h2 r r2 (bs:=bs) (as:=as) (by omega) (by omega);have tt:tst (flF (cal 4 bD (aC (vb 1) (aC (vb 2) (aC (va 5) (aC (va 6) aN)))))) (rSd ns (paD en re tb r) (paD en2 re2 tb2 r2) (ac b) (ac a) bs as (sh (.int n)))=.val c:=by
  rw[bn];unfold flF;rw[rB rfl rfl rfl rfl c2];rfl
 cases c with
 | false=>exact⟨bs,as,c1,fgo s1 (fgo s2 (fgo s3 (fgo (bo tt) rfl)))⟩
 | true =>
  refine⟨bs.take (bs.length-1),as,?_,fgo s1 (fgo s2 (fgo s3 (v9 (e8 tt ?_))))⟩
  ·have hf:=b4 (en:=en) (re:=re) (tb:=tb) (en2:=en2) (re2:=re2) (tb2:=tb2) (bs:=bs.take (bs.length-1)) (as:=as) (by rw[Θ];omega) (by omega);rw[decide_eq_false (p:=(bs.take (bs.length-1)).length=re.length) (by rw[Θ];omega)]at hf;exact iB hf
  ·have w:=qV (f:=D.int) (l:=bs) (F:=vb 5) (U:=[sh (.scr ns),sh (paD en re tb r),sh (paD en2 re2 tb2 r2),sh (ac b),sh (ac a),some (.tre (.l .s) (ae bs)),sh (ae as),sh (.int n)]) rfl;show ret _ [sh (.scr ns),sh (paD en re tb r),sh (paD en2 re2 tb2 r2),sh (ac b),sh (ac a),some (.tre (.l .s) (ae bs)),sh (ae as),sh (.int n)]=_;rw[bM,jh,aZ,w];rfl
end
theorem u0 (hl:l.length<=100000):cG [ae l,ae l]=.val (.bl true):=by
 simp only[cG,jo];show fin (sq _ _ [sh (ae l),sh (ae l),none])=_;have s1:DL.iff (orB (bz (tst (una (iP "list") (vb 0)))) (tst (bin fne (una aj (vb 0)) (una aj (vb 1))))) (ret (kd (.bl false))) nxt [sh (ae l),sh (ae l),none]=.val (.nx [sh (ae l),sh (ae l),none]):=by
  refine bo ?_;have t1:tst (una (iP "list") (vb 0)) [sh (ae l),sh (ae l),none]=.val true:=ϕ rfl rfl;rw[gB,dA,t1];simp
 rw[dL s1];have fe:=eR (src:=aK (aC (una aj (vb 1)) aN)) (T:=tgN 2) (F:=DL.iff (orB (bz (tst (una (iP "int") (bin fix (vb 0) (vb 2))))) (orB (tst (una (iP "bool") (bin fix (vb 0) (vb 2)))) (tst (bin fne (bin fix (vb 0) (vb 2)) (bin fix (vb 1) (vb 2)))))) (ret (kd (.bl false))) nxt) (f:=nD) (ok:=λ_=>true) (l:=List.range l.length) (U:=[sh (ae l),sh (ae l),none]) (λU=>∃x,U=[sh (ae l),sh (ae l),x]) (cM (by simp) hl) (λi hi U hI=>by
  obtain⟨x,rfl⟩:=hI;have hi:=ό.mp hi;have f:=aM (r:=l) hi;refine⟨_,rfl,(λz=>by cases z),λ_=>⟨_,bo (U:=[sh (ae l),sh (ae l),sh (nD i)]) ?_,_,rfl⟩⟩;have v0:bin fix (vb 0) (vb 2) [sh (ae l),sh (ae l),sh (nD i)]=.val (.int (l.getD i (-1))):=f;have v1:bin fix (vb 1) (vb 2) [sh (ae l),sh (ae l),sh (nD i)]=.val (.int (l.getD i (-1))):=f;have t1:tst (una (iP "int") (bin fix (vb 0) (vb 2))) [sh (ae l),sh (ae l),sh (nD i)]=.val true:=by rw[bn,bG,v0];rfl
  have t2:tst (una (iP "bool") (bin fix (vb 0) (vb 2))) [sh (ae l),sh (ae l),sh (nD i)]=.val false:=by rw[bn,bG,v0];rfl
  have t3:tst (bin fne (bin fix (vb 0) (vb 2)) (bin fix (vb 1) (vb 2))) [sh (ae l),sh (ae l),sh (nD i)]=.val false:=by
   rw[bn,aF,v0,v1,aa,aa,o8];simp
  rw[gB,dA,t1,aa,aa,if_neg (by decide),gB,t2,aa,if_neg (by decide),t3]) ⟨_,rfl⟩
 rw[fe,ύ.mpr λ_ _=>rfl]
theorem uZ (hm:ms.length<=100000) (hr:∀l∈ms,l.length<=100000):bE [af ms,af ms]=.val (.bl true):=by
 simp only[bE,eC];show fin (sq _ _ [sh (af ms),sh (af ms),none,none])=_;have s1:DL.iff (orB (bz (tst (una (iP "list") (vb 0)))) (tst (bin fne (una aj (vb 0)) (una aj (vb 1))))) (ret (kd (.bl false))) nxt [sh (af ms),sh (af ms),none,none]=.val (.nx [sh (af ms),sh (af ms),none,none]):=by
  refine bo ?_;have t1:tst (una (iP "list") (vb 0)) [sh (af ms),sh (af ms),none,none]=.val true:=ϕ rfl rfl;rw[gB,dA,t1];simp
 rw[dL s1];have fe:=eR (src:=jb (aC (vr 0) (aC (vr 1) aN))) (T:=tg2 2 3) (F:=DL.iff (bz (tst (cal 2 cG (aC (vr 2) (aC (vr 3) aN))))) (ret (kd (.bl false))) nxt) (f:=λi=>.tup [ae (ms.getD i []),ae (ms.getD i [])]) (ok:=λ_=>true) (l:=List.range ms.length) (U:=[sh (af ms),sh (af ms),none,none]) (λU=>∃x y,U=[sh (af ms),sh (af ms),x,y]) (by
   have:=lh (f:=ae) (g:=ae) (l:=ms) (m:=ms) (a:=[]) (b:=[]) rfl;rw[<- this];rfl) (λi hi U hI=>by
  obtain⟨x,y,rfl⟩:=hI;have hi:=ό.mp hi;refine⟨_,rfl,(λz=>by cases z),λ_=>⟨_,bo (U:=[sh (af ms),sh (af ms),sh (ae (ms.getD i [])),sh (ae (ms.getD i []))]) ?_,_,_,rfl⟩⟩;rw[dA,bn,iS (a:=ae (ms.getD i [])) (b:=ae (ms.getD i [])) rfl rfl (u0 (by rw[ai hi];exact hr _ (Ϙ hi)))];rfl) ⟨_,_,rfl⟩
 rw[fe,ύ.mpr λ_ _=>rfl]
theorem xP {A B:Rho->R Bool} (h:A U=.val false) (k:B U=.val false):orB A B U=.val false:=by
 rw[gB,h,aa,if_neg (by decide),k]
theorem B_ {A B:Rho->R Bool} {a b:Bool} (h:A U=.val a) (k:B U=.val b):orB A B U=.val (a||b):=by
 rw[gB,h,aa,k];cases a<;>rfl
theorem Em {b:Bool} (h:F U=.val (.bl b)):flF F U=.val (.bl b):=by
 unfold flF;rw[h];rfl
theorem xZ {c:Nat} (h:F U=.val (nD c)):tst (bin fne F (kd (.int (c:Int)))) U=.val false:=by
 rw[bn,aF,h,aa,c_,aa,o8];simp
theorem eL2 {b:D} (ha:A U=.val a) (hb:B U=.val b):eL (aC A (aC B aN)) U=.val (.lst [a,b]):=by
 rw[Cj,aZ,ha,aa,aZ,hb];rfl
theorem eT2 {b:D} (ha:A U=.val a) (hb:B U=.val b):eT (aC A (aC B aN)) U=.val (.tup [a,b]):=by
 rw[jh,aZ,ha,aa,aZ,hb];rfl
theorem zr {e:Rho->R D} (h:e U=.val x) (k:T x U=some ρ'):asT T e U=.val (.nx ρ'):=by
 unfold asT;rw[h,aa,k]
section
variable {cs:List Int} {ms:List (List Int)}
theorem Bi (g:Bd cs ms):dF [rdD cs ms,rdD cs ms]=.val (.bl true):=by
 simp only[dF,ji];show fin (sq _ _ [sh (rdD cs ms),sh (rdD cs ms)])=_;have gm:=g.m;have gc:=g.c;refine fgo (bo (xP (iL rfl) ?_)) ?_
 ·rw[bn,aF];show R.bind (fne (.int 2) (.int 2)) asB=_;rw[o8];rfl
 ·rw[bM,BU,iS (a:=ae cs) (b:=ae cs) rfl rfl (u0 (by omega)),aa,pU,aa,if_pos rfl,iS (a:=af ms) (b:=af ms) rfl rfl (uZ (by omega) λl hl=>ϣ (g.r l hl) (by decide))];rfl
end
theorem vm (xs:List D) (x:D):jU (x::xs) (some 1) none=xs:=by
 have e:HT.sIx (x::xs).length 0 (some 1)=1:=by
  unfold HT.sIx;dsimp only;rw[if_neg (by decide),ϫ];show min 1 (xs.length+1)=1;omega
 have e0:HT.sIx (x::xs).length (x::xs).length none=(x::xs).length:=rfl;unfold jU;rw[e,e0,List.drop_one,List.tail_cons,List.take_of_length_le (by simp)]
theorem wg (xs:List D):∃n,jU xs none (some 20)=xs.take n:=by
 unfold jU;exact⟨_,by rw[show HT.sIx xs.length 0 none=0 from rfl,List.drop_zero]⟩
abbrev kp:OK:=.p (.l .s) (.l (.l .s))
def rZ (ns:List Int) (P M x y Hs rd sd du hd:D) (z a b c e:Option Slt):Rho:=[sh (.scr ns),sh P,sh M,sh x,sh y,sh Hs,sh rd,sh sd,sh du,sh hd,z,a,b,c,e]
section
variable {ns:List Int} {P M x y Hs rd sd du hd:D} {cs:List Int} {ms:List (List Int)}
theorem HK {r:List (List Int)} (hl:l.length<=1000):asO (apP 10 .s (pN 10 (pN 10 (pN0 10) (kd (.int 1))) (kd (.int 0))) (kd (.int 0))) (rZ ns P M x y Hs rd sd du hd (some (.tre kp (rdD cs (l::r)))) none none none none)=.val (.nx (rZ ns P M x y Hs rd sd du hd (some (.tre kp (rdD cs ((l++[0])::r)))) none none none none)):=by
 have p1:pN 10 (pN0 10) (kd (.int 1)) (rZ ns P M x y Hs rd sd du hd (some (.tre kp (rdD cs (l::r)))) none none none none)=.val [1]:=rfl;have p2:pN 10 (pN 10 (pN0 10) (kd (.int 1))) (kd (.int 0)) (rZ ns P M x y Hs rd sd du hd (some (.tre kp (rdD cs (l::r)))) none none none none)=.val [1,0]:=by
  show R.bind (pN 10 (pN0 10) (kd (.int 1)) (rZ ns P M x y Hs rd sd du hd (some (.tre kp (rdD cs (l::r)))) none none none none)) _=_;rw[p1,aa,c_,aa];show(match ixN ((l::r).map ae).length 0 with|some j=>R.val ([1]++[j])|none=>.bad)=_;rw[ϋ,show ixN (l::r).length 0=some 0 from lS (i:=0) (by simp)];rfl
 have u:lq 10 .s [1,0] (apF (.int 0)) (rZ ns P M x y Hs rd sd du hd (some (.tre kp (rdD cs (l::r)))) none none none none)=.val (rZ ns P M x y Hs rd sd du hd (some (.tre kp (rdD cs ((l++[0])::r)))) none none none none):=by
  show(if eE kp [1,0]=some (.l .s)then R.bind (apF (.int 0) (l.map D.int)) (λys=>R.val (rZ ns P M x y Hs rd sd du hd (some (.tre kp (.tup [ae cs,.lst (.lst ys::r.map ae)]))) none none none none))else .bad)=_;rw[if_pos (show eE kp [1,0]=some (.l .s)from rfl)];unfold apF;rw[if_pos (by rw[ϋ];exact Nat.lt_of_le_of_lt hl (by decide)),aa];have:D.lst (l.map D.int++[.int 0])=ae (l++[0]):=by unfold ae;rw[Ϭ];rfl
  rw[this];rfl
 unfold asO apP;rw[p2,aa,c_,kW,aa,u];rfl
end
theorem law_val (ns:List Int) (hl:ns.length<=63):jT [.scr ns]=.val (.bl true):=by
 simp only[jT,vk];show fin (sq _ _ [sh (.scr ns),none,none,none,none,none,none,none,none,none,none,none,none,none,none])=_;obtain⟨sz,kn,g,hp⟩:=yQ ns 0;have h:=A6 g;have s4:=(fN sz g.szm).2.1;have few:=g.few;have rl:(ky sz kn).length=sz.length:=jG;have el:(mh kn).length=kn.length:=cB;obtain⟨en2,re2,tb2,r2,b,a,h2,sd,hs⟩:=Bj h (by omega) (by omega) ns (.lst (kn.map ah)) (ac sz);have hh1:=q8 h [.lst (kn.map ah),ac sz];have hh2:=q8 h2 r2;have pull:=λ{L:Nat} {cs:List Int} {ms:List (List Int)} (r:IsR L en2 re2 tb2 cs ms)=>xo h sd r;have hp:cW [.scr ns,.int 0]=.val (.tup [aw (mh kn),ac (ky sz kn),af (lv kn),.lst (kn.map ah),ac sz]):=hp;generalize mh kn=en at *;generalize ky sz kn=re at *;generalize lv kn=tb at *;generalize D.lst (kn.map ah)=k4 at *;generalize ac sz=k5 at *;clear few s4 rl el g;have n1:=h2.nb1;have n6:=h2.nb6;have n40:=h2.na40;have a1:=h2.na1;have e1:=h.na1;have e40:=h.na40;have la:=sd.la;have lb:=sd.lb;have m0:fix (.tup (aw en2::ac re2::af tb2::r2)) (.int 0)=.val (aw en2):=by simp
 have m1:fix (.tup (aw en2::ac re2::af tb2::r2)) (.int 1)=.val (ac re2):=by simp
 have lout:=λj=>Bq (r:=r2) h2 j;have odd:=λ{cs:List Int} {ms:List (List Int)}=>Ew (ns:=ns) (r:=r2) (cs:=cs) (ms:=ms) h2;have odS:=Bn (ns:=ns) (r:=[k4,k5]) (r2:=r2) h h2 sd;have lch:=λ{cs ds:List Int} {ms us G:List (List Int)} (p:IsR 40 en re tb cs ms) (q:IsR 40 en re tb ds us) (c:IsC en re cs ds ms us G)=>tx h p q c (p1:=ac re) (p2:=af tb) (p3:=k4) (p4:=k5);generalize hM:D.tup (aw en2::ac re2::af tb2::r2)=M at *;have outr:∀j,IsR 40 en2 re2 tb2 (sD en2 re2 j) (mJ en2 tb2 j):=λj=>As h2 λt _=>ϣ (pP (en:=en2) j t) n40;refine fgo (bR (iS rfl rfl hp)) (fgo (zr (pH rfl rfl rfl hs) rfl) (fgo (bR (eL2 (zn rfl hh1) (zn rfl hh2))) ?_));have ln:∀{x5 x6 x7 x8 x9 x10 x11 x12 x13 x14:Option Slt} {P x3 x4:D},una aj (bin fix (vb 2) (kd (.int 1))) [sh (.scr ns),sh P,sh M,sh x3,sh x4,x5,x6,x7,x8,x9,x10,x11,x12,x13,x14]=.val (nD re2.length):=by
  intros
  rw[bG];show R.bind (fix M (.int 1)) _=_;rw[m1];exact qR re2
 generalize hP:D.tup [aw en,ac re,af tb,k4,k5]=P at *;generalize hH1:hlD en re tb=H1 at *;generalize hH2:hlD en2 re2 tb2=H2 at *;obtain⟨j,hj,ej⟩:=dX (F:=cal 2 ag (aC (vr 0) (aC (kd (.int 6)) aN))) (G:=una aj (bin fix (vb 2) (kd (.int 1)))) (U:=[sh (.scr ns),sh P,sh M,sh (ac b),sh (ac a),sh (.lst [H1,H2]),none,none,none,none,none,none,none,none,none]) (ku (k:=6) rfl rfl rfl) ln (by omega);have rne:∃x,x<(mJ en2 tb2 j).length/\0<((mJ en2 tb2 j).getD x []).length:=by
  obtain⟨q1,q2⟩:=h2.rs j hj;refine⟨re2.getD j 0,by rw[(outr j).lm];exact q1,?_⟩;have l:=(outr j).ml _ q1;rw[q2]at l;have c:(sD en2 re2 j).getD j (-1)=((btw en2 j j).length:Int):=qm hj;have:0<(btw en2 j j).length:=Ω (mem_btw.mpr ⟨q1,q2⟩);dsimp only at l;omega
 have lo:=lout j;have rr:=outr j;generalize sD en2 re2 j=cs at *;generalize mJ en2 tb2 j=ms at *;refine fgo (bR (iS rfl ej lo)) ?_;obtain⟨ds,us,q,s7⟩:∃ds us,IsR 40 en2 re2 tb2 ds us/\∀B:Rho->R Out,fin (sq (asg 7 (eT (aC (eLs (av (fIt (bin fix (vb 2) (kd (.int 1)))) 1 (tgN 15) tT (kd (.int 1)))) (aC (eLs (av (fIt (bin fix (vb 2) (kd (.int 0)))) 1 (tgN 15) tT (eL (aC (kd (.int 0)) aN)))) aN))))
   (sq (DL.iff (tst (bin feq (bin (iI aA) (cal 2 ag (aC (vr 0) (aC (kd (.int 7)) aN))) (kd (.int 2))) (kd (.int 0)))) (asg 7 (cal 2 di (aC (vr 2) (aC (bin (iI aA) (cal 2 ag (aC (vr 0) (aC (kd (.int 8)) aN))) (una aj (bin fix (vb 2) (kd (.int 1))))) aN)))) nxt) B)
   [sh (.scr ns),sh P,sh M,sh (ac b),sh (ac a),sh (.lst [H1,H2]),sh (rdD cs ms),none,none,none,none,none,none,none,none])=fin (B [sh (.scr ns),sh P,sh M,sh (ac b),sh (ac a),sh (.lst [H1,H2]),sh (rdD cs ms),sh (rdD ds us),none,none,none,none,none,none,none]):=by
  have c1:eLs (av (fIt (bin fix (vb 2) (kd (.int 1)))) 1 (tgN 15) tT (kd (.int 1))) [sh (.scr ns),sh P,sh M,sh (ac b),sh (ac a),sh (.lst [H1,H2]),sh (rdD cs ms),none,none,none,none,none,none,none,none]=.val (ae (re2.map λ_=>1)):=gM (f:=nD) (g:=λ_=>1) (l:=re2) (by
   rw[l9];show R.bind (fix M (.int 1)) _=_;rw[m1];rfl) (by omega) λ_ _=>rfl
  have c2:eLs (av (fIt (bin fix (vb 2) (kd (.int 0)))) 1 (tgN 15) tT (eL (aC (kd (.int 0)) aN))) [sh (.scr ns),sh P,sh M,sh (ac b),sh (ac a),sh (.lst [H1,H2]),sh (rdD cs ms),none,none,none,none,none,none,none,none]=.val (af (en2.map λ_=>[0])):=by
   rw[aP,aS (f:=bp) (g:=λ_=>ae [0]) (l:=en2) (by
    rw[l9];show R.bind (fix M (.int 0)) _=_;rw[m0];rfl) (by omega) λ_ _=>rfl,aa,kM]
  have s1:=bR (i:=7) (eT2 c1 c2);obtain⟨w,hw,ew⟩:=dX (F:=cal 2 ag (aC (vr 0) (aC (kd (.int 7)) aN))) (G:=kd (.int 2)) (U:=[sh (.scr ns),sh P,sh M,sh (ac b),sh (ac a),sh (.lst [H1,H2]),sh (rdD cs ms),sh (rdD (re2.map λ_=>1) (en2.map λ_=>[0])),none,none,none,none,none,none,none]) (ku (k:=7) rfl rfl rfl) rfl (m:=2) (by decide);have tw:tst (bin feq (bin (iI aA) (cal 2 ag (aC (vr 0) (aC (kd (.int 7)) aN))) (kd (.int 2))) (kd (.int 0))) [sh (.scr ns),sh P,sh M,sh (ac b),sh (ac a),sh (.lst [H1,H2]),sh (rdD cs ms),sh (rdD (re2.map λ_=>1) (en2.map λ_=>[0])),none,none,none,none,none,none,none]=.val (decide ((w:Int)=0)):=by
   rw[bn,aF,ew,aa,c_,aa,l8];rfl
  by_cases c:(w:Int)=0
  ·obtain⟨k,hk,ek⟩:=dX (F:=cal 2 ag (aC (vr 0) (aC (kd (.int 8)) aN))) (G:=una aj (bin fix (vb 2) (kd (.int 1)))) (U:=[sh (.scr ns),sh P,sh M,sh (ac b),sh (ac a),sh (.lst [H1,H2]),sh (rdD cs ms),sh (rdD (re2.map λ_=>1) (en2.map λ_=>[0])),none,none,none,none,none,none,none]) (ku (k:=8) rfl rfl rfl) ln (by omega);exact⟨_,_,outr k,λB=>fgo s1 (fgo (e8 (tw.trans (by rw[decide_eq_true c])) (bR (iS rfl ek (lout k)))) rfl)⟩
  ·exact⟨_,_,(AF h2).up (by decide),λB=>fgo s1 (fgo (bo (tw.trans (by rw[decide_eq_false c]))) rfl)⟩
 refine(s7 _).trans ?_;have gr:=rr.bd h2 (by decide);have gq:=q.bd h2 (by decide);have p1:=pull rr;have p2:=pull q;have gp:=p1.bd h (by decide);have due1:=yR h sd rr;have due2:=yR h sd q;have thr:=tu h h2 sd rr;have isr:=e_ h gp;rw[p1.tru h (by decide)]at isr;rw[hH1]at isr;rw[hH1,hH2]at thr;have told:=Bi gp;have mc:=u3 (ms:=ms) (by have:=gr.m;omega);obtain⟨cs',ms',gb,qb,hodd⟩:=odd gr rr.lc rne;obtain⟨bs,as,nos,hos⟩:=odS;have hodd:bu [.scr ns,M,rdD cs ms]=.val (rdD cs' ms'):=by rw[<- hM];exact hodd
 have hos:bt [.scr ns,P,M,ac b,ac a]=.val (.tup [ae bs,ae as]):=by rw[<- hP,<- hM];exact hos
 have six1:=oW (z:=rdD cs' ms') (c:=6) (by decide) (wK nos);have six2:=oW (z:=rdD cs ms) (c:=6) (by decide) (wK nos);have iss:=nL h h2 sd;have four:=oW (c:=4) (by decide) (zD iss h2 gb qb);rw[hH1,hH2]at four;have many:=Bp h2 rr q;have lk:=p1.lm;have la2:0<(pm a ms).length:=by omega
 obtain⟨l0,lr,hpm⟩:∃l0 lr,pm a ms=l0::lr:=by
  cases hx:pm a ms with
  | nil=>rw[hx]at la2;simp at la2
  | cons x y=>exact⟨x,y,rfl⟩
 have hl0:l0.length<=1000:=gp.r l0 (by rw[hpm];simp);have lkd:=uZ (ms:=lr) (by have:=gp.m;rw[hpm,ϫ]at this;omega) λl hl=>ϣ (gp.r l (by rw[hpm];simp[hl])) (by decide);have px:pln 9 (rdD cs ms)=true:=kQ (by simp[eK,Ag]);refine fgo (ρ':=[sh (.scr ns),sh P,sh M,sh (ac b),sh (ac a),sh (.lst [H1,H2]),sh (rdD cs ms),sh (rdD ds us),sh (.lst [rdD (pc b cs) (pm a ms),rdD (pc b ds) (pm a us)]),none,none,none,none,none,none]) (bR (eL2 (pH rfl rfl rfl due1) (pH rfl rfl rfl due2))) (fgo (ρ':=rZ ns P M (ac b) (ac a) (.lst [H1,H2]) (rdD cs ms) (rdD ds us) (.lst [rdD (pc b cs) (pm a ms),rdD (pc b ds) (pm a us)]) (rdD cs ms) none none none none none) (bR (eT2 rfl (zn rfl mc))) ?_);generalize hdu:D.lst [rdD (pc b cs) (pm a ms),rdD (pc b ds) (pm a us)]=du;have du0:fix du (.int 0)=.val (rdD (pc b cs) (pm a ms)):=by rw[<- hdu];rfl
 have du1:fix du (.int 1)=.val (rdD (pc b ds) (pm a us)):=by rw[<- hdu];rfl
 have d0:∀(z a' b' c' e':Option Slt),bin fix (vb 8) (kd (.int 0)) (rZ ns P M (ac b) (ac a) (.lst [H1,H2]) (rdD cs ms) (rdD ds us) du (rdD cs ms) z a' b' c' e')=.val (rdD (pc b cs) (pm a ms)):=λ_ _ _ _ _=>du0;have d1:∀(z a' b' c' e':Option Slt),bin fix (vb 8) (kd (.int 1)) (rZ ns P M (ac b) (ac a) (.lst [H1,H2]) (rdD cs ms) (rdD ds us) du (rdD cs ms) z a' b' c' e')=.val (rdD (pc b ds) (pm a us)):=λ_ _ _ _ _=>du1;refine fgo (ρ':=rZ ns P M (ac b) (ac a) (.lst [H1,H2]) (rdD cs ms) (rdD ds us) du (rdD cs ms) (some (.tre kp (rdD (pc b cs) (pm a ms)))) none none none none) (rY (E5 rfl rfl rfl rfl rfl thr)) (fgo (bo (xP (iL (Em (iS rfl (d0 _ _ _ _ _) told))) ?_)) (fgo (bo ?_) ?_))
 ·show R.bind (fne (rdD cs ms) (rdD cs ms)) asB=_;rw[fB px];rfl
 ·rw[bn,aF,Em (pH (a:=H1) (b:=ae (pc b cs)) (c:=af (pm a ms)) rfl rfl rfl isr)];rfl
 rw[hpm];refine fgo (HK hl0) (fgo (bo (iL (Em (iS (a:=af lr) (b:=af lr) ?_ ?_ lkd)))) (fgo (bo (iL (iS (E5 rfl rfl rfl rfl rfl thr) (d0 _ _ _ _ _) told))) (fgo (bR (pH rfl rfl rfl hodd)) (fgo (ρ':=rZ ns P M (ac b) (ac a) (.lst [H1,H2]) (rdD cs ms) (rdD ds us) du (rdD cs ms) (some (.tre kp (rdD (pc b cs) ((l0++[0])::lr)))) (sh (rdD cs' ms')) (sh (ae bs)) (sh (ae as)) none) (zr (E5 rfl rfl rfl rfl rfl hos) rfl) (fgo (bo (xP (xZ (c:=6) (rB rfl rfl rfl rfl six1)) (xZ (c:=6) (rB rfl rfl rfl rfl six2)))) (fgo (bo (xZ (c:=4) (rB rfl rfl rfl rfl four))) ?_))))))
 ·show R.val (D.lst (jU (ae (l0++[0])::lr.map ae) (some 1) none))=_;rw[vm];rfl
 ·rw[aP];unfold fSl;rw[aF,d0,aa,c_,aa];show R.bind (R.bind (.val (af (pm a ms))) _) _=_;rw[hpm];show R.val (D.lst (jU (ae l0::lr.map ae) (some 1) none))=_;rw[vm];rfl
 have x1:=nJ (cs:=cs) (by rw[rr.lc];omega);have x2:=nJ (cs:=ds) (by rw[q.lc];omega);generalize hρ:rZ ns P M (ac b) (ac a) (.lst [H1,H2]) (rdD cs ms) (rdD ds us) du (rdD cs ms) (some (.tre kp (rdD (pc b cs) ((l0++[0])::lr)))) (sh (rdD cs' ms')) (sh (ae bs)) (sh (ae as)) none=U;have t1:tst (bin (iI fgt) (una gJ (bin fix (vb 6) (kd (.int 0)))) (kd (.int 3))) U=.val (decide (3<ip cs)):=by
  rw[<- hρ];show R.bind (R.bind (gJ (ae cs)) λx=>iI fgt x (.int 3)) asB=_;rw[x1];rfl
 have t2:tst (bin (iI fgt) (una gJ (bin fix (vb 7) (kd (.int 0)))) (kd (.int 3))) U=.val (decide (3<ip ds)):=by
  rw[<- hρ];show R.bind (R.bind (gJ (ae ds)) λx=>iI fgt x (.int 3)) asB=_;rw[x2];rfl
 have t3:tst (bin (iI fgt) (cal 2 dG (aC (vr 6) (aC (vr 7) aN))) (kd (.int 2000))) U=.val (decide ((2000:Int)<(pws cs ds re2.length:Int))):=by
  rw[<- hρ,bn,aF,iS rfl rfl many];rfl
 have tt:=B_ t1 (B_ t2 t3);by_cases e3:(decide (3<ip cs)||(decide (3<ip ds)||decide ((2000:Int)<(pws cs ds re2.length:Int))))=true
 ·rw[e3]at tt;exact v9 (e8 tt rfl)
 rw[Bool.not_eq_true]at e3;have pw:pws cs ds re2.length<=2000:=by
  have:=(Bool.or_eq_false_iff.mp (Bool.or_eq_false_iff.mp e3).2).2;have:=of_decide_eq_false this;omega
 rw[e3]at tt;have ch:=tz h2 rr q pw;rw[hH2]at ch;have mem:=λG=>qK h2 rr q (G:=G);generalize rF en2 re2 cs ds ms us=al at *;obtain⟨n,hn⟩:=wg (al.map af);rw[<- List.map_take]at hn;refine fgo (bo tt) ?_;subst hρ;have fe:=eR (src:=fIt (eLs (fSl (cal 3 eB (aC (bin fix (vb 5) (kd (.int 1))) (aC (vr 9) (aC (vr 7) aN)))) oN (oS (kd (.int 20)))))) (T:=tgN 14) (F:=DL.iff (bz (tst (cal 4 bO (aC (vr 1) (aC (bin fix (vb 8) (kd (.int 0))) (aC (bin fix (vb 8) (kd (.int 1))) (aC (eLs (av (fIt (vr 3)) 1 (tgN 15) tT (bin fix (vb 14) (vb 15)))) aN))))))) (ret (kd (.bl false))) nxt) (f:=af) (ok:=λ_=>true) (l:=al.take n) (U:=rZ ns P M (ac b) (ac a) (.lst [H1,H2]) (rdD cs ms) (rdD ds us) du (rdD cs ms) (some (.tre kp (rdD (pc b cs) ((l0++[0])::lr)))) (sh (rdD cs' ms')) (sh (ae bs)) (sh (ae as)) none) (λU=>∃x,U=rZ ns P M (ac b) (ac a) (.lst [H1,H2]) (rdD cs ms) (rdD ds us) du (rdD cs ms) (some (.tre kp (rdD (pc b cs) ((l0++[0])::lr)))) (sh (rdD cs' ms')) (sh (ae bs)) (sh (ae as)) x) (by
   rw[l9,aP];unfold fSl;rw[pH (a:=H2) (b:=rdD cs ms) (c:=rdD ds us) rfl rfl rfl ch];show R.val (jU (al.map af) none (some 20))=_;rw[hn]) (λG hG U hI=>by
  obtain⟨x,rfl⟩:=hI;have c:=(mem G).mp (List.mem_of_mem_take hG);have pcG:=xp h sd c;have lcg:=lch p1 p2 pcG;refine⟨_,rfl,(λz=>by cases z),λ_=>⟨rZ ns P M (ac b) (ac a) (.lst [H1,H2]) (rdD cs ms) (rdD ds us) du (rdD cs ms) (some (.tre kp (rdD (pc b cs) ((l0++[0])::lr)))) (sh (rdD cs' ms')) (sh (ae bs)) (sh (ae as)) (sh (af G)),bo (iL (rB rfl (d0 _ _ _ _ _) (d1 _ _ _ _ _) ?_ lcg)),_,rfl⟩⟩;rw[aP,aS (f:=nD) (g:=λx=>ae (G.getD x [])) (l:=b) rfl (by have:=h.nb6;omega) λx hx=>aJ (by rw[c.1.1];exact sd.nb x hx),aa,kM]) ⟨_,rfl⟩
 rw[fe,ύ.mpr λ_ _=>rfl]
end DL
namespace DL
open PySem PySem.Spec PyProof.Rows L2
variable {f:Addr} {fd:FuncData}
section
seal ED EB TD AD FD ID GD WD kL SD SDs ER AR FR KD PD ND SDi SDj wt tQ rK KDm TDm PE PG PS PSs PA SDe B0
seal aC aN anM jX rE apP app asO asT asg bad bin cal pG chn BM wf mZ we wd mj drp eL eLs y_ eT fY ext av c9 fIt iQ jS aK fSl jb bA o_ bT feq fge fgt l7 cT iP yJ lZ fix flF ci aj flt gJ aA dP fne cS jQ fnt jP aE sZ mU gH fz iI AZ sX ifJ ifM iff ins kd mkH x_ mvP noM bz nxJ nxt oN oS orB orV own pN pN0 par oK ret rse rtB rtP sK sq sqB sqK stP tT tg2 tg3 tgN trS vA tsM tst una va vb vr whD
theorem dv {g:Prop} (h:g:=by repeat' first
 | (show EB _ _ _ _;first|(show EB _ _ (.Name _ _) (vb _);exact vB _)|apply EB.of)
 | (show ED _ _ _ _;first|(show ED _ _ (.Name _ _) (vr _);exact vE _)|apply GP|exact ES|(show ED _ _ (.Call _ _ _ _) _;first|(apply eA;first|assumption|exact FnX.fn (by assumption))|apply erl|apply Ci|apply EY|apply EO Z.T.xa|apply EQ Z.T.xa|apply pj Z.T.kt_int|apply pj Z.T.kt_bool|apply pj Z.T.kt_list|apply pj Z.T.kt_tuple|apply Bz|apply Bw|(apply eX;assumption)|(apply By;assumption)|(apply EU;assumption)|refine EM rfl ?_ rfl Z.T.max (λt ha=>dW (nU rfl) rfl Z.T.max boot_max ha (he:=rfl) (hpl:=kR rfl dJ))|refine yZ rfl ?_ rfl Z.T.range rfl Z.T.tuple rfl rfl (λt ha=>df (kx rfl) rfl Z.T.tuple boot_tuple ha (he:=rfl) (hpl:=dJ))|refine yY ?_ rfl Z.T.tuple rfl (λt ha=>df iH rfl Z.T.tuple boot_tuple ha (he:=rfl) (hpl:=dJ))|refine BC ?_ ?_ (λho ha=>iX ϴ PySem.F.slot_list_count PySem.F.type_list_count (qz (ss hr)) ho ha)|refine Bx ?_ ?_ (λho ha=>iX ϴ Ψ PySem.F.type_list_index (qy (ss hr)) ho ha)|refine y7 ?_ ?_ rfl|apply GK)|apply Ci|exact GO|apply EL|apply EE|apply EN|apply EZ|(apply EW<;>first|exact Z.T.nE|exact Z.T.nR|exact Z.T.nT|skip)|apply EJ|apply BA|apply EK|apply EG|apply EF|exact EI|apply EX|apply GJ|apply EH|apply GN|apply GM|refine y9 uI xU ?_ ?_ ?_|apply BB|exact mi rfl Z.T.most_boxes.choose_spec|exact mi rfl Z.T.most_arrows.choose_spec|exact mi rfl Z.T.most_things.choose_spec)
 | (show AD _ _ _ _;first|exact E_|apply BW)
 | (show SDs _ _ _ _;first|apply CW|apply zR|apply wV|exact zS|exact zU)
 | (show SD _ _ _ _;first|exact Df|apply C9|apply FJ|(show SD _ _ (.Assign _ _ _) _;first|(show SD _ _ (.Assign _ (.ListComp _ _ _ _) _) _;first|refine' zX (pcc ?_ ?_ ?_ ?_ ?_ ?_ ?_ ?_)|refine' zY (pcc ?_ ?_ ?_ ?_ ?_ ?_ ?_ ?_)|refine' zW (pkc ?_ ?_ ?_ ?_ ?_ ?_ ?_ ?_)|refine sS _ (by assumption) ?_)|(show SD _ _ _ (asg _ _);refine sS _ (by assumption) ?_)|(show SD _ _ _ (asT _ _);apply Dg)|(show SD _ _ _ (own _ _);refine Da (by assumption) rfl (by first|exact .inl rfl|exact .inr rfl) ?_)|(show SD _ _ _ (trS _ _ _);refine C7 (by assumption) rfl (by first|exact .inl rfl|exact .inr rfl) ?_)|exact z6 (by assumption) rfl (by first|exact .inl rfl|exact .inr rfl)|(show SD _ _ _ (mj _ _ _);refine z5 ?_ (pv _) ?_ ?_)|(show SD _ _ _ (asO _);refine FK (uk (k':=.s) ?_ ?_ ?_))|exact zZ (by assumption) (hr.mono (by decide)) rfl (pv _) (by assumption) rfl (by first|exact .inl rfl|exact .inr rfl) rfl|refine C_ ?_ (λha=>xx rfl (by assumption) rfl rfl (by decide) rfl rfl ha rfl)|refine um ?_ ?_ rfl rfl (λha=>xx rfl (by assumption) rfl rfl (by decide) rfl rfl ha rfl)|refine um ?_ ?_ rfl rfl (λha=>Ac rfl (by assumption) rfl rfl (by first|exact .inl rfl|exact .inr rfl) (by first|exact .inl rfl|exact .inr rfl) ha rfl (by first|exact .inl rfl|exact .inr rfl) (by first|exact .inl rfl|exact .inr rfl)))|apply Dd PassesOwn.never|(show SD _ _ _ (drp _);apply z4)|(show SD _ _ _ (app _ _);refine Dh (pv _) ?_ (hst:=rfl))|(show SD _ _ _ (ins _ _ _);refine Db (pv _) ?_ ?_ (hst:=rfl) (hst2:=rfl))|(show SD _ _ _ (ext _ _);refine De (pv _) ?_ (hst:=rfl))|(show SD _ _ _ (asO _);refine FK (w5 (k':=.s) ?_ ?_ (hst:=rfl)))|apply Dc|apply w9 _ PassesOwn.never|refine vI ?_ PassesOwn.never rfl (pv _) ?_ (pv _) (pv _)|exact qk (c:=4) Z.T.xc4 rfl rfl rfl rfl qj rfl|exact qk (c:=6) Z.T.xc6 rfl rfl rfl rfl qj rfl|refine CZ Z.T.xb.choose_spec Z.T.xa (by decide) rfl (by assumption) rfl rfl rfl rfl rfl rfl rfl ?_ ?_)
 | (show TD _ _ _ _;first|apply Fs|apply Fx|apply CH|apply Fv|apply Fu|apply Fw|refine Fp (B1 ?_ ?_)|refine Fp (wC ?_ ?_)|refine qd uI uI ?_ ?_ ?_|refine qd uI xU ?_ ?_ ?_|apply CK|apply zE|apply zF|apply CJ|refine zG ?_ (pv _) ?_|apply CG)
 | with_reducible first|exact dO|exact oo|exact gy|exact oq|exact qg|exact wQ|exact ou|exact zN|exact wP
 | intro _ _ _ _ _ _
 | exact dJ
 | apply kR
 | exact rfl
 | assumption
 | exact FL hr
 | exact Z.T.len
 | exact Z.T.list
 | exact Z.T.range
 | exact Z.T.cl
 | exact λ_=>rfl
 | exact λ_ _=>rfl
 | exact λ_ _ _=>rfl
 | (show WD _ _ _ _;first|apply B1|apply Cq|apply wC|apply zA)
 | (show ER _ _ _ _;first|(show ER _ _ _ (va _);exact Ey (pv _))|apply GH|refine GF (yr ?_ ?_ ?_)|(apply GG;assumption)|apply GE)
 | (show FD _ _ _ _;first|(show FD _ _ (.ListComp _ _ _ _) _;refine' fdc ?_ ?_ ?_ ?_ ?_ ?_ ?_)|apply Es|apply fdl|apply yL|apply Er)
 | (show ID _ _ _ _ _;first|apply yk|apply A5|apply Eh|apply Ei)
 | (show GD _ _ _ _ _;first|(show GD _ _ (.Name _ _) _ _;exact gN _ (by assumption))|apply Ek|apply yo)
 | (show PG _ _ _;exact kT (by assumption) rfl (by first|exact .inl rfl|exact .inr rfl))
 | exact Z.T.enumerate
 | exact Z.T.zip
 | exact Z.T.all
 | exact Z.T.max
 | exact Z.T.isinstance
 | exact Z.T.int
 | exact Z.T.bool
 | exact Z.T.tuple
 | exact Z.T.verr
 | exact boo_int
 | exact boo_bool
 | exact boo_list
 | exact boo_tuple
 | exact boo_ve
 | decide
 | exact hr.mono (by decide)
 | exact RoomN.mono (RoomN.mark (RoomN.of hr)) (by decide)
 | exact FM hr
 | exact ss hr
 | (show PE _ _ _;exact pv _)
 | exact AX
 | apply AW
 | (show KD _ _ _ _ _;first|(apply Gv;assumption)|(show KD _ _ _ (.ListComp _ _ _ _) _;refine' kdc ?_ ?_ ?_ ?_ ?_ ?_ ?_)|apply Gw|apply yg)
 | (show AR _ _ _ _;first|exact E8|apply BS)
 | exact Ao
 | apply An
 | apply CC
 | apply Cz
 | apply Cw
 | (apply AS;assumption)
 | apply Gh
 | exact AH (pv _)
 | (show B0 _ _ _ _;refine w6 (w8 (EB.of ?_)))
 | apply wX
 | exact wW (by decide) (pv _) (pv _)
 | apply zV
 | apply vH
 | apply w4
 | apply CY
 | (show wt _ _ _ _ _;refine wY (FI (uk (k':=.s) ?_ ?_ ?_)))
 | exact wZ
 | exact CD
 | exact CF
 | exact Hr _
 | exact Hq _
 | exact Cb rfl
 | intro _
 | apply Dw
 | apply F8
 | apply F_
 | apply F9):g:=h
variable {P:Program} {w:World} {K:Frag} {mg:Str->Option Value} {base:Heap} {C:Addr}
def DX (K:Frag) (x n:Str) (i:Nat):Prop:=∃f fd,nsIn K mainGlobals x=some (some (.ref f))/\Fun K n n (sAt i) f fd
theorem dx {x n:Str} {i:Nat} {oc:Value} {od an:Option Addr} {osl:Array (Option Value)} {kV doc pm cdv ct:Value} (a:nsIn K mainGlobals x=some (some (.ref f))) (l:K.lookup f=some ⟨oc,od,.func (fnOf n n (f7 (sAt i)) (bj (sAt i)) (ak (sAt i)) .none kV doc pm an cdv ct),osl⟩) (c:codeIn K cdv n=true) (k:keepIn K (.ref f)=true):DX K x n i:=⟨f,_,a,yq l c k⟩
structure Sg (st:Stmt) (x q:Str) (N:List Str) (n:Nat):Prop where
 sc:cA N (N.take n) (ak st):=by constructor<;>first|rfl|decide +kernel
 ln:(N.take n).length=n:=by rfl
 bi:∀(kV doc pm:Value) (an:Option Addr) (cdv ct:Value) (us:List Value),us.length=(N.take n).length->bindArgs (fnOf x q (f7 st) (bj st) (ak st) .none kV doc pm an cdv ct) ⟨us,[]⟩=pure ((N.take n).zip us):=by
  intro _ _ _ _ _ _ us hl
  first
  | (obtain⟨y,rfl⟩:=Gq hl;rfl)
  | (obtain⟨y,z,rfl⟩:=Gp hl;rfl)
  | (obtain⟨y,z,u,rfl⟩:=Go hl;rfl)
  | (obtain⟨y,z,u,v,rfl⟩:=Gn hl;rfl)
  | (obtain⟨y,z,u,v,w,rfl⟩:=Gm hl;rfl)
  | (obtain⟨y,z,u,v,w,x,rfl⟩:=Gk hl;rfl)
  | (obtain⟨y,z,u,v,w,x,o,rfl⟩:=Hn hl;rfl)
variable {x q:Str} {j:Nat} {N:List Str} {k n:Nat} {den:Rho->R Out}
theorem mkF (T:Txt K mg C) (d:DX K x q j) (z:Sg (sAt j) q q N n:=by exact {})
  (h:∀f cdv A outer s H E,Room k (A.deeper (envOfC q (ak (sAt j)) s.heap.objs.size f cdv))->N.Nodup->SDs C (fh CX0 P w K mg base N q (ak (sAt j)) f cdv A outer s H E).nox (bj (sAt j)) den:=by intro _ _ _ _ _ _ _ hr _;exact dv) :
  Fn P w K mg base C (k+1) x n (λds=>fin (den (st0 N ds))):=by
 obtain⟨f,fd,a,F⟩:=d;have o:=zc (P:=P) (w:=w) (mg:=mg) (base:=base) (C:=C) F z.sc (λcdv A outer s H E hr=>h f cdv A outer s H E hr z.sc.nd);rw[z.ln]at o;exact⟨f,fd,_,o,T.wm a,F.kp,F.binds z.bi⟩
theorem mkX (T:Txt K mg C) (d:DX K x q j) (z:Sg (sAt j) q q N n:=by exact {})
  (h:∀f cdv A outer s H E,Room k (A.deeper (envOfC q (ak (sAt j)) s.heap.objs.size f cdv))->N.Nodup->SDs C (fh (CXd P w) P w K mg base N q (ak (sAt j)) f cdv A outer s H E) (bj (sAt j)) den:=by intro _ _ _ _ _ _ _ hr _;exact dv) :
  FnX P w K mg base C (k+1) x n (λds=>fin (den (st0 N ds))):=by
 obtain⟨f,fd,a,F⟩:=d;have o:=BG (P:=P) (w:=w) (mg:=mg) (base:=base) (C:=C) F z.sc (λcdv A outer s H E hr=>h f cdv A outer s H E hr z.sc.nd);rw[z.ln]at o;exact⟨f,fd,_,o,T.wm a,F.kp,F.binds z.bi⟩
theorem mkN (T:Txt K mg C) (d:DX K x q j) (z:Sg (sAt j) q q N n:=by exact {})
  (h:∀f cdv A outer s H,RoomN k (A.deeper (envOfC q (ak (sAt j)) s.heap.objs.size f cdv))->N.Nodup->SDs C (cxN P w K mg base N q (ak (sAt j)) f cdv A outer s H) (bj (sAt j)) den:=by intro _ _ _ _ _ _ hr _;exact dv) :
  FnN P w K mg base C (k+1) x n (λds=>fin (den (st0 N ds))):=by
 obtain⟨f,fd,a,F⟩:=d;have o:=BH (P:=P) (w:=w) (mg:=mg) (base:=base) (C:=C) F z.sc (λcdv A outer s H hr=>h f cdv A outer s H hr z.sc.nd);rw[z.ln]at o;exact⟨f,fd,_,o,T.wm a,F.kp,F.binds z.bi⟩
theorem mkK {kr:OK} {den:Rho->R D} (T:Txt K mg C) (d:DX K x q j) (z:Sg (sAt j) q q N n:=by exact {})
  (h:∀f cdv A outer s H E,Room k (A.deeper (envOfC q (ak (sAt j)) s.heap.objs.size f cdv))->N.Nodup->tQ C (fh CX0 P w K mg base N q (ak (sAt j)) f cdv A outer s H E).nox kr (bj (sAt j)) den:=by intro _ _ _ _ _ _ _ hr _;exact dv) :
  FnK P w K mg base C (k+1) x n kr (λds=>den (st0 N ds)):=by
 obtain⟨f,fd,a,F⟩:=d;have o:=BI (P:=P) (w:=w) (mg:=mg) (base:=base) (C:=C) F z.sc (λcdv A outer s H E hr=>h f cdv A outer s H E hr z.sc.nd);rw[z.ln]at o;exact⟨f,fd,_,o,T.wm a,F.kp,F.binds z.bi⟩
theorem mkI {a:Addr} {cs:List (Rho->R D)} {f1 f2 f3:Rho->R (List D)} {st:Stmt} (T:Txt K mg C) (F:Fun K "__init__" "Hall.__init__" st a fd) (M:Mk K C a) (z:Sg st "__init__" "Hall.__init__" ["self","ends","rests","table"] 4:=by exact {})
  (h:∀cdv A outer s H E,Room k (A.deeper (envOfC "Hall.__init__" (ak st) s.heap.objs.size a cdv))->(["self","ends","rests","table"]:List Str).Nodup->PSs (fh CX0 P w K mg base ["self","ends","rests","table"] "Hall.__init__" (ak st) a cdv A outer s H E).nox (bj st) (tCk C (fh CX0 P w K mg base ["self","ends","rests","table"] "Hall.__init__" (ak st) a cdv A outer s H E).nox cs (tI C (fh CX0 P w K mg base ["self","ends","rests","table"] "Hall.__init__" (ak st) a cdv A outer s H E).nox f1 f2 f3)):=by intro _ _ _ _ _ _ hr _;exact dv):FnH P w K mg base C (k+1) (wf cs f1 f2 f3) :=
 ⟨_,_,M,AT F z.sc T.cl T.nE T.nR T.nT (λcdv A outer s H E hr=>h cdv A outer s H E hr z.sc.nd),T.hall,F.binds z.bi⟩
structure AllD (K:Frag) (C:Addr):Prop where
 d1:DX K "_law_cell" "_law_cell" 51
 d2:DX K "_law_sizes" "_law_sizes" 55
 d3:DX K "_law_next" "_law_next" 54
 d4:DX K "_law_closed" "_law_closed" 56
 d5:DX K "_law_arrows" "_law_arrows" 57
 d6:DX K "_law_parts" "_law_parts" 58
 d7:DX K "_law_sent" "_law_sent" 69
 d8:DX K "_law_between" "_law_between" 61
 d9:DX K "_law_out" "_law_out" 63
 d10:DX K "is_below" "is_below" 12
 d11:DX K "are_below" "are_below" 25
 d12:DX K "has_form_readings" "has_form" 27
 d13:DX K "keeps_rests_readings" "keeps_rests" 29
 d14:DX K "followed" "followed" 26
 d15:DX K "keeps_table_readings" "keeps_table" 31
 d16:DX K "is_reading" "is_reading" 33
 d17:DX K "check_reading" "check_reading" 34
 d18:DX K "keeps_rests_sendings" "keeps_rests" 44
 d19:DX K "keeps_table_sendings" "keeps_table" 46
 d20:DX K "has_form_sendings" "has_form" 41
 d21:DX K "keeps_ends" "keeps_ends" 43
 d22:DX K "is_sending" "is_sending" 48
 d23:DX K "read_through" "read_through" 49
 d24:DX K "_law_reads" "_law_reads" 74
 d25:DX K "_law_copy" "_law_copy" 59
 d26:DX K "_law_odd_reading" "_law_odd_reading" 76
 d27:DX K "_law_sends" "_law_sends" 75
 d28:DX K "_law_odd_sending" "_law_odd_sending" 77
 d29:DX K "check_counts" "check_counts" 13
 d30:DX K "check_ends" "check_ends" 14
 d31:DX K "check_rests" "check_rests" 15
 d32:DX K "check_form" "check_form" 16
 d33:DX K "check_entry" "check_entry" 18
 d34:DX K "check_table" "check_table" 17
 d35:DX K "check_beside_rests" "check_beside_rests" 19
 d36:DX K "check_thirds" "check_thirds" 21
 d37:DX K "check_threes" "check_threes" 20
 d38:∃f fd,Mk K C f/\Fun K "__init__" "Hall.__init__" (AV (sAt 22) 0) f fd
 d39:DX K "_law_hall" "_law_hall" 60
 d40:DX K "_law_due" "_law_due" 72
 d41:DX K "_law_ints" "_law_ints" 52
 d42:DX K "_law_lists_like" "_law_lists_like" 53
 d43:DX K "_law_told" "_law_told" 71
 d45:DX K "_law_which" "_law_which" 70
 d46:DX K "_law_met" "_law_met" 73
 d47:DX K "has_room" "has_room" 36
 d48:DX K "settle" "settle" 39
 d49:DX K "told_along" "told_along" 38
 d50:DX K "told_on" "told_on" 37
 d51:DX K "changes" "changes" 35
 d52:DX K "_law_many" "_law_many" 78
 d53:DX K "_law_is_change" "_law_is_change" 66
 d54:DX K "law" "law" 79
theorem ix {st:Stmt} {oc:Value} {od an:Option Addr} {osl:Array (Option Value)} {kV doc pm cdv ct:Value} (a:findIn K (.ref C) "__init__"=some (some (.ref f))) (i:PySem.W.isFn K (.ref f)=true) (l:K.lookup f=some ⟨oc,od,.func (fnOf "__init__" "Hall.__init__" (f7 st) (bj st) (ak st) .none kV doc pm an cdv ct),osl⟩) (c:codeIn K cdv "Hall.__init__"=true) (k:keepIn K (.ref f)=true) (mk:PySem.W.makesIn K C=true) (kc:keepIn K (.ref C)=true):∃f fd,Mk K C f/\Fun K "__init__" "Hall.__init__" st f fd:=⟨_,_,⟨mk,a,i,kc⟩,yq l c k⟩
structure Ct where
 P:Program
 w:World
 K:Frag
 mg:Str->Option Value
 base:Heap
 C:Addr
 T:Txt K mg C
 S:AllD K C
variable (Z:Ct)
abbrev Fq (k:Nat) (x:Str) (n:Nat) (d:List D->R D):Prop:=Fn Z.P Z.w Z.K Z.mg Z.base Z.C k x n d
theorem cE:Fq Z 1 "_law_cell" 2 ag:=mkF Z.T Z.S.d1
theorem oQ:Fq Z 2 "_law_sizes" 2 cU:=have:=cE Z;mkF Z.T Z.S.d2
theorem qC:Fq Z 1 "_law_next" 1 ay:=mkF Z.T Z.S.d3
theorem mM:Mv Z.P Z.w Z.K Z.mg Z.base Z.C 1 "_law_closed" bX:=by
 obtain⟨f,fd,a,F⟩:=Z.S.d4;have z:Sg (sAt 56) "_law_closed" "_law_closed" jB 1:={};exact⟨f,fd,_,Gi F z.sc (λcdv A outer s H E hr=>have:=z.sc.nd;dv),Z.T.wm a,F.kp,F.binds z.bi⟩
theorem mO:Fq Z 2 "_law_arrows" 3 bW:=have:=cE Z;have:=mM Z;have:=qC Z;mkF Z.T Z.S.d5
theorem oV:Fq Z 3 "_law_parts" 2 cW:=have:=mO Z;have:=oQ Z;mkF Z.T Z.S.d6
theorem qB:Fq Z 2 "_law_sent" 3 eU:=have:=cE Z;mkF Z.T Z.S.d7
theorem lG:Fq Z 1 "_law_between" 3 bP:=mkF Z.T Z.S.d8
theorem sH:Fq Z 2 "_law_out" 2 di:=have:=lG Z;mkF Z.T Z.S.d9
theorem eQ:Fq Z 1 "is_below" 2 ba:=mkF Z.T Z.S.d10
theorem i5:Fq Z 2 "are_below" 2 aW:=have:=eQ Z;mkF Z.T Z.S.d11
theorem gD:Fq Z 3 "has_form_readings" 3 bF:=have:=i5 Z;mkF Z.T Z.S.d12
theorem fu:Fq Z 1 "keeps_rests_readings" 3 bh:=mkF Z.T Z.S.d13
theorem qG:Fq Z 1 "followed" 2 cI:=mkF Z.T Z.S.d14
theorem fq:Fq Z 2 "keeps_table_readings" 2 bc:=have:=qG Z;mkF Z.T Z.S.d15
theorem iy:Fq Z 4 "is_reading" 3 bq:=have:=gD Z;have:=fu Z;have:=fq Z;mkF Z.T Z.S.d16
theorem dg:FnX Z.P Z.w Z.K Z.mg Z.base Z.C 5 "check_reading" 2 aO:=have:=iy Z;mkX Z.T Z.S.d17
theorem ft:Fq Z 1 "keeps_rests_sendings" 4 bf:=mkF Z.T Z.S.d18
theorem fo:Fq Z 1 "keeps_table_sendings" 3 bb:=mkF Z.T Z.S.d19
theorem gC:Fq Z 3 "has_form_sendings" 4 aU:=have:=i5 Z;mkF Z.T Z.S.d20
theorem mP:Fq Z 1 "keeps_ends" 4 dB:=mkF Z.T Z.S.d21
theorem iw:Fq Z 4 "is_sending" 4 aL:=have:=gC Z;have:=mP Z;have:=ft Z;have:=fo Z;mkF Z.T Z.S.d22
theorem kB:FnK Z.P Z.w Z.K Z.mg Z.base Z.C 6 "read_through" 5 (.p (.l .s) (.l (.l .s))) bU:=have:=dg Z;have:=iw Z;mkK Z.T Z.S.d23
theorem oU:Fq Z 1 "_law_reads" 3 cV:=mkF Z.T Z.S.d24
theorem j9:FnK Z.P Z.w Z.K Z.mg Z.base Z.C 1 "_law_copy" 1 (.l (.l .s)) cH:=mkK Z.T Z.S.d25
theorem iO:Fq Z 2 "_law_odd_reading" 3 bu:=have:=cE Z;have:=j9 Z;have:=oU Z;mkF Z.T Z.S.d26
theorem oR:Fq Z 1 "_law_sends" 4 bD:=mkF Z.T Z.S.d27
theorem iN:Fq Z 2 "_law_odd_sending" 5 bt:=have:=cE Z;have:=oR Z;mkF Z.T Z.S.d28
theorem kE:Fq Z 1 "check_counts" 2 cz:=mkF Z.T Z.S.d29
theorem mR:Fq Z 2 "check_ends" 2 dD:=have:=eQ Z;mkF Z.T Z.S.d30
theorem lI:Fq Z 2 "check_rests" 2 cY:=have:=eQ Z;mkF Z.T Z.S.d31
theorem mQ:Fq Z 1 "check_form" 2 dC:=mkF Z.T Z.S.d32
theorem lJ:Fq Z 2 "check_entry" 4 b5:=have:=eQ Z;mkF Z.T Z.S.d33
theorem lH:Fq Z 3 "check_table" 2 cX:=have:=lJ Z;mkF Z.T Z.S.d34
theorem gj:Fq Z 1 "check_beside_rests" 3 bw:=mkF Z.T Z.S.d35
theorem kD:Fq Z 1 "check_thirds" 4 bV:=mkF Z.T Z.S.d36
theorem kC:Fq Z 2 "check_threes" 1 cy:=have:=kD Z;mkF Z.T Z.S.d37
theorem lL:FnH Z.P Z.w Z.K Z.mg Z.base Z.C 4 jv:=have:=gj Z;have:=kE Z;have:=mR Z;have:=mQ Z;have:=lI Z;have:=lH Z;have:=kC Z;Z.S.d38.elim λ_ ⟨_,M,F⟩=>mkI Z.T F M
theorem qE:Fq Z 6 "_law_hall" 1 dH:=have:=lL Z;mkF Z.T Z.S.d39
theorem sJ:Fq Z 1 "_law_due" 3 d_:=mkF Z.T Z.S.d40
theorem j8:Fq Z 1 "_law_ints" 2 cG:=mkF Z.T Z.S.d41
theorem eO:Fq Z 2 "_law_lists_like" 2 bE:=have:=j8 Z;mkF Z.T Z.S.d42
theorem qA:Fq Z 3 "_law_told" 2 dF:=have:=j8 Z;have:=eO Z;mkF Z.T Z.S.d43
theorem i4:FnX Z.P Z.w Z.K Z.mg Z.base Z.C 6 "read_through" 5 aV:=have:=dg Z;have:=iw Z;mkX Z.T Z.S.d23
theorem oP:FnN Z.P Z.w Z.K Z.mg Z.base Z.C 1 "_law_which" 1 fZ:=mkN Z.T Z.S.d45
theorem sI:Fq Z 7 "_law_met" 4 dl:=have:=oP Z;have:=i4 Z;mkF Z.T Z.S.d46
theorem qF:Fq Z 1 "has_room" 2 dI:=mkF Z.T Z.S.d47
theorem vU:MvB Z.P Z.w Z.K Z.mg Z.base Z.C 1 "settle" [.l .s] 2 dS:=by
 obtain⟨f,fd,a,F⟩:=Z.S.d48;have z:Sg (sAt 39) "settle" "settle" rL 3:={};exact⟨f,fd,_,D1 F z.sc rfl (by decide) (λcdv A outer s H E hr=>have:=z.sc.nd;dv),Z.T.wm a,F.kp,F.binds z.bi⟩
theorem mL:Fq Z 2 "told_along" 7 bI:=have:=vU Z;mkF Z.T Z.S.d49
theorem sF:Fq Z 3 "told_on" 6 cC:=have:=mL Z;mkF Z.T Z.S.d50
theorem sL:Fq Z 6 "changes" 3 eB:=have:=dg Z;have:=qF Z;have:=sF Z;mkF Z.T Z.S.d51
theorem qD:Fq Z 1 "_law_many" 2 dG:=mkF Z.T Z.S.d52
theorem jK:Fq Z 1 "_law_is_change" 4 bO:=mkF Z.T Z.S.d53
theorem D4 (F:Fun Z.K "law" "law" (sAt 79) f fd):FnOk Z.P Z.w Z.K Z.mg Z.base CX0 8 f fd ["script"] (spD Z.K Z.C 1 jT) :=
 have:=cE Z;have:=iy Z;have:=j9 Z;have:=eO Z;have:=sJ Z;have:=qE Z;have:=jK Z;have:=qD Z;have:=sI Z;have:=iO Z;have:=iN Z;have:=sH Z;have:=oV Z;have:=qB Z;have:=qA Z;have:=sL Z;have:=kB Z;have z:Sg (sAt 79) "law" "law" Cn 1:={};zc F z.sc (λ_ _ _ _ _ _ hr=>have:=z.sc.nd;dv)
end
def ue (K:Frag):Sp:=λvs H Q _=>∃(a:Addr) (ns:List Int),vs=[.ref a]/\SqL K H a (ns.map V.int)/\ns.length<=63/\∀H',Q (.bl true) H'
theorem AO {P:Program} {w:World} {K:Frag} {mg:Str->Option Value} {base:Heap} {C:Addr} {k:Nat} (hval:∀ns:List Int,ns.length<=63->jT [.scr ns]=.val (.bl true)) (F:FnOk P w K mg base CX0 k f fd ["script"] (spD K C 1 jT)):FnOk P w K mg base CX0 k f fd ["script"] (ue K) :=
 F.imp λvs H Q E ⟨a,ns,e,hS,hl,q⟩=>by
  subst e;refine⟨rfl,[.scr ns],.cons (.scr hS) .nil,?_⟩;rw[hval ns hl];intro v H' _ hv;cases hv;exact q H'
abbrev NI (K:Frag) (x:Str) (f:Addr):Prop:=nsIn K mainGlobals x=some (some (.ref f))
abbrev NN (K:Frag) (x:Str):Prop:=nsIn K mainGlobals x=some none
abbrev KO (K:Frag) (a b:Value) (c:Bool):Prop:=kitOne K a b=some c
set_option autoImplicit true in
theorem all_mk {l : PySem.W.OpenLaw} {w : World} {K : Frag} {h : Heap} {mg : Str -> Option Value} {fa C C0 C1 C2 C3 C4 C5 C6 CA : Addr} {tb ta tMOST_THINGS : Tok} (hval : ∀ ns : List Int, ns.length <= 63 -> jT [.scr ns] = .val (.bl true)) (X : K.In h) (G : h.Ns mainGlobals mg) (hfa : mg "law" = some (.ref fa))
    (aC : NI K "Hall" C)
    (S : AllD K C)
    (pg : plainGet K C Str.empty = true) (hd : hasDictIn K C = true) (po : PySem.W.plainOver K C = true) (sa : findIn K (.ref C) "__setattr__" = some (some (.builtin "object.__setattr__")))
    (nE : findIn K (.ref C) "ends" = some none) (nR : findIn K (.ref C) "rests" = some none) (nT : findIn K (.ref C) "table" = some none)
    (z_len : NN K "len")
    (z_list : NN K "list")
    (z_tuple : NN K "tuple")
    (z_range : NN K "range")
    (z_enumerate : NN K "enumerate")
    (z_max : NN K "max")
    (z_isinstance : NN K "isinstance")
    (z_all : NN K "all")
    (z_zip : NN K "zip")
    (z_min : NN K "min")
    (z_int : NN K "int")
    (z_bool : NN K "bool")
    (z_ValueError : NN K "ValueError")
    (mb : nsIn K mainGlobals "MOST_BOXES" = some (some (.int 6 tb))) (ma : nsIn K mainGlobals "MOST_ARROWS" = some (some (.int 40 ta))) (mMOST_THINGS : nsIn K mainGlobals "MOST_THINGS" = some (some (.int 40 tMOST_THINGS)))
    (ih1 : findIn K (.ref C) "__class__" = some (some (.builtin "object.__class__"))) (ih2 : specialIn K (.builtin "object.__class__") "__get__" = some (some (.builtin "getset_descriptor.__get__"))) (ih3 : takesIn K (.builtin "object.__class__") = some true)
    (ih4 : mroIn K C (.type "object") = some true)
    (e0 : NI K "NoHall" C0)
    (e1 : NI K "NoArrow" C1)
    (e2 : NI K "NoBox" C2)
    (e3 : NI K "NoPicture" C3)
    (e4 : NI K "NoReading" C4)
    (e5 : NI K "NoThing" C5)
    (e6 : NI K "NoSending" C6)
    (eA : NI K "ArrowError" CA)
    (x4a : excIn K C4 [.type "ValueError", .type "Exception", .type "BaseException", .type "object"] "ValueError.__new__" = true) (x4b : findIn K (.ref C4) "__getattribute__" = some (some (.builtin "BaseException.__getattribute__"))) (x4c : findIn K (.ref C4) "__getattr__" = some none) (x4d : findIn K (.ref C4) "__class__" = some (some (.builtin "object.__class__"))) (x4e : mroIn K C4 (.type "object") = some true)
    (q40 : KO K (.ref C4) (.ref C0) false)    (q41 : KO K (.ref C4) (.ref C1) false)    (q42 : KO K (.ref C4) (.ref C2) false)    (q43 : KO K (.ref C4) (.ref C3) false)    (q44 : KO K (.ref C4) (.ref C4) true)    (q45 : KO K (.ref C4) (.ref C5) false)    (q46 : KO K (.ref C4) (.ref C6) false)    (v4 : KO K (.ref C4) (.type "ValueError") true) (u4 : KO K (.ref C4) (.ref CA) true) (n4 : C4 ≠ CA)
    (x6a : excIn K C6 [.type "ValueError", .type "Exception", .type "BaseException", .type "object"] "ValueError.__new__" = true) (x6b : findIn K (.ref C6) "__getattribute__" = some (some (.builtin "BaseException.__getattribute__"))) (x6c : findIn K (.ref C6) "__getattr__" = some none) (x6d : findIn K (.ref C6) "__class__" = some (some (.builtin "object.__class__"))) (x6e : mroIn K C6 (.type "object") = some true)
    (q60 : KO K (.ref C6) (.ref C0) false)    (q61 : KO K (.ref C6) (.ref C1) false)    (q62 : KO K (.ref C6) (.ref C2) false)    (q63 : KO K (.ref C6) (.ref C3) false)    (q64 : KO K (.ref C6) (.ref C4) false)    (q65 : KO K (.ref C6) (.ref C5) false)    (q66 : KO K (.ref C6) (.ref C6) true)    (v6 : KO K (.ref C6) (.type "ValueError") true) (u6 : KO K (.ref C6) (.ref CA) true) (n6 : C6 ≠ CA)
    (be : KO K (.ref CA) (.type "BaseException") true)
    (kii : KO K (.type "int") (.type "int") true)
    (kbi : KO K (.type "bool") (.type "int") true)
    (kNi : KO K (.type "NoneType") (.type "int") false)
    (kli : KO K (.type "list") (.type "int") false)
    (kti : KO K (.type "tuple") (.type "int") false)
    (kib : KO K (.type "int") (.type "bool") false)
    (kbb : KO K (.type "bool") (.type "bool") true)
    (kNb : KO K (.type "NoneType") (.type "bool") false)
    (klb : KO K (.type "list") (.type "bool") false)
    (ktb : KO K (.type "tuple") (.type "bool") false)
    (kil : KO K (.type "int") (.type "list") false)
    (kbl : KO K (.type "bool") (.type "list") false)
    (kNl : KO K (.type "NoneType") (.type "list") false)
    (kll : KO K (.type "list") (.type "list") true)
    (ktl : KO K (.type "tuple") (.type "list") false)
    (kit : KO K (.type "int") (.type "tuple") false)
    (kbt : KO K (.type "bool") (.type "tuple") false)
    (kNt : KO K (.type "NoneType") (.type "tuple") false)
    (klt : KO K (.type "list") (.type "tuple") false)
    (ktt : KO K (.type "tuple") (.type "tuple") true)
 :
    ∃ fd : FuncData, (∀ (s : Shared) (v : Value), BindsTo s fd ⟨[v], []⟩ [("script", v)]) /\ ∀ base : Heap, K.In base -> base.Ns mainGlobals mg -> FnOk l.prog w K mg base CX0 8 fa fd ["script"] (ue K) := by
  obtain ⟨f, fd, a, F⟩ := S.d54
  cases hfa.symm.trans (mg_of X G a)
  have cl : Cls K C := ⟨pg, hd, po, sa⟩
  have mem : ∀ c, c ∈ [4, 6] -> c = 4 \/ c = 6 := fun c hc => by simpa using hc
  have xa : tO K mg [4, 6] := by
    refine ⟨fun k hk => ?_, fun c hc Cc h => ?_, fun c hc k hk Cc Ck h1 h2 => ?_, fun c hc Cc h => ?_⟩
    · match k, hk with
      | 0, _ => exact ⟨C0, e0, mg_of X G e0⟩
      | 1, _ => exact ⟨C1, e1, mg_of X G e1⟩
      | 2, _ => exact ⟨C2, e2, mg_of X G e2⟩
      | 3, _ => exact ⟨C3, e3, mg_of X G e3⟩
      | 4, _ => exact ⟨C4, e4, mg_of X G e4⟩
      | 5, _ => exact ⟨C5, e5, mg_of X G e5⟩
      | 6, _ => exact ⟨C6, e6, mg_of X G e6⟩
    · rcases mem c hc with rfl | rfl
      · cases e4.symm.trans h; exact ⟨x4a, x4b, x4c, x4d, ih2, ih3, x4e⟩
      · cases e6.symm.trans h; exact ⟨x6a, x6b, x6c, x6d, ih2, ih3, x6e⟩
    · rcases mem c hc with rfl | rfl
      · cases e4.symm.trans h1
        match k, hk with
        | 0, _ => cases e0.symm.trans h2; exact q40
        | 1, _ => cases e1.symm.trans h2; exact q41
        | 2, _ => cases e2.symm.trans h2; exact q42
        | 3, _ => cases e3.symm.trans h2; exact q43
        | 4, _ => cases e4.symm.trans h2; exact q44
        | 5, _ => cases e5.symm.trans h2; exact q45
        | 6, _ => cases e6.symm.trans h2; exact q46
      · cases e6.symm.trans h1
        match k, hk with
        | 0, _ => cases e0.symm.trans h2; exact q60
        | 1, _ => cases e1.symm.trans h2; exact q61
        | 2, _ => cases e2.symm.trans h2; exact q62
        | 3, _ => cases e3.symm.trans h2; exact q63
        | 4, _ => cases e4.symm.trans h2; exact q64
        | 5, _ => cases e5.symm.trans h2; exact q65
        | 6, _ => cases e6.symm.trans h2; exact q66
    · rcases mem c hc with rfl | rfl
      · cases e4.symm.trans h; exact v4
      · cases e6.symm.trans h; exact v6
  have xb : XB K mg [4, 6] CA := by
    refine ⟨mg_of X G eA, be, fun c hc Cc h => ?_⟩
    rcases mem c hc with rfl | rfl
    · cases e4.symm.trans h; exact ⟨u4, n4⟩
    · cases e6.symm.trans h; exact ⟨u6, n6⟩
  have T : Txt K mg C := ⟨cl, nE, nR, nT, mg_none_of X G z_len, mg_none_of X G z_list, mg_none_of X G z_tuple, mg_none_of X G z_range, mg_none_of X G z_enumerate, mg_none_of X G z_max, mg_none_of X G z_isinstance, mg_none_of X G z_all, mg_none_of X G z_zip, mg_none_of X G z_min, mg_none_of X G z_int, mg_none_of X G z_bool, mg_none_of X G z_ValueError, ⟨cl, ih1, ih2, ih3, ih4⟩, mg_of X G aC, ⟨tb, mg_of X G mb⟩, ⟨ta, mg_of X G ma⟩, ⟨tMOST_THINGS, mg_of X G mMOST_THINGS⟩, ⟨C4, mg_of X G e4, x4a⟩, ⟨C6, mg_of X G e6, x6a⟩, xa, ⟨CA, xb⟩, ⟨kii, kbi, kNi, kli, kti⟩, ⟨kib, kbb, kNb, klb, ktb⟩, ⟨kil, kbl, kNl, kll, ktl⟩, ⟨kit, kbt, kNt, klt, ktt⟩, mg_of X G⟩
  refine ⟨fd, fun s v => ?_, fun base _ _ => AO hval (D4 ⟨l.prog, w, K, mg, base, C, T, S⟩ F)⟩
  obtain ⟨oc, od, kV, doc, pm, an, cdv, ct, osl, rfl, lk, hcd⟩ := F.ex
  exact .of_eq rfl
theorem walk {l:PySem.W.OpenLaw} {q:Program} {loose:List Str} {XP:(Str->Option Value)->Heap->Prop} {YP:World->Heap->Prop} {d:DefRec} {K:Params->Frag} (hn:l.most=some 63) (hdf:d.params.defaults=[])
  (hY:∀(w:World) (h:Heap),YP w h->(K w.params).In h)
  (F:∀(w:World) (mg:Str->Option Value) (fa:Addr) (h:Heap),(K w.params).In h->h.Ns mainGlobals mg->mg d.name=some (.ref fa) ->
   ∃fd:FuncData,(∀(s:Shared) (u:Value),BindsTo s fd ⟨[u],[]⟩ [("script",u)])/\∀base:Heap,(K w.params).In base->base.Ns mainGlobals mg->FnOk l.prog w (K w.params) mg base CX0 8 fa fd ["script"] (ue (K w.params))) :
  PySem.W.WalkO q loose XP YP l.row.toRowW d [] (λf vs=>PySem.call f vs) :=
 L2.walk_of (n:=63) (k:=8) (x:="script") (CX:=λ_=>CX0) (sp:=λw=>ue (K w.params)) hn (by decide) hdf ⟨rfl,by decide,by decide⟩ hY F (λ_ _ a ns hl _ hS=>⟨a,ns,rfl,hS,hl,λ_=>rfl⟩) λ_ _ _ _ _ z=>z
end DL
namespace PySem.W.Fast
def tw3490338393019743264:=0
def tw12328249686421196864:=0
def tw12770708391952238784:=0
def tw10714533253245970656:=0
def tw14733490179794201888:=0
def tw11282731819001050400:=0
def tw4110621815668727168:=0
def tw16844429335573096832:=0
def tw4292961699454410176:=0
def tw15528996862651353728:=0
def tw10897492156154867360:=0
def tw14959583860163184320:=0
def tw12181582468799373184:=0
def tw11024939681384566720:=0
def tw11747943059805721568:=0
def tw17961000459860286497:=0
def tw12560847805073014817:=0
def tw5289333396583809089:=0
def tw16331274649476555905:=0
def tw5636437823355678913:=0
def tw7016719637836455201:=0
def tw16783790311679643937:=0
def tw3019940760787613985:=0
def tw858711648021982561:=0
def tw625479897374007777:=0
def tw15632904725682313697:=0
def tw17330450075658024481:=0
def tw9053624979252164161:=0
def tw12055595783693587073:=0
def tw10903655651950849665:=0
def tw12766450459816294081:=0
def tw4323448755630971681:=0
def tw16011762373367544609:=0
def tw8546771870736411457:=0
def tw3532969553389127521:=0
def tw7095511720382140321:=0
def tw7619642986080369569:=0
def tw10217999446524788641:=0
def tw15931443814080693378:=0
def tw7922128464232757474:=0
def tw8065330997623903522:=0
def tw746623188289103170:=0
def tw6383337571307952482:=0
def tw5774004078876544578:=0
def tw5402230878852302434:=0
def tw6089600220996351810:=0
def tw2594543333668370306:=0
def tw1512273717202408418:=0
def tw3953512445733855299:=0
def tw9062143531510067331:=0
def tw4397816388166861987:=0
def tw14441855860767830179:=0
def tw5039075382172399811:=0
def tw3175951445879284003:=0
def tw11025371164299491715:=0
def tw12132774554167022019:=0
def tw8662296239577320995:=0
def tw6537184928130032483:=0
def tw6719093952984261507:=0
def tw11450998631030438819:=0
def tw16902509484784188387:=0
def tw4742867075753539620:=0
def tw6252249838693263428:=0
def tw12250037972390881380:=0
def tw12128871095645774020:=0
def tw6687111634469167332:=0
def tw249368066412571940:=0
def tw12580784502022323524:=0
def tw4105703352416389476:=0
def tw13858333472658356644:=0
def tw16187767305227502020:=0
def tw15906857197798105572:=0
def tw12354887585220804100:=0
def tw3613497797104879204:=0
def tw16671842599622557348:=0
def tw1097309811847088804:=0
def tw11705464285932400324:=0
def tw7354186527209703172:=0
def tw1719707772819733348:=0
def tw13675699826917143428:=0
def tw1415158229035115557:=0
def tw9988479642169752645:=0
def tw16176485932512487589:=0
def tw12889278861843183781:=0
def tw10057695025185864037:=0
def tw15364398417136135525:=0
def tw11627920057341673861:=0
def tw13136189332054674949:=0
def tw9435305800204188197:=0
def tw12911799650328337989:=0
def tw9279619456226118245:=0
def tw7706000246837962373:=0
def tw16680039445077438117:=0
def tw708617240676239045:=0
def tw12175370716933462725:=0
def tw12887750019955505893:=0
def tw13164941967910240069:=0
def tw1413399457981447109:=0
def tw15738741072776776710:=0
def tw4215576164670353638:=0
def tw8304502247966832966:=0
def tw1323707350631086406:=0
def tw14361435214940532070:=0
def tw8900439419097767270:=0
def tw3978193191535627750:=0
def tw4435148738323809894:=0
def tw3867991304794681990:=0
def tw15505161546950262406:=0
def tw14479237282358520486:=0
def tw17311925494800799558:=0
def tw3436591166724653926:=0
def tw6559971143502137222:=0
def tw14429076557032503270:=0
def tw6770810467967546535:=0
def tw16895892412532521159:=0
def tw15740438060850943271:=0
def tw3168554933514937639:=0
def tw5482451232596403655:=0
def tw218439499424154183:=0
def tw6476747140926723719:=0
def tw6129772952823526119:=0
def tw8670923169271259911:=0
def tw1437795516169800487:=0
def tw5593417898586367847:=0
def tw6020408694285915015:=0
def tw6102129237705117736:=0
def tw10808675462159408264:=0
def tw16846154587457626312:=0
def tw3282541136913038568:=0
def tw15716702792440346856:=0
def tw209676288993378760:=0
def tw9229911748265984488:=0
def tw11840377982957258312:=0
def tw7306470182266879656:=0
def tw14864564705709048520:=0
def tw1881799898252341960:=0
def tw16928703632633185992:=0
def tw13006457248486023944:=0
def tw17326848123834039048:=0
def tw16882525459225982760:=0
def tw16332933796135353128:=0
def tw10197155802449373992:=0
def tw10071477628832579400:=0
def tw17957192108140713896:=0
def tw12222739936011798697:=0
def tw9465619338508628137:=0
def tw16913670739450830025:=0
def tw187905536594981097:=0
def tw4426986977825677545:=0
def tw11284032815736372489:=0
def tw2719092270004055465:=0
def tw14770385772991046281:=0
def tw4467688724138473225:=0
def tw18051850453037764393:=0
def tw4026031705951058793:=0
def tw6945363661860625257:=0
def tw10709891725482818634:=0
def tw4448030591135926378:=0
def tw676899743690084490:=0
def tw5477583851150158986:=0
def tw4783814573759008970:=0
def tw7023415536227328202:=0
def tw3123357044407194954:=0
def tw12473051073732197770:=0
def tw13327740490839805386:=0
def tw5939289898497696202:=0
def tw12938713921743594058:=0
def tw870841372875461258:=0
def tw4471109009862857450:=0
def tw10057980374974167914:=0
def tw3323082000740425642:=0
def tw15466468182201676746:=0
def tw1480678791010793418:=0
def tw3472763650274499659:=0
def tw9933481135870863467:=0
def tw4917532877801411723:=0
def tw14939902069164856459:=0
def tw2050920218772017419:=0
def tw13337503201684616587:=0
def tw4712882001339283851:=0
def tw4570547286454078891:=0
def tw16596551697051062699:=0
def tw17267926723112686091:=0
def tw8968732297393826379:=0
def tw3943166153480542827:=0
def tw17364601247534085803:=0
def tw12852330307876038379:=0
def tw1890898030813583147:=0
def tw4812755632414257035:=0
def tw16772310724778095563:=0
def tw16717129833956545515:=0
def tw4511044825456099436:=0
def tw3707972141881023660:=0
def tw17021662547806567628:=0
def tw2852261274443623628:=0
def tw9999309833603437900:=0
def tw10026044975126555020:=0
def tw9488749098539464108:=0
def tw3545548774798777772:=0
def tw2057555695209906732:=0
def tw10816092646313399916:=0
def tw14234527639492603564:=0
def tw54465290560757420:=0
def tw16814803966657862348:=0
def tw11761906404865976076:=0
def tw3350060304718019372:=0
def tw10348459323049293644:=0
def tw10988339191071790956:=0
def tw17731886818697229228:=0
def tw14902001198963610540:=0
def tw3114861113889158092:=0
def tw7714592993169899468:=0
def tw10832010674667011085:=0
def tw7949790240316113965:=0
def tw12773571925013654573:=0
def tw1316870627684934765:=0
def tw3268776210559803661:=0
def tw16121621887741129005:=0
def tw11589500232569360685:=0
def tw14515886317385505133:=0
def tw12875271835282603405:=0
def tw5030993914142562733:=0
def tw10091903184614342253:=0
def tw3226886729716716141:=0
def tw10927848047260007021:=0
def tw6775319676907382413:=0
def tw7310732837204679309:=0
def tw3177792374861861517:=0
def tw8058762096935091917:=0
def tw5742331368504316653:=0
def tw9535244928091789069:=0
def tw4357424681171293965:=0
def tw11286263132510989069:=0
def tw10921478755180548941:=0
def tw16671067898219962189:=0
def tw394076680503459661:=0
def tw5270108054148434829:=0
def tw805995453845132173:=0
def tw7788572654021974957:=0
def tw13073722129883178925:=0
def tw13837440036019027982:=0
def tw13213357013905969166:=0
def tw2851857890118307982:=0
def tw17122058261411330222:=0
def tw10278385498612537550:=0
def tw12754913220866846958:=0
def tw11169365533440328942:=0
def tw4558748363523935534:=0
def tw13573145978518539854:=0
def tw8927853140579294926:=0
def tw14052803017755531022:=0
def tw5000317374507482990:=0
def tw4454754920165297006:=0
def tw9668794145573564559:=0
def tw12635557904058486159:=0
def tw10697558943728923119:=0
def tw13398125286550786575:=0
def tw12525323450285895183:=0
def tw14539523661168632335:=0
def tw15810559242934514255:=0
def tw8841809503021420207:=0
def tw14659147445800030991:=0
def tw15615001702263278447:=0
def tw3803496528993853295:=0
def tw18409417077211873263:=0
def tw17313177256248186896:=0
def tw1110532561047866480:=0
def tw10209570042197747856:=0
def tw940302739466628336:=0
def tw9514146950221796592:=0
def tw5534714231192617232:=0
def tw11266701905793199376:=0
def tw2151403842747926896:=0
def tw18331989835394544208:=0
def tw2693376206037022352:=0
def tw7756206713022950128:=0
def tw371611094271281904:=0
def tw15445215435206354736:=0
def tw3230090663775712080:=0
def tw10935131979857056688:=0
def tw17491681707464718353:=0
def tw7642755448791142801:=0
def tw9246336892761332273:=0
def tw15840924480187095697:=0
def tw2400282459350325105:=0
def tw13891968015793522577:=0
def tw8917184143272570769:=0
def tw569925732510689201:=0
def tw7972618845700989905:=0
def tw7152076508398553073:=0
def tw3719150825035917330:=0
def tw6546445770364009490:=0
def tw3150909155274346706:=0
def tw7963992103987386706:=0
def tw9568395945891687794:=0
def tw14681514115135842738:=0
def tw17101475267071788594:=0
def tw5643079391218214482:=0
def tw3341014728642019986:=0
def tw11938018101700293330:=0
def tw6722322514884591314:=0
def tw13274835748601268978:=0
def tw17399276305267612402:=0
def tw4254120669048960818:=0
def tw18415921692964429618:=0
def tw17451856789576475634:=0
def tw7612984866105025555:=0
def tw1247654159975314451:=0
def tw16339598014336413747:=0
def tw969946325035020403:=0
def tw5082188636035294355:=0
def tw4547811633518150867:=0
def tw17061271568852072755:=0
def tw14855976599536780627:=0
def tw79427605290492243:=0
def tw7181613059116172723:=0
def tw14202749411666187763:=0
def tw5656348515703030291:=0
def tw3829431672466457235:=0
def tw8949069793875372851:=0
def tw7397096007790569299:=0
def tw3647483248206819444:=0
def tw4121087415187002484:=0
def tw14705924247648239828:=0
def tw12865190477676262644:=0
def tw5940886268194871572:=0
def tw3332666737642698068:=0
def tw16889804600329450868:=0
def tw12455371759411505524:=0
def tw10159674636578408852:=0
def tw7804088082264309140:=0
def tw7779459698785109524:=0
def tw1402492252266513012:=0
def tw13549167875160902260:=0
def tw16429006857107511988:=0
def tw9621064104812283636:=0
def tw11069592746969616116:=0
def tw16070611563814138836:=0
def tw5742437045926547444:=0
def tw8407214467383531573:=0
def tw3716958443722956949:=0
def tw13260823787476961461:=0
def tw3606654253899958549:=0
def tw7572570068476299541:=0
def tw7547546390606080309:=0
def tw8859105724309535093:=0
def tw14203702912216452565:=0
def tw2726071780549195221:=0
def tw11442350666732442101:=0
def tw11602628493442721301:=0
def tw8205027817710368341:=0
def tw6843912101443345045:=0
def tw9717210851585252053:=0
def tw17736398758356979509:=0
def tw17304859969439346581:=0
def tw758932700083021717:=0
def tw4538263562278599637:=0
def tw13936824860553938933:=0
def tw388634440541380597:=0
def tw2631079985624467445:=0
def tw6741423158563486742:=0
def tw10508110401139190838:=0
def tw16105306549238560886:=0
def tw10943296956049886358:=0
def tw13041826227456377014:=0
def tw13928107972021286230:=0
def tw10683279900652115382:=0
def tw3622545623753439702:=0
def tw9430539511351162358:=0
def tw6215893760067260918:=0
def tw12970791790629759542:=0
def tw2811748848673514038:=0
def tw16814673478314525270:=0
def tw17648065196857382518:=0
def tw15653021396157389526:=0
def tw90418002000913110:=0
def tw6923343088483306230:=0
def tw8633182278026315606:=0
def tw8652614827719213974:=0
def tw17811220284225782710:=0
def tw13492696186579844054:=0
def tw12146207761165863159:=0
def tw6003532977260577047:=0
def tw7349715368612305175:=0
def tw10698368033671304503:=0
def tw15046120032657045879:=0
def tw7515470535493359063:=0
def tw831460267367405207:=0
def tw1685324284563360407:=0
def tw5035828254816833207:=0
def tw5730046354761703127:=0
def tw16532968859896452983:=0
def tw14896161698567589783:=0
def tw23329953259380663:=0
def tw2371643938118299672:=0
def tw6396937078478089304:=0
def tw11109575073185612920:=0
def tw15336613232987930840:=0
def tw11049930759204221144:=0
def tw15296852620622688504:=0
def tw13748974708338973944:=0
def tw8246373899938942264:=0
def tw17987733589349202264:=0
def tw11687744251449756024:=0
def tw17758509834881174904:=0
def tw536335588907573656:=0
def tw16759893222030264760:=0
def tw2349350457174698552:=0
def tw7793163862637925976:=0
def tw10455358135044266616:=0
def tw9641049435132254872:=0
def tw1878498908097125048:=0
def tw15668579703846782680:=0
def tw5199211545313716952:=0
def tw6980726870807276280:=0
def tw3239835378000891768:=0
def tw9496145303530065816:=0
def tw10478348478970187833:=0
def tw12969365713120831609:=0
def tw1054479519216735417:=0
def tw6057902740187361593:=0
def tw15590706514046693721:=0
def tw10190520659810241945:=0
def tw6710913733385305881:=0
def tw3033117398391978809:=0
def tw2039363228980370265:=0
def tw17604027145825018873:=0
def tw8509326172248991834:=0
def tw12340828152963023962:=0
def tw10435004913625267354:=0
def tw9911564051233333434:=0
def tw447465689993814234:=0
def tw9545997112572684570:=0
def tw17044419255535716698:=0
def tw5031481129695971674:=0
def tw5470496857220789594:=0
def tw9490277545436218810:=0
def tw2001091011564112314:=0
def tw8249401585170359002:=0
def tw13921770460863540954:=0
def tw9175286430411904858:=0
def tw13830005019509231546:=0
def tw18307541639072314395:=0
def tw7342619806500094011:=0
def tw3187467778448709755:=0
def tw248967531783955643:=0
def tw3126282037267196091:=0
def tw8203364007710984443:=0
def tw12247914362385301787:=0
def tw14954081925351423259:=0
def tw16751951867129973051:=0
def tw17387206222448053627:=0
def tw8351450014446970267:=0
def tw7397363920266648987:=0
def tw4823639915780184507:=0
def tw17829749461659323867:=0
def tw8198916581845075451:=0
def tw11759014345503237691:=0
def tw613766120250835579:=0
def tw10046282935777404571:=0
def tw11983847891600737083:=0
def tw10157770562917164923:=0
def tw18132340577493223355:=0
def tw16200634730708073403:=0
def tw14593332722538032123:=0
def tw13942072374549773307:=0
def tw5451262503534507068:=0
def tw6309399979988331612:=0
def tw14439632470129140828:=0
def tw17895286965516803196:=0
def tw8094207843897266300:=0
def tw15188122869907275932:=0
def tw11716990029457690844:=0
def tw18081939400451870972:=0
def tw1080056872009286940:=0
def tw17458977218068347196:=0
def tw11275027165574852988:=0
def tw5690178203366509052:=0
def tw5337895663369228892:=0
def tw17269906823694073628:=0
def tw13459460991343583100:=0
def tw8688430816618078140:=0
def tw367949122370029500:=0
def tw13901584934063982556:=0
def tw5203533037677679677:=0
def tw6165725814505542813:=0
def tw107906034284414173:=0
def tw12822321308894446845:=0
def tw4366019473510389149:=0
def tw9489684552270980541:=0
def tw15861064041316580861:=0
def tw5304698329510126109:=0
def tw3027375348499560157:=0
def tw11918852113003680477:=0
def tw13982353519837713117:=0
def tw8590103562108456701:=0
def tw294569469918052093:=0
def tw13020010348856896317:=0
def tw10272417076285088733:=0
def tw9823110240360862685:=0
def tw1856508453213986813:=0
def tw18135979153215988766:=0
def tw7798632380550146238:=0
def tw2961148190920427998:=0
def tw3271228181246424702:=0
def tw13940527497271380638:=0
def tw1760848896259306174:=0
def tw1627435353176804030:=0
def tw13275786808749126366:=0
def tw3855995410192217886:=0
def tw15641710936533179166:=0
def tw11475664449936332638:=0
def tw15420760273193384958:=0
def tw14240077642720313439:=0
def tw1102978730272987391:=0
def tw9788209952089543967:=0
def tw4267874128349592927:=0
def tw8153267796552480127:=0
def tw9373474155684821407:=0
def tw12614489636725483007:=0
def tw10600577798827406847:=0
def tw18404894627916622399:=0
def tw333237448708969087:=0
def tw7412386314345368255:=0
def tw9758876053175827167:=0
def tw9613890772121288415:=0
def tw5422231861345166111:=0
def tw14441070798159636255:=0
def tw16062288625285511039:=0
def tw18191169129781713823:=0
end PySem.W.Fast
noncomputable def PySem.W.Fast.tw2106212002888183410 : PySem.Program := PySem.Challenge.pw_arrowhall_k16_whole_read_through
theorem PySem.W.Fast.te2106212002888183410 : PySem.Challenge.pw_arrowhall_k16_whole_read_through = PySem.W.Fast.tw2106212002888183410 := rfl
open PySem PySem.W PyProof.Rows
set_option maxRecDepth 100000 in
set_option maxHeartbeats 0 in
theorem PySem.Challenge.cw_arrowhall_k16_whole_read_through_holds : PySem.Challenge.rw_arrowhall_k16_whole_read_through.Holds := by
 w_on;o_law;k_head;(case hw=>w_witness2)
 k_fill
 refine DL.walk (l:=PySem.Challenge.rw_arrowhall_k16_whole_read_through) rfl rfl (fun w h HZ=>PySem.W.kIn_of HZ) ?F
 case F =>
  intro w mg fa h KX G hmg
  apply DL.all_mk DL.law_val KX G hmg
  all_goals try apply DL.AllD.mk
  all_goals try first | apply DL.dx | apply DL.ix
  all_goals try unfold DL.NI
  all_goals try unfold DL.NN
  all_goals try unfold DL.LK
  all_goals try unfold DL.CI
  all_goals try unfold DL.KP
  all_goals try unfold DL.KO
  all_goals try first | k_is | kit_is | k_exc
  all_goals first | decide | exact (fun h=>by cases h)
