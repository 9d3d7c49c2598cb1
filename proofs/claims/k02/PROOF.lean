import PyProof.Rows.All
import Wide.All
import OpenK.AllK
import Wide.FinOn
import Lean
import PyProof.EqAt
import PyProof.EqKinds
import PyProof.TupleCall
import PyProof.NeKinds
import PyProof.ListRange
import PyProof.TupleOfGen
import PyProof.DictRoadsH
import PyProof.Rows.FStr
import PyProof.ExcBaseAll.ValueError
import PyProof.ExcClass2
import PyProof.ExcArgsOwn
import PyProof.ExcAttrAll.ValueError
import KE.KIsAll
import PyProof.RulesAs
import PyProof.NsDelKeeps
import PyProof.WalkInts
import PyProof.Rows.CallKwBuiltin
import KE.KMinKey
import PySem.Challenge.RW_arrowhall_k02_arrows_that_follow
set_option compiler.extract_closed false
set_option genSizeOf false
set_option genInjectivity false
set_option Elab.async false
set_option linter.all false
set_option maxRecDepth 100000
namespace L2
open PySem PySem.Spec PyProof.Rows
noncomputable abbrev Key := Sum Int Str
noncomputable def keyIs : Key → Value → Bool
  | .inl k, v => Value.isInt k v
  | .inr x, v => Value.isStrOf x v
noncomputable def keyH (w : World) : Key → Int
  | .inl k => hashInt k
  | .inr x => hashStr w x
theorem keyIs_shape : ∀ {k : Key} {v : Value}, keyIs k v = true → (∃ i t, k = Sum.inl i ∧ v = Value.int i t) ∨ (∃ x t, k = Sum.inr x ∧ v = Value.str x t)
  | .inl i, v, h => by
    obtain ⟨t, e⟩ := Value.isInt_shape (k := i) (v := v) h
    exact .inl ⟨i, t, rfl, e⟩
  | .inr x, v, h => by
    obtain ⟨t, e⟩ := Value.isStrOf_shape (x := x) (v := v) h
    exact .inr ⟨x, t, rfl, e⟩
theorem key_ll (a b : Int) : decide ((Sum.inl a : Key) = Sum.inl b) = (a == b) := by
  by_cases e : a = b
  · subst e; simp
  · have h : ¬ (Sum.inl a : Key) = Sum.inl b := fun q => e (Sum.inl.inj q)
    rw [decide_eq_false h]
    exact (beq_eq_false_iff_ne.mpr e).symm
theorem key_rr (a b : Str) : decide ((Sum.inr a : Key) = Sum.inr b) = decide (a = b) := by
  by_cases e : a = b
  · subst e; simp
  · have h : ¬ (Sum.inr a : Key) = Sum.inr b := fun q => e (Sum.inr.inj q)
    rw [decide_eq_false h, decide_eq_false e]
theorem key_lr (a : Int) (b : Str) : decide ((Sum.inl a : Key) = Sum.inr b) = false := decide_eq_false (fun q => nomatch q)
theorem key_rl (a : Str) (b : Int) : decide ((Sum.inr a : Key) = Sum.inl b) = false := decide_eq_false (fun q => nomatch q)
noncomputable def mixKind (prog : Program) (w : World) : PySem.KeyKind prog w Key where
  is := keyIs
  hash := keyH w
  inj := fun v a b ha hb => by
    rcases keyIs_shape ha with ⟨i, t, rfl, rfl⟩ | ⟨x, t, rfl, rfl⟩
    · rcases keyIs_shape hb with ⟨j, u, rfl, e⟩ | ⟨y, u, rfl, e⟩
      · injection e with e1 _; rw [e1]
      · exact nomatch e
    · rcases keyIs_shape hb with ⟨j, u, rfl, e⟩ | ⟨y, u, rfl, e⟩
      · exact nomatch e
      · injection e with e1 _; rw [e1]
  byValue := fun k v h => by
    rcases keyIs_shape h with ⟨i, t, rfl, rfl⟩ | ⟨x, t, rfl, rfl⟩ <;> rfl
  pyHash := fun hv h => by
    rcases keyIs_shape hv with ⟨i, t, rfl, rfl⟩ | ⟨x, t, rfl, rfl⟩
    · exact wpAny_pyHash_int h
    · exact wpAny_pyHash_str h
  eqBool := fun hu hv h => by
    rcases keyIs_shape hu with ⟨i, t, rfl, rfl⟩ | ⟨x, t, rfl, rfl⟩
    · rcases keyIs_shape hv with ⟨j, u, rfl, rfl⟩ | ⟨y, u, rfl, rfl⟩
      · rw [key_ll] at h; exact wpAny_eqBool_int h
      · rw [key_lr] at h; exact SeqAt.EqAt.int_str i t y u _ _ _ _ h
    · rcases keyIs_shape hv with ⟨j, u, rfl, rfl⟩ | ⟨y, u, rfl, rfl⟩
      · rw [key_rl] at h; exact SeqAt.EqAt.str_int x t j u _ _ _ _ h
      · rw [key_rr] at h; exact wpAny_eqBool_str h
  «strs» := fun k x t v h => by
    rcases keyIs_shape h with ⟨i, u, rfl, e⟩ | ⟨y, u, rfl, e⟩
    · exact nomatch e
    · injection e with e1 _
      subst e1
      cases v <;> rfl
end L2
namespace L2
open PySem PySem.Spec PyProof.Rows
inductive V where
  | non | bl (b : Bool) | int (i : Int) | str (x : Str) | byt (b : Array UInt8) | flt (b : UInt64) | ref (a : Addr) | ty (n : String)
  deriving DecidableEq
noncomputable def RelV : V → Value → Prop
  | .non, u => u = Value.none
  | .bl b, u => u = Value.bool b
  | .int i, u => ∃ t, u = Value.int i t
  | .str x, u => ∃ t, u = Value.str x t
  | .byt b, u => ∃ t, u = Value.bytes b t
  | .flt b, u => ∃ t, u = Value.float b t
  | .ref a, u => u = Value.ref a
  | .ty n, u => u = Value.type n
noncomputable abbrev Vals : List V → List Value → Prop := Paired RelV
theorem Vals.length {xs : List V} {us : List Value} (r : Vals xs us) : xs.length = us.length := Paired.length r
theorem Vals.get : ∀ {xs : List V} {us : List Value} {i : Nat} {x : V}, Vals xs us → xs[i]? = some x → ∃ u, us[i]? = some u ∧ RelV x u
  | _, _, _, _, .nil, e => by simp at e
  | _, _, 0, _, .cons r _, e => by simp at e; subst e; exact ⟨_, rfl, r⟩
  | _, _, i + 1, x, .cons _ t, e => by
    obtain ⟨u, h1, h2⟩ := Vals.get (i := i) (x := x) t (by simpa using e)
    exact ⟨u, by simpa using h1, h2⟩
theorem Vals.append : ∀ {xs ys : List V} {us ws : List Value}, Vals xs us → Vals ys ws → Vals (xs ++ ys) (us ++ ws)
  | _, _, _, _, .nil, s => s
  | _, _, _, _, .cons r t, s => .cons r (Vals.append t s)
theorem Vals.take : ∀ {xs : List V} {us : List Value} (n : Nat), Vals xs us → Vals (xs.take n) (us.take n)
  | _, _, 0, _ => .nil
  | _, _, _ + 1, .nil => .nil
  | _, _, n + 1, .cons r t => .cons r (Vals.take n t)
theorem Vals.drop : ∀ {xs : List V} {us : List Value} (n : Nat), Vals xs us → Vals (xs.drop n) (us.drop n)
  | _, _, 0, r => r
  | _, _, _ + 1, .nil => .nil
  | _, _, n + 1, .cons _ t => Vals.drop n t
noncomputable def RelO : Option V → Option Value → Prop
  | some v, some u => RelV v u
  | none, none => True
  | _, _ => False
noncomputable def KV {κ : Type} : List (κ × V) → List (κ × Value) → Prop := Paired fun (p : κ × V) (q : κ × Value) => p.1 = q.1 ∧ RelV p.2 q.2
noncomputable def kV : Key → V
  | .inl i => .int i
  | .inr x => .str x
inductive HO where
    | lst (xs : List V)
    | tup (xs : List V)
    | dK (kvs : List (Key × V)) | dT (kvs : List (List Key × V))
    | set (S : Int → Bool) (n : Nat)
    | ins (C dx : Addr) (fs : List (Str × V))
    | own (x : Addr)
    | xd (fs : List (Str × V))
    | met (f x : Addr)
    | rng (lo hi : Int)
    | frz (o : Obj) (u : HO)
    | tbl (ps : Array Value)
    | ext (φ : Heap → Prop)
noncomputable abbrev Hp := Addr → Option HO
noncomputable def upd (H : Hp) (a : Addr) (o : HO) : Hp := fun b => if b = a then some o else H b
theorem upd_same {H : Hp} {a : Addr} {o : HO} : upd H a o a = some o := by unfold upd; rw [if_pos rfl]
theorem upd_ne {H : Hp} {a b : Addr} {o : HO} (h : b ≠ a) : upd H a o b = H b := by unfold upd; rw [if_neg h]
theorem ne_of_none {H : Hp} {a b : Addr} {o : HO} (h : H a = some o) (h' : H b = none) : a ≠ b := by
  intro e; subst e; rw [h] at h'; cases h'
section
variable (P : Program) (w : World)
noncomputable def ObjOk (H : Hp) (h : Heap) (a : Addr) : HO → Prop
  | .lst xs => xs.length ≤ sizeLine ∧ ∃ (its : List Value) (n : Nat), Vals xs its ∧ h.get? a = some { cls := .type "list", data := .seq its.toArray n }
  | .tup xs => xs.length ≤ sizeLine ∧ ∃ its : List Value, Vals xs its ∧ IsTup h a its.toArray
  | .dK kvs => kvs.length ≤ sizeLine ∧ (a == sysModules) = false ∧ ∃ vs, KV kvs vs ∧ h.DictOf (mixKind P w) a vs
  | .dT kvs => kvs.length ≤ sizeLine ∧ (a == sysModules) = false ∧ ∃ xs : List (List Key × Addr × Value),
      Paired (fun (p : List Key × V) (q : List Key × Addr × Value) => p.1 = q.1 ∧ H q.2.1 = some (.tup (p.1.map kV)) ∧ RelV p.2 q.2.2) kvs xs ∧
      ∃ o es ep, h.get? a = some o ∧ o.ExactDict ∧ o.data = .dict es ep ∧ es.toList = xs.map (entryOfKey (tupleKind (mixKind P w))) ∧ (xs.map (·.1)).Nodup
  | .set S n => h.SetOf (intKind P w) a S n
  | .ins C dx fs => H dx = some (.own a) ∧ fs.length ≤ 1000 ∧ dx ≠ a ∧ h.get? a = some (PySem.W.instObj C dx) ∧
      ∃ mA, h.Ns1 dx mA ∧ (∀ f, RelO (fs.lookup f) (mA f)) ∧ PySem.Within mA (fs.map (·.1))
  | .own _ => ∃ o, h.get? a = some o
  | .xd fs => ∃ mA, h.Ns1 a mA ∧ ∀ f, RelO (fs.lookup f) (mA f)
  | .rng lo hi => ∃ t u v, h.get? a = some { cls := .type "range", data := .fields #[.int lo t, .int hi u, .int 1 v] }
  | .frz o u => h.get? a = some o ∧ ObjOk H h a u
  | .tbl ps => h.get? a = some { cls := .none, data := .fields ps }
  | .met f x => h.get? a = some (PySem.W.methodObj (.ref f) (.ref x))
  | .ext φ => φ h ∧ (∃ o, h.get? a = some o) ∧ ∀ h1 h2 : Heap, φ h1 → (∀ o, h1.get? a = some o → h2.get? a = some o) → φ h2
noncomputable def HOk (H : Hp) (h : Heap) : Prop := ∀ a o, H a = some o → ObjOk P w H h a o
end
section
variable {P : Program} {w : World} {H H' : Hp} {h h' : Heap} {a : Addr} {o : HO}
theorem ObjOk.lt (x : ObjOk P w H h a o) : a < h.objs.size := by
  cases o with
  | lst xs => obtain ⟨_, _, _, _, e⟩ := x; exact Heap.lt_size e
  | tup xs => obtain ⟨_, _, _, p⟩ := x; exact p.lt
  | dK kvs => obtain ⟨_, _, _, _, o, _, _, e, _⟩ := x; exact Heap.lt_size e
  | dT kvs => obtain ⟨_, _, _, _, o, _, _, e, _⟩ := x; exact Heap.lt_size e
  | set S n => obtain ⟨o, _, _, _, e, _⟩ := x; exact Heap.lt_size e
  | ins C dx fs => obtain ⟨_, _, _, e, _⟩ := x; exact Heap.lt_size e
  | own y => obtain ⟨_, e⟩ := x; exact Heap.lt_size e
  | xd fs => obtain ⟨_, ⟨_, _, _, e, _⟩, _⟩ := x; exact Heap.lt_size e
  | rng lo hi => obtain ⟨_, _, _, e⟩ := x; exact Heap.lt_size e
  | frz ob u => obtain ⟨e, _⟩ := x; exact Heap.lt_size e
  | tbl ps => exact Heap.lt_size (show h.get? a = some _ from x)
  | met f y => exact Heap.lt_size (show h.get? a = some _ from x)
  | ext φ => obtain ⟨_, ⟨_, e⟩, _⟩ := x; exact Heap.lt_size e
theorem Paired.mapP {α β : Type} {F G : α → β → Prop} : ∀ {l₁ : List α} {l₂ : List β}, Paired F l₁ l₂ → (∀ a b, F a b → G a b) → Paired G l₁ l₂
  | _, _, .nil, _ => .nil
  | _, _, .cons r t, f => .cons (f _ _ r) (Paired.mapP t f)
theorem ObjOk.stay (x : ObjOk P w H h a o) (k : ∀ b u, (b = a ∨ H b = some (.own a)) → h.get? b = some u → h'.get? b = some u)
    (ho : ∀ b, H b = some (.own a) → H' b = some (.own a)) (ht : ∀ b xs, H b = some (.tup xs) → H' b = some (.tup xs)) : ObjOk P w H' h' a o := by
  induction o with
  | lst xs => obtain ⟨z, its, n, r, e⟩ := x; exact ⟨z, its, n, r, k _ _ (.inl rfl) e⟩
  | tup xs => obtain ⟨z, its, r, ob, e, c⟩ := x; exact ⟨z, its, r, ob, k _ _ (.inl rfl) e, c⟩
  | dK kvs => obtain ⟨z, y, vs, r, ob, es, ep, e, c⟩ := x; exact ⟨z, y, vs, r, ob, es, ep, k _ _ (.inl rfl) e, c⟩
  | dT kvs =>
    obtain ⟨z, y, xs, r, ob, es, ep, e, c⟩ := x
    exact ⟨z, y, xs, Paired.mapP r fun p q z => ⟨z.1, ht _ _ z.2.1, z.2.2⟩, ob, es, ep, k _ _ (.inl rfl) e, c⟩
  | set S n => obtain ⟨ob, es, ep, t, e, c⟩ := x; exact ⟨ob, es, ep, t, k _ _ (.inl rfl) e, c⟩
  | ins C dx fs =>
    obtain ⟨d, z, ne, e, mA, ⟨od, es, ep, e2, c⟩, r⟩ := x
    exact ⟨ho _ d, z, ne, k _ _ (.inl rfl) e, mA, ⟨od, es, ep, k _ _ (.inr d) e2, c⟩, r⟩
  | own y => obtain ⟨ob, e⟩ := x; exact ⟨ob, k _ _ (.inl rfl) e⟩
  | xd fs => obtain ⟨mA, ⟨od, es, ep, e, c⟩, r⟩ := x; exact ⟨mA, ⟨od, es, ep, k _ _ (.inl rfl) e, c⟩, r⟩
  | rng lo hi => obtain ⟨t, u, v, e⟩ := x; exact ⟨t, u, v, k _ _ (.inl rfl) e⟩
  | frz ob u ih => obtain ⟨e, q⟩ := x; exact ⟨k _ _ (.inl rfl) e, ih q⟩
  | tbl ps =>
    have e : h.get? a = some { cls := .none, data := .fields ps } := x
    show h'.get? a = some { cls := .none, data := .fields ps }
    exact k a _ (.inl rfl) e
  | met f y =>
    have e : h.get? a = some (PySem.W.methodObj (.ref f) (.ref y)) := x
    show h'.get? a = some (PySem.W.methodObj (.ref f) (.ref y))
    exact k a _ (.inl rfl) e
  | ext φ => obtain ⟨p, ⟨o, e⟩, st⟩ := x; exact ⟨st _ _ p fun o q => k _ _ (.inl rfl) q, ⟨o, k _ _ (.inl rfl) e⟩, st⟩
theorem HOk.lt (x : HOk P w H h) (e : H a = some o) : a < h.objs.size := (x a o e).lt
theorem HOk.fresh (x : HOk P w H h) (e : h.objs.size ≤ a) : H a = none := by
  cases q : H a with
  | none => rfl
  | some u => exact absurd (Nat.lt_of_lt_of_le (x.lt q) e) (Nat.lt_irrefl _)
theorem HOk.kept (x : HOk P w H h) (k : ∀ b u, h.get? b = some u → h'.get? b = some u) : HOk P w H h' := fun a o e =>
  (x a o e).stay (fun b u _ q => k b u q) (fun _ q => q) fun _ _ q => q
theorem HOk.laid (x : HOk P w H h) (k : ∀ b u, h.get? b = some u → h'.get? b = some u) (hp : h.objs.size ≤ a) (new : ObjOk P w (upd H a o) h' a o) : HOk P w (upd H a o) h' := fun b u e => by
  have hn := x.fresh hp
  by_cases hb : b = a
  · subst hb; rw [upd_same] at e; cases e; exact new
  · rw [upd_ne hb] at e
    exact (x b u e).stay (fun c v _ q => k c v q) (fun c q => by rw [upd_ne (ne_of_none q hn)]; exact q) fun c xs q => by rw [upd_ne (ne_of_none q hn)]; exact q
end
noncomputable def Rd (H : Hp) (a : Addr) (u : HO) : Prop := H a = some u ∨ ∃ o, H a = some (.frz o u)
theorem Rd.ok {P : Program} {w : World} {H : Hp} {h : Heap} {a : Addr} {u : HO} (r : Rd H a u) (x : HOk P w H h) : ObjOk P w H h a u := by
  rcases r with r | ⟨o, r⟩
  · exact x a u r
  · obtain ⟨_, q⟩ := x a _ r
    exact q
noncomputable def Mut : Option HO → Prop
  | some (.lst _) => True
  | some (.dK _) => True
  | some (.dT _) => True
  | some (.set _ _) => True
  | some (.ins _ _ _) => True
  | some (.ext _) => True
  | _ => False
section
variable {P : Program} {w : World} {H : Hp} {h h' : Heap} {x e : Addr} {o' : HO}
theorem HOk.write (ok : HOk P w H h) (mu : Mut (H x)) (he : e = x ∨ H e = some (.own x)) (k : ∀ b u, b ≠ e → h.get? b = some u → h'.get? b = some u) (heo : ∃ u, h'.get? e = some u)
    (new : ObjOk P w (upd H x o') h' x o') : HOk P w (upd H x o') h' := fun b u q => by
  have nown : ∀ c y, H c = some (.own y) → c ≠ x := fun c y r z => by subst z; rw [r] at mu; exact mu
  have ntup : ∀ c xs, H c = some (.tup xs) → c ≠ x := fun c xs r z => by subst z; rw [r] at mu; exact mu
  by_cases hb : b = x
  · subst hb; rw [upd_same] at q; cases q; exact new
  · rw [upd_ne hb] at q
    by_cases hbe : b = e
    · have q' : H b = some (.own x) := by
        rcases he with z | z
        · exact absurd (hbe.trans z) hb
        · rw [hbe]; exact z
      rw [q] at q'; cases q'
      obtain ⟨v, hv⟩ := heo
      exact ⟨v, by rw [hbe]; exact hv⟩
    · refine (ok b u q).stay (fun c v hc r => k c v ?_ r) (fun c r => by rw [upd_ne (nown c b r)]; exact r) fun c xs r => by rw [upd_ne (ntup c xs r)]; exact r
      rcases hc with rfl | hc
      · exact hbe
      · rintro rfl
        rcases he with z | z
        · exact nown c b hc z
        · rw [hc] at z; cases z; exact hb rfl
end
structure Un (fs ex : List Addr) (H H' : Hp) (h h' : Heap) : Prop where
  keep : ∀ b o, h.get? b = some o → H b = none → b ∉ fs → b ∉ ex → h'.get? b = some o
  slot : ∀ b o, h.get? b = some o → H b = none → b ∈ fs → b ∉ ex → ∃ sl, h'.get? b = some { o with slots := sl }
  free : ∀ b o, h.get? b = some o → H b = none → b ∉ ex → H' b = none
  there : ∀ b o, h.get? b = some o → b ∉ ex → ∃ o', h'.get? b = some o'
  tups : ∀ b xs, H b = some (.tup xs) → H' b = some (.tup xs)
  frzs : ∀ b o u, H b = some (.frz o u) → H' b = some (.frz o u)
  tbls : ∀ b ps, H b = some (.tbl ps) → ∃ more, H' b = some (.tbl (ps ++ more))
section
variable {fs fs' ex ex' : List Addr} {H H1 H2 : Hp} {h h1 h2 h' : Heap} {a x e : Addr} {o : HO}
theorem Un.any (u : Un fs ex H H1 h h1) {b : Addr} {ob : Obj} (q : h.get? b = some ob) (n : H b = none) (hx : b ∉ ex) : ∃ sl, h1.get? b = some { ob with slots := sl } := by
  by_cases hb : b ∈ fs
  · exact u.slot b ob q n hb hx
  · exact ⟨ob.slots, u.keep b ob q n hb hx⟩
theorem Un.kept (k : ∀ b u, h.get? b = some u → h'.get? b = some u) : Un fs ex H H h h' :=
  ⟨fun b ob q _ _ _ => k b ob q, fun b ob q _ _ _ => ⟨ob.slots, k b ob q⟩, fun _ _ _ n _ => n, fun b ob q _ => ⟨ob, k b ob q⟩, fun _ _ q => q, fun _ _ _ q => q, fun _ ps q => ⟨#[], by rw [q]; simp⟩⟩
theorem Un.refl : Un fs ex H H h h := Un.kept fun _ _ q => q
theorem Un.laid (k : ∀ b u, h.get? b = some u → h'.get? b = some u) (hp : h.objs.size ≤ a) (hn : H a = none) : Un fs ex H (upd H a o) h h' where
  keep := fun b u q _ _ _ => k b u q
  slot := fun b u q _ _ _ => ⟨u.slots, k b u q⟩
  free := fun b u q n _ => by rw [upd_ne (Nat.ne_of_lt (Nat.lt_of_lt_of_le (Heap.lt_size q) hp))]; exact n
  there := fun b u q _ => ⟨u, k b u q⟩
  tups := fun b xs q => by rw [upd_ne (ne_of_none q hn)]; exact q
  frzs := fun b u xs q => by rw [upd_ne (ne_of_none q hn)]; exact q
  tbls := fun b ps q => ⟨#[], by rw [upd_ne (ne_of_none q hn), q]; simp⟩
theorem Un.write (mu : Mut (H x)) (he : e = x ∨ H e = some (.own x)) (k : ∀ b u, b ≠ e → h.get? b = some u → h'.get? b = some u) (heo : ∃ u, h'.get? e = some u) : Un fs ex H (upd H x o) h h' := by
  have hx : ∀ b, H b = none → b ≠ x := fun b n z => by subst z; rw [n] at mu; exact mu
  have hb : ∀ b, H b = none → b ≠ e := fun b n z => by
    subst z
    rcases he with r | r
    · exact hx b n r
    · rw [n] at r; cases r
  have hm : ∀ b u, H b = some u → ¬ Mut (some u) → b ≠ x := fun b u q nm z => by subst z; rw [q] at mu; exact nm mu
  refine ⟨fun b u q n _ _ => k b u (hb b n) q, fun b u q n _ _ => ⟨u.slots, k b u (hb b n) q⟩, fun b u q n _ => by rw [upd_ne (hx b n)]; exact n, fun b u q _ => ?_,
    fun b xs q => by rw [upd_ne (hm b _ q fun z => z)]; exact q, fun b u xs q => by rw [upd_ne (hm b _ q fun z => z)]; exact q, fun b ps q => ⟨#[], by rw [upd_ne (hm b _ q fun z => z), q]; simp⟩⟩
  by_cases hbe : b = e
  · subst hbe; exact heo
  · exact ⟨u, k b u hbe q⟩
end
noncomputable def trk (h : Heap) (H : Hp) : List Addr := (List.range h.objs.size).filter fun a => (H a).isSome
noncomputable def hidT (h : Heap) (H : Hp) : Heap := PySem.W.hideAll h (trk h H)
theorem hidT_size (h : Heap) (H : Hp) : (hidT h H).objs.size = h.objs.size := PySem.W.hideAll_size _ _
theorem hidT_get {h : Heap} {H : Hp} {b : Addr} {o : Obj} (e : h.get? b = some o) (n : H b = none) : (hidT h H).get? b = some o :=
  PySem.W.hideAll_get _ e fun hm => by
    have q : (H b).isSome = true := (List.mem_filter.mp hm).2
    rw [n] at q; simp at q
theorem of_hidT {h : Heap} {H : Hp} {b : Addr} {o : Obj} (e : (hidT h H).get? b = some o) : h.get? b = some o ∧ H b = none := by
  have e' : h.get? b = some o := PySem.W.of_hideAll (trk h H) e
  refine ⟨e', ?_⟩
  cases q : H b with
  | none => rfl
  | some x =>
    have hm : b ∈ trk h H := List.mem_filter.mpr ⟨List.mem_range.mpr (Heap.lt_size e'), by simp [q]⟩
    have z : (hidT h H).get? b = none := PySem.W.hideAll_none (trk h H) hm
    rw [z] at e; cases e
end L2
namespace L2
open PySem PySem.Spec PyProof.Rows
structure Mod (K : PySem.W.Frag) (mg : Str → Option Value) (base : Heap) : Prop where
  kin : K.In base
  glob : base.Ns mainGlobals mg
  blt : ∃ mb, base.Ns builtinsNs mb ∧ ∀ x : Str, x ≠ "__name__" → mb x = bootBuiltins x
  nolimit : base.NoLimit
structure Cx where
  prog : Program
  w : World
  K : PySem.W.Frag
  mg : Str → Option Value
  base : Heap
  A : Around
  N : List Str
  s₀ : Shared
  H₀ : Hp
  env : Env
  outer : List Env
  stack : List Env
  ex : List Addr
  fn : Str → Bool
  calm : Bool
  pn : List (Addr × Obj)
  xe : Value → Shared → Prop
noncomputable def frs (l : List Env) : List Addr := l.filterMap (·.frame)
noncomputable abbrev Cx.fs (X : Cx) : List Addr := frs X.outer
noncomputable def Vis (sc : Scope) (x : Str) : Prop := sc.names.lookup x = some .local ∨ sc.names.lookup x = some .cell ∨ sc.names.lookup x = some .free
noncomputable def Loc (sc : Scope) (x : Str) : Prop := sc.names.lookup x = some .local ∨ sc.names.lookup x = some .cell
noncomputable def Look (env : Env) (h : Heap) (m : Str → Option Value) (x : Str) (u : Value) : Prop :=
  (env.kindOf x = some .local ∧ m x = some u) ∨ ((env.kindOf x = some .cell ∨ env.kindOf x = some .free) ∧ ∃ c, env.cells.lookup x = some c ∧ h.IsCell c (some u))
structure Cx.Ok (X : Cx) : Prop where
  mod : Mod X.K X.mg X.base
  kind : X.env.scope.kind = .function
  glob : X.env.globals = mainGlobals
  blt : X.env.builtins = builtinsNs
  above : X.s₀.heap.objs.size ≤ X.env.locals
  inj : ∀ x y c, X.env.cells.lookup x = some c → X.env.cells.lookup y = some c → x = y
  has : ∀ x, (X.env.kindOf x = some .cell ∨ X.env.kindOf x = some .free) → ∃ c, X.env.cells.lookup x = some c
  cab : ∀ x c, X.fn x = true → X.env.cells.lookup x = some c → X.s₀.heap.objs.size ≤ c
  hd : X.calm = true → X.A.handled = none
  frames : X.A.frames = some X.stack
  stk : X.stack = X.outer ∨ (X.stack = X.env :: X.outer ∧ X.env.frame = some X.env.locals)
  exf : ∀ b ∈ X.ex, b ≠ X.env.locals ∧ ∀ x c, X.env.cells.lookup x = some c → c ≠ b
  bs : ∀ b o, X.base.get? b = some o → X.s₀.heap.get? b = some o ∧ X.H₀ b = none
  bsz : X.base.objs.size ≤ X.s₀.heap.objs.size
  noex : ∀ b o, X.base.get? b = some o → b ∉ X.ex
  exfs : ∀ b ∈ X.ex, b ∉ X.fs
  funs : X.s₀.heap.FunFrames X.base X.outer
  frf : ∀ b ∈ X.fs, X.H₀ b = none
structure Inv (X : Cx) (pins : List (Addr × Obj)) (σ : List (Option V)) (H : Hp) (s : Shared) : Prop where
  ok : X.Ok
  os : s.os = X.s₀.os
  bare : AllBare s.gens
  base : Un X.fs X.ex X.H₀ H X.s₀.heap s.heap
  loc : ∃ m, s.heap.Ns X.env.locals m ∧ ∀ (i : Nat) (x : Str) (v : V), X.N[i]? = some x → σ[i]? = some (some v) → Vis X.env.scope x → ∃ u, RelV v u ∧ Look X.env s.heap m x u
  cell : ∀ x c, X.env.cells.lookup x = some c → ∃ v, s.heap.IsCell c v
  free : H X.env.locals = none
  freeC : ∀ x c, X.env.cells.lookup x = some c → H c = none
  pin : ∀ p ∈ X.pn ++ pins, s.heap.get? p.1 = some p.2 ∧ H p.1 = none ∧ p.1 ≠ X.env.locals ∧ p.1 ∉ X.fs ∧ ∀ v, p.2.data ≠ .cell v
  hok : HOk X.prog X.w H s.heap
  len : σ.length = X.N.length
section
variable {X : Cx} {pins : List (Addr × Obj)} {σ : List (Option V)} {H H' : Hp} {s : Shared} {h' : Heap}
theorem Cx.Ok.nofr (ok : X.Ok) {b : Addr} {o : Obj} (e : X.base.get? b = some o) : b ∉ X.fs := fun hb => by
  have := (ok.funs.mem hb).1
  rw [e] at this; cases this
theorem Inv.bs (I : Inv X pins σ H s) : ∀ b o, X.base.get? b = some o → s.heap.get? b = some o ∧ H b = none := fun b o e =>
  ⟨I.base.keep b o (I.ok.bs b o e).1 (I.ok.bs b o e).2 (I.ok.nofr e) (I.ok.noex b o e), I.base.free b o (I.ok.bs b o e).1 (I.ok.bs b o e).2 (I.ok.noex b o e)⟩
theorem Inv.bk (I : Inv X pins σ H s) : ∀ b o, X.base.get? b = some o → s.heap.get? b = some o := fun b o e => (I.bs b o e).1
theorem Inv.mod (I : Inv X pins σ H s) : Mod X.K X.mg X.base := I.ok.mod
theorem Inv.kIn (I : Inv X pins σ H s) : X.K.In s.heap := I.ok.mod.kin.keeps I.bk
theorem Inv.lt (I : Inv X pins σ H s) : X.env.locals < s.heap.objs.size := let ⟨_, hn, _⟩ := I.loc; hn.lt
theorem Inv.sz (I : Inv X pins σ H s) : X.s₀.heap.objs.size ≤ s.heap.objs.size := Nat.le_trans I.ok.above (Nat.le_of_lt I.lt)
theorem Inv.nofs (I : Inv X pins σ H s) {a : Addr} (h : s.heap.objs.size ≤ a) : a ∉ X.fs := fun hb => by
  obtain ⟨_, o, ho, _⟩ := I.ok.funs.mem hb
  exact absurd (Nat.lt_of_lt_of_le (Heap.lt_size ho) (Nat.le_trans I.sz h)) (Nat.lt_irrefl _)
theorem Inv.cne (I : Inv X pins σ H s) : ∀ x c, X.env.cells.lookup x = some c → c ≠ X.env.locals := fun x c e z => by
  obtain ⟨v, o, ho, hd⟩ := I.cell x c e
  obtain ⟨m, ⟨o', es, ep, ho', hd', _⟩, _⟩ := I.loc
  rw [z, ho'] at ho; cases ho; rw [hd'] at hd; cases hd
theorem Inv.funs (I : Inv X pins σ H s) : s.heap.FunFrames X.base X.outer := by
  have all : ∀ (l : List Env), (∀ b ∈ frs l, b ∈ X.fs) → X.s₀.heap.FunFrames X.base l → s.heap.FunFrames X.base l := by
    intro l
    induction l with
    | nil => intro _ _; trivial
    | cons env r ih =>
      intro hs hl
      obtain ⟨hk, ⟨L, o, hf, hn, ho, hd⟩, hr⟩ := hl
      have hL : L ∈ X.fs := hs L (by unfold frs; rw [List.filterMap_cons, hf]; exact List.mem_cons_self)
      obtain ⟨sl, e⟩ := I.base.slot L o ho (I.ok.frf L hL) hL fun z => I.ok.exfs L z hL
      exact ⟨hk, ⟨L, _, hf, hn, e, hd⟩, ih (fun b hb => hs b (by unfold frs; rw [List.filterMap_cons, hf]; exact List.mem_cons_of_mem _ hb)) hr⟩
  exact all X.outer (fun _ hb => hb) I.ok.funs
theorem Inv.stack (I : Inv X pins σ H s) : s.heap.FunFrames X.base X.stack := by
  rcases I.ok.stk with e | ⟨e, hf⟩
  · rw [e]; exact I.funs
  · rw [e]
    obtain ⟨m, hn, _⟩ := I.loc
    refine .cons (by rw [I.ok.kind]; decide) hf hn ?_ I.funs
    exact Heap.get?_none_of_le (Nat.le_trans I.ok.bsz I.ok.above)
theorem Inv.stkSub (I : Inv X pins σ H s) : ∀ b ∈ frs X.stack, b ∈ X.env.locals :: X.fs := fun b hb => by
  rcases I.ok.stk with e | ⟨e, hf⟩
  · rw [e] at hb; exact List.mem_cons_of_mem _ hb
  · rw [e] at hb
    unfold frs at hb
    rw [List.filterMap_cons, hf] at hb
    exact hb
theorem Inv.stkFree (I : Inv X pins σ H s) : ∀ b ∈ frs X.stack, H b = none := fun b hb => by
  rcases List.mem_cons.mp (I.stkSub b hb) with e | hb
  · rw [e]; exact I.free
  · obtain ⟨_, o, ho, _⟩ := I.ok.funs.mem hb
    exact I.base.free b o ho (I.ok.frf b hb) fun z => I.ok.exfs b z hb
theorem Inv.step {g' : Array GenState} {t' : Nat} {d' : Drawn} {ch : List Addr} (I : Inv X pins σ H s)
    (hch : ∀ b ∈ ch, (b ∈ X.ex ∨ X.s₀.heap.objs.size ≤ b) ∧ b ≠ X.env.locals ∧ (∀ x c, X.env.cells.lookup x = some c → c ≠ b) ∧ ∀ p ∈ X.pn ++ pins, p.1 ≠ b)
    (keep : ∀ b o, b ≠ X.env.locals → b ∉ X.fs → b ∉ ch → s.heap.get? b = some o → H b = none → h'.get? b = some o)
    (slot : ∀ b o, b ≠ X.env.locals → b ∈ X.fs → b ∉ ch → s.heap.get? b = some o → H b = none → ∃ sl, h'.get? b = some { o with slots := sl }) (free : ∀ b o, b ∉ ch → s.heap.get? b = some o → H b = none → H' b = none)
    (there : ∀ b o, b ∉ ch → s.heap.get? b = some o → ∃ o', h'.get? b = some o')
    (tups : ∀ b xs, H b = some (.tup xs) → H' b = some (.tup xs)) (frzs : ∀ b o u, H b = some (.frz o u) → H' b = some (.frz o u)) (tbls : ∀ b ps, H b = some (.tbl ps) → ∃ more, H' b = some (.tbl (ps ++ more)))
    (ns : ∀ m, s.heap.Ns X.env.locals m → h'.Ns X.env.locals m) (hok : HOk X.prog X.w H' h') (hg : AllBare g') :
    Inv X pins σ H' { s with heap := h', gens := g', drawn := d', toks := t' } := by
  have neL : ∀ b o, X.s₀.heap.get? b = some o → b ≠ X.env.locals := fun b o e => Nat.ne_of_lt (Nat.lt_of_lt_of_le (Heap.lt_size e) I.ok.above)
  have neC : ∀ b o, X.s₀.heap.get? b = some o → b ∉ X.ex → b ∉ ch := fun b o e hx hb => by
    rcases (hch b hb).1 with z | z
    · exact hx z
    · exact absurd (Nat.lt_of_lt_of_le (Heap.lt_size e) z) (Nat.lt_irrefl _)
  have cellK : ∀ x c, X.env.cells.lookup x = some c → ∀ v, s.heap.IsCell c v → h'.IsCell c v := fun x c e v zz0 => by
    obtain ⟨o, ho, hd⟩ := zz0
    have nch : c ∉ ch := fun z => (hch c z).2.2.1 x c e rfl
    by_cases hc : c ∈ X.fs
    · obtain ⟨sl, q⟩ := slot c o (I.cne x c e) hc nch ho (I.freeC x c e)
      exact ⟨_, q, hd⟩
    · exact ⟨o, keep c o (I.cne x c e) hc nch ho (I.freeC x c e), hd⟩
  refine ⟨I.ok, I.os, hg, ⟨fun b o e n hb hx => ?_, fun b o e n hb hx => ?_, fun b o e n hx => ?_, fun b o e hx => ?_, fun b xs e => tups b xs (I.base.tups b xs e), fun b o xs e => frzs b o xs (I.base.frzs b o xs e), fun b ps e => ?_⟩, ?_, fun x c e => ?_, ?_, fun x c e => ?_, fun p hp => ?_, hok, I.len⟩
  · exact keep b o (neL b o e) hb (neC b o e hx) (I.base.keep b o e n hb hx) (I.base.free b o e n hx)
  · obtain ⟨sl, e1⟩ := I.base.slot b o e n hb hx
    obtain ⟨sl', e2⟩ := slot b _ (neL b o e) hb (neC b o e hx) e1 (I.base.free b o e n hx)
    exact ⟨sl', e2⟩
  · obtain ⟨o', e1⟩ := I.base.there b o e hx
    exact free b o' (neC b o e hx) e1 (I.base.free b o e n hx)
  · obtain ⟨o', e1⟩ := I.base.there b o e hx
    exact there b o' (neC b o e hx) e1
  · obtain ⟨m1, e1⟩ := I.base.tbls b ps e
    obtain ⟨m2, e2⟩ := tbls b _ e1
    exact ⟨m1 ++ m2, by rw [e2, Array.append_assoc]⟩
  · obtain ⟨m, hn, hl⟩ := I.loc
    refine ⟨m, ns m hn, fun i x v e1 e2 e3 => ?_⟩
    obtain ⟨u, r, l⟩ := hl i x v e1 e2 e3
    refine ⟨u, r, ?_⟩
    rcases l with l | ⟨k, c, e, z⟩
    · exact .inl l
    · exact .inr ⟨k, c, e, cellK x c e _ z⟩
  · obtain ⟨v, z⟩ := I.cell x c e
    exact ⟨v, cellK x c e v z⟩
  · obtain ⟨m, ⟨o, _, _, ho, _⟩, _⟩ := I.loc
    exact free _ o (fun z => (hch _ z).2.1 rfl) ho I.free
  · obtain ⟨v, o, ho, hd⟩ := I.cell x c e
    exact free c o (fun z => (hch c z).2.2.1 x c e rfl) ho (I.freeC x c e)
  · obtain ⟨e, n, ne, nf, d⟩ := I.pin p hp
    have nch : p.1 ∉ ch := fun z => (hch p.1 z).2.2.2 p hp rfl
    exact ⟨keep p.1 p.2 ne nf nch e n, free p.1 p.2 nch e n, ne, nf, d⟩
theorem Inv.un {t' : Nat} (I : Inv X pins σ H s) (u : Un X.fs [] H H' s.heap h') (hok : HOk X.prog X.w H' h') : Inv X pins σ H' { s with heap := h', toks := t' } := by
  obtain ⟨m, ⟨o, es, ep, ho, r⟩, _⟩ := id I.loc
  obtain ⟨sl, hL⟩ := u.any ho I.free (by simp)
  exact I.step (g' := s.gens) (d' := s.drawn) (ch := []) (fun _ z => nomatch z) (fun b o _ hb _ e n => u.keep b o e n hb (by simp)) (fun b o _ hb _ e n => u.slot b o e n hb (by simp)) (fun b o _ e n => u.free b o e n (by simp)) (fun b o _ e => u.there b o e (by simp)) u.tups u.frzs u.tbls (fun m' hm => by
    obtain ⟨o', es', ep', ho', r'⟩ := hm
    rw [ho] at ho'; cases ho'
    exact ⟨_, es', ep', hL, r'⟩) hok I.bare
theorem Inv.call {g' : Array GenState} {t' : Nat} {d' : Drawn} {ch : List Addr} (I : Inv X pins σ H s) (u : Un (frs X.stack) ch H H' s.heap h') (hok : HOk X.prog X.w H' h') (hg : AllBare g')
    (hch : ∀ b ∈ ch, (b ∈ X.ex ∨ X.s₀.heap.objs.size ≤ b) ∧ b ≠ X.env.locals ∧ (∀ x c, X.env.cells.lookup x = some c → c ≠ b) ∧ ∀ p ∈ X.pn ++ pins, p.1 ≠ b) :
    Inv X pins σ H' { s with heap := h', gens := g', drawn := d', toks := t' } := by
  obtain ⟨m, ⟨o, es, ep, ho, r⟩, _⟩ := id I.loc
  obtain ⟨sl, hL⟩ := u.any ho I.free fun z => (hch _ z).2.1 rfl
  exact I.step (ch := ch) hch (fun b o hL hb hc e n => u.keep b o e n (fun z => (List.mem_cons.mp (I.stkSub b z)).elim hL hb) hc) (fun b o _ _ hc e n => u.any e n hc) (fun b o hc e n => u.free b o e n hc) (fun b o hc e => u.there b o e hc) u.tups u.frzs u.tbls (fun m' hm => by
    obtain ⟨o', es', ep', ho', r'⟩ := hm
    rw [ho] at ho'; cases ho'
    exact ⟨_, es', ep', hL, r'⟩) hok hg
theorem Inv.turned {t' : Nat} {it : Addr} (I : Inv X pins σ H s) (k : ∀ b o, b ≠ it → s.heap.get? b = some o → h'.get? b = some o) (hn : H it = none) (hL : it ≠ X.env.locals)
    (h1 : it ∈ X.ex ∨ X.s₀.heap.objs.size ≤ it) (h2 : ∀ x c, X.env.cells.lookup x = some c → c ≠ it) (h3 : ∀ p ∈ X.pn ++ pins, p.1 ≠ it) : Inv X pins σ H { s with heap := h', toks := t' } := by
  have nit : ∀ b u, H b = some u → b ≠ it := fun b u e z => by rw [z, hn] at e; cases e
  refine I.step (g' := s.gens) (d' := s.drawn) (ch := [it]) (fun b hb => ?_) (fun b o _ _ hc e _ => k b o (fun z => hc (by simp [z])) e) (fun b o _ _ hc e _ => ⟨o.slots, k b o (fun z => hc (by simp [z])) e⟩) (fun _ _ _ _ n => n)
    (fun b o hc e => ⟨o, k b o (fun z => hc (by simp [z])) e⟩) (fun _ _ e => e) (fun _ _ _ e => e) (fun b ps e => ⟨#[], by rw [e]; simp⟩) (fun m hm => ?_) (fun b u e => ?_) I.bare
  · have e : b = it := by simpa using hb
    subst e
    exact ⟨h1, hL, h2, h3⟩
  · obtain ⟨o, es, ep, ho, r⟩ := hm
    exact ⟨o, es, ep, k _ o (Ne.symm hL) ho, r⟩
  · refine (I.hok b u e).stay (fun c v hc q => k c v ?_ q) (fun _ q => q) fun _ _ q => q
    rcases hc with z | z
    · rw [z]; exact nit b u e
    · exact nit c _ z
theorem Inv.tok (I : Inv X pins σ H s) (t : Nat) : Inv X pins σ H { s with toks := t } := I.un (h' := s.heap) (t' := t) Un.refl I.hok
theorem Inv.kept {t' : Nat} (I : Inv X pins σ H s) (k : ∀ b u, s.heap.get? b = some u → h'.get? b = some u) : Inv X pins σ H { s with heap := h', toks := t' } := I.un (Un.kept k) (I.hok.kept k)
theorem Inv.laid {a : Addr} {o : HO} {t' : Nat} (I : Inv X pins σ H s) (k : ∀ b u, s.heap.get? b = some u → h'.get? b = some u) (hp : s.heap.objs.size ≤ a) (new : ObjOk X.prog X.w (upd H a o) h' a o) :
    Inv X pins σ (upd H a o) { s with heap := h', toks := t' } := I.un (Un.laid k hp (I.hok.fresh hp)) (I.hok.laid k hp new)
theorem Inv.write {x e : Addr} {o : HO} {t' : Nat} (I : Inv X pins σ H s) (mu : Mut (H x)) (he : e = x ∨ H e = some (.own x)) (k : ∀ b u, b ≠ e → s.heap.get? b = some u → h'.get? b = some u) (heo : ∃ u, h'.get? e = some u)
    (new : ObjOk X.prog X.w (upd H x o) h' x o) : Inv X pins σ (upd H x o) { s with heap := h', toks := t' } := I.un (Un.write mu he k heo) (I.hok.write mu he k heo new)
theorem Inv.pins_of {pins' : List (Addr × Obj)} (I : Inv X pins σ H s) (h : ∀ p ∈ pins', s.heap.get? p.1 = some p.2 ∧ H p.1 = none ∧ p.1 ≠ X.env.locals ∧ p.1 ∉ X.fs ∧ ∀ v, p.2.data ≠ .cell v) : Inv X pins' σ H s :=
  ⟨I.ok, I.os, I.bare, I.base, I.loc, I.cell, I.free, I.freeC, fun p hp => (List.mem_append.mp hp).elim (fun z => I.pin p (List.mem_append_left _ z)) (h p), I.hok, I.len⟩
theorem nodup_ix {N : List Str} (hN : N.Nodup) {i j : Nat} {x : Str} (a : N[i]? = some x) (b : N[j]? = some x) : i = j := by
  obtain ⟨h1, e1⟩ := List.getElem?_eq_some_iff.mp a
  obtain ⟨h2, e2⟩ := List.getElem?_eq_some_iff.mp b
  exact (List.getElem_inj hN).mp (e1.trans e2.symm)
theorem store_ok2 {M : Model} {A : Around} {E : Value → Shared → Prop} {i : Nat} {x : Str} {v : V} {u : Value} {Q : Unit → Shared → Prop} (I : Inv X pins σ H s) (hN : X.N.Nodup) (hi : X.N[i]? = some x) (hx : Loc X.env.scope x) (r : RelV v u)
    (h : ∀ s', Inv X pins (σ.set i (some v)) H s' → (∃ a, Heap.SameBut a s.heap s'.heap ∧ (a = X.env.locals ∨ X.env.cells.lookup x = some a)) → Q () s') (hf : X.fn x = true ∨ X.env.scope.names.lookup x = some .local := by first | exact .inl rfl | exact .inr rfl | assumption) : wpAny M A (storeName X.env x u) Q E s := by
  obtain ⟨m, hn, hl⟩ := id I.loc
  have hcls : (X.env.scope.kind == .class || (X.env.scope.kind == .module && X.env.locals != X.env.globals)) = false := by rw [I.ok.kind]; rfl
  have hiσ : i < σ.length := by rw [I.len]; exact (List.getElem?_eq_some_iff.mp hi).1
  have cne := I.cne
  have tracked : ∀ {a : Addr} {h' : Heap}, (∃ o, s.heap.get? a = some o ∧ H a = none) → Heap.SameBut a s.heap h' → HOk X.prog X.w H h' := fun {a h'} ha hs b ob e => by
    obtain ⟨_, _, hfree⟩ := ha
    refine (I.hok b ob e).stay (fun c w' hc q => (hs.2 c ?_).trans q) (fun _ q => q) fun _ _ q => q
    rintro rfl
    rcases hc with rfl | hc
    · rw [hfree] at e; cases e
    · rw [hfree] at hc; cases hc
  rcases hx with hk | hk
  · refine wpAny_storeName_local hk hn (fun h' hn' hs => ?_) hcls
    obtain ⟨oL, _, _, hoL, _⟩ := id hn
    refine h _ ⟨I.ok, I.os, I.bare, ⟨fun b o e n hb hx => ?_, fun b o e n hb hx => ?_, I.base.free, fun b o e hx => ?_, I.base.tups, I.base.frzs, I.base.tbls⟩, ⟨_, hn', fun j y v' e1 e2 e3 => ?_⟩, fun y c e => ?_, I.free, I.freeC, fun p hp => ?_, tracked ⟨oL, hoL, I.free⟩ hs, by simpa using I.len⟩ ⟨_, hs, .inl rfl⟩
    · exact (hs.2 b (Nat.ne_of_lt (Nat.lt_of_lt_of_le (Heap.lt_size e) I.ok.above))).trans (I.base.keep b o e n hb hx)
    · obtain ⟨sl, e1⟩ := I.base.slot b o e n hb hx
      exact ⟨sl, (hs.2 b (Nat.ne_of_lt (Nat.lt_of_lt_of_le (Heap.lt_size e) I.ok.above))).trans e1⟩
    · obtain ⟨o', e1⟩ := I.base.there b o e hx
      exact ⟨o', (hs.2 b (Nat.ne_of_lt (Nat.lt_of_lt_of_le (Heap.lt_size e) I.ok.above))).trans e1⟩
    · by_cases hj : j = i
      · subst hj
        rw [hi] at e1; cases e1
        rw [List.getElem?_set_self hiσ] at e2
        cases e2
        exact ⟨u, r, .inl ⟨hk, by simp⟩⟩
      · rw [List.getElem?_set_ne (Ne.symm hj)] at e2
        obtain ⟨u', r', q⟩ := hl j y v' e1 e2 e3
        refine ⟨u', r', ?_⟩
        rcases q with ⟨k, e⟩ | ⟨k, c, e, z⟩
        · refine .inl ⟨k, ?_⟩
          have : y ≠ x := fun e => hj (nodup_ix hN e1 (e ▸ hi))
          simp [this, e]
        · exact .inr ⟨k, c, e, z.sameBut hs (cne y c e)⟩
    · obtain ⟨w', z⟩ := I.cell y c e
      exact ⟨w', z.sameBut hs (cne y c e)⟩
    · obtain ⟨e, n, ne, nf, d⟩ := I.pin p hp
      exact ⟨(hs.2 p.1 ne).trans e, n, ne, nf, d⟩
  · have hfn : X.fn x = true := by
      rcases hf with z | z
      · exact z
      · rw [z] at hk; cases hk
    obtain ⟨c, hc⟩ := I.ok.has x (.inl hk)
    obtain ⟨w', z⟩ := I.cell x c hc
    refine wpAny_storeName_cell I.ok.kind hk hc z (fun h' hc' hs => ?_)
    obtain ⟨oc, hoc, hocd⟩ := id z
    refine h { s with heap := h' } ⟨I.ok, I.os, I.bare, ⟨fun b o e n hb hx => ?_, fun b o e n hb hx => ?_, I.base.free, fun b o e hx => ?_, I.base.tups, I.base.frzs, I.base.tbls⟩, ⟨m, hn.sameBut hs (Ne.symm (cne x c hc)), fun j y v' e1 e2 e3 => ?_⟩, fun y c' e => ?_, I.free, I.freeC, fun p hp => ?_, tracked ⟨oc, hoc, I.freeC x c hc⟩ hs, by simpa using I.len⟩ ⟨c, hs, .inr hc⟩
    · exact (hs.2 b (Nat.ne_of_lt (Nat.lt_of_lt_of_le (Heap.lt_size e) (I.ok.cab x c hfn hc)))).trans (I.base.keep b o e n hb hx)
    · obtain ⟨sl, e1⟩ := I.base.slot b o e n hb hx
      exact ⟨sl, (hs.2 b (Nat.ne_of_lt (Nat.lt_of_lt_of_le (Heap.lt_size e) (I.ok.cab x c hfn hc)))).trans e1⟩
    · obtain ⟨o', e1⟩ := I.base.there b o e hx
      exact ⟨o', (hs.2 b (Nat.ne_of_lt (Nat.lt_of_lt_of_le (Heap.lt_size e) (I.ok.cab x c hfn hc)))).trans e1⟩
    · by_cases hj : j = i
      · subst hj
        rw [hi] at e1; cases e1
        rw [List.getElem?_set_self hiσ] at e2
        cases e2
        exact ⟨u, r, .inr ⟨.inl hk, c, hc, hc'⟩⟩
      · rw [List.getElem?_set_ne (Ne.symm hj)] at e2
        obtain ⟨u', r', q⟩ := hl j y v' e1 e2 e3
        refine ⟨u', r', ?_⟩
        rcases q with q | ⟨k, c', e, z'⟩
        · exact .inl q
        · refine .inr ⟨k, c', e, z'.sameBut hs ?_⟩
          rintro rfl
          exact hj (nodup_ix hN e1 (I.ok.inj _ _ _ e hc ▸ hi))
    · by_cases hcc : c' = c
      · subst hcc; exact ⟨_, hc'⟩
      · obtain ⟨w2, z2⟩ := I.cell y c' e
        exact ⟨w2, z2.sameBut hs hcc⟩
    · obtain ⟨e, n, ne, nf, d⟩ := I.pin p hp
      refine ⟨(hs.2 p.1 ?_).trans e, n, ne, nf, d⟩
      intro q
      rw [q, hoc] at e
      have q' : oc = p.2 := Option.some.inj e
      exact d w' (by rw [← q']; exact hocd)
theorem store_ok {M : Model} {A : Around} {E : Value → Shared → Prop} {i : Nat} {x : Str} {v : V} {u : Value} {Q : Unit → Shared → Prop} (I : Inv X pins σ H s) (hN : X.N.Nodup) (hi : X.N[i]? = some x) (hx : Loc X.env.scope x) (r : RelV v u)
    (h : ∀ s', Inv X pins (σ.set i (some v)) H s' → Q () s') (hf : X.fn x = true ∨ X.env.scope.names.lookup x = some .local := by first | exact .inl rfl | exact .inr rfl | assumption) : wpAny M A (storeName X.env x u) Q E s :=
  store_ok2 I hN hi hx r (fun s' I' _ => h s' I') hf
theorem Inv.call' {s' : Shared} {ch : List Addr} (I : Inv X pins σ H s) (ho : s'.os = s.os) (u : Un (frs X.stack) ch H H' s.heap s'.heap) (hok : HOk X.prog X.w H' s'.heap) (hg : AllBare s'.gens)
    (hch : ∀ b ∈ ch, (b ∈ X.ex ∨ X.s₀.heap.objs.size ≤ b) ∧ b ≠ X.env.locals ∧ (∀ x c, X.env.cells.lookup x = some c → c ≠ b) ∧ ∀ p ∈ X.pn ++ pins, p.1 ≠ b) : Inv X pins σ H' s' := by
  obtain ⟨h', g', d', t', o'⟩ := s'
  have e : o' = s.os := ho
  subst e
  exact I.call (g' := g') (t' := t') (d' := d') u hok hg hch
end
noncomputable abbrev XK := Value → Option Addr → Hp → Prop
noncomputable abbrev St := List (Option V)
noncomputable abbrev VK := V → Hp → Prop
noncomputable abbrev TE := St → Hp → VK → Prop
noncomputable abbrev TT := St → Hp → (Bool → Hp → Prop) → Prop
noncomputable abbrev TA := St → Hp → (List V → Hp → Prop) → Prop
structure Ends where
  nx : St → Hp → Prop
  rt : VK
  bk : St → Hp → Prop := fun _ _ => False
  ct : St → Hp → Prop := fun _ _ => False
noncomputable abbrev TS := Ends → St → Hp → Prop
noncomputable def EP (X : Cx) (pins : List (Addr × Obj)) (σ : St) (Q : VK) (u : Value) (s' : Shared) : Prop := ∃ v H', Inv X pins σ H' s' ∧ RelV v u ∧ Q v H'
noncomputable def TP (X : Cx) (pins : List (Addr × Obj)) (σ : St) (Q : Bool → Hp → Prop) (b : Bool) (s' : Shared) : Prop := ∃ H', Inv X pins σ H' s' ∧ Q b H'
noncomputable def AP (X : Cx) (pins : List (Addr × Obj)) (σ : St) (Q : List V → Hp → Prop) (us : List Value) (s' : Shared) : Prop := ∃ vs H', Inv X pins σ H' s' ∧ Vals vs us ∧ Q vs H'
noncomputable def SP (X : Cx) (pins : List (Addr × Obj)) (D : Ends) (f : Flow) (s' : Shared) : Prop :=
  match f with
  | .next => ∃ σ' H', Inv X pins σ' H' s' ∧ D.nx σ' H'
  | .brk => ∃ σ' H', Inv X pins σ' H' s' ∧ D.bk σ' H'
  | .cont => ∃ σ' H', Inv X pins σ' H' s' ∧ D.ct σ' H'
  | .ret u => ∃ v σ' H', Inv X pins σ' H' s' ∧ RelV v u ∧ D.rt v H'
noncomputable def PE (X : Cx) (e : Expr) (t : TE) : Prop :=
  ∀ (pins : List (Addr × Obj)) (s : Shared) (σ : St) (H : Hp) (Q : VK), Inv X pins σ H s → t σ H Q → wpAny (model X.prog X.w) X.A (eval e X.env) (EP X pins σ Q) X.xe s
noncomputable def PT (X : Cx) (e : Expr) (t : TT) : Prop :=
  ∀ (pins : List (Addr × Obj)) (s : Shared) (σ : St) (H : Hp) (Q : Bool → Hp → Prop), Inv X pins σ H s → t σ H Q → wpAny (model X.prog X.w) X.A (isTrue e X.env (eval e X.env)) (TP X pins σ Q) X.xe s
noncomputable def PW (X : Cx) (e : Expr) (t : TT) : Prop :=
  ∀ (whole : Sem Value) (pins : List (Addr × Obj)) (s : Shared) (σ : St) (H : Hp) (Q : Bool → Hp → Prop), Inv X pins σ H s → t σ H Q → wpAny (model X.prog X.w) X.A (isTrue e X.env whole) (TP X pins σ Q) X.xe s
theorem PW.pt {X : Cx} {e : Expr} {t : TT} (h : PW X e t) : PT X e t := h _
noncomputable def PA (X : Cx) (es : List Expr) (t : TA) : Prop :=
  ∀ (pos : Pos) (pins : List (Addr × Obj)) (s : Shared) (σ : St) (H : Hp) (Q : List V → Hp → Prop), Inv X pins σ H s → t σ H Q → wpAny (model X.prog X.w) X.A (spliced (backTo pos (starEach es X.env))) (AP X pins σ Q) X.xe s
noncomputable def PS (X : Cx) (st : Stmt) (t : TS) : Prop :=
  ∀ (pins : List (Addr × Obj)) (s : Shared) (σ : St) (H : Hp) (D : Ends), Inv X pins σ H s → t D σ H → wpAny (model X.prog X.w) X.A (exec st X.env) (SP X pins D) X.xe s
noncomputable def PSs (X : Cx) (st : List Stmt) (t : TS) : Prop :=
  ∀ (pins : List (Addr × Obj)) (s : Shared) (σ : St) (H : Hp) (D : Ends), Inv X pins σ H s → t D σ H → wpAny (model X.prog X.w) X.A (execs st X.env) (SP X pins D) X.xe s
theorem thn {α : Type} {t : Sem α} {Q Q' : α → Shared → Prop} {M : Model} {A : Around} {E : Value → Shared → Prop} {s : Shared} (h : wpAny M A t Q E s) (hQ : ∀ a s, Q a s → Q' a s) : wpAny M A t Q' E s := wpAny_mono h hQ fun _ _ x => x
end L2
namespace L2
open PySem PySem.Spec PyProof.Rows
section
variable {X : Cx}
noncomputable def tVar (i : Nat) : TE := fun σ H Q => ∃ v, σ[i]? = some (some v) ∧ Q v H
noncomputable def tC (v : V) : TE := fun _ H Q => Q v H
theorem pe_var {i : Nat} {x : Str} {pos : Pos} (hN : X.N[i]? = some x) (hv : Vis X.env.scope x) (hd : (x == ("__debug__" : Str)) = false := by decide) (hcd : (x == ("__classdict__" : Str)) = false := by decide) : PE X (.Name x pos) (tVar i) := by
  intro pins s σ H Q I h
  obtain ⟨v, e, h⟩ := h
  obtain ⟨m, hn, hl⟩ := I.loc
  obtain ⟨u, r, l⟩ := hl i x v hN e hv
  have fin : EP X pins σ Q u s := ⟨v, H, I, r, h⟩
  rcases l with ⟨hk, hm⟩ | ⟨hk, c, hc, hcell⟩
  · exact wpAny_Name (wpAny_loadName_local I.ok.kind hk hn hm fin) hd
  · rcases hk with hk | hk
    · exact wpAny_Name (wpAny_loadName_cell I.ok.kind hk hc hcell fin) hd
    · exact wpAny_Name (wpAny_loadName_free I.ok.kind hk hc hcell fin hcd) hd
theorem pe_int {i j pos} : PE X (.Constant (.int i) j pos) (tC (.int i)) := fun _ _ _ H _ I h => wpAny_Constant_int ⟨.int i, H, I.tok _, ⟨_, rfl⟩, h⟩
theorem pe_bl {b j pos} : PE X (.Constant (.bool b) j pos) (tC (.bl b)) := fun _ _ _ H _ I h => Constant_bool ⟨.bl b, H, I, rfl, h⟩
theorem pe_non {j pos} : PE X (.Constant .none j pos) (tC .non) := fun _ _ _ H _ I h => Constant_none ⟨.non, H, I, rfl, h⟩
noncomputable def Gl (X : Cx) (x : Str) : Prop := X.env.kindOf x = some .globalImplicit
theorem ld_glob {E : Value → Shared → Prop} {pins : List (Addr × Obj)} {s : Shared} {σ : St} {H : Hp} {x : Str} {u : Value} {pos : Pos} {Q : Value → Shared → Prop} (I : Inv X pins σ H s) (hg : Gl X x) (hm : X.mg x = some u) (h : Q u s)
    (hd : (x == ("__debug__" : Str)) = false := by decide) : wpAny (model X.prog X.w) X.A (eval (.Name x pos) X.env) Q E s :=
  Calls.Name_function_global I.ok.kind hg (Calls.loadGlobal_global (by rw [I.ok.glob]; exact I.mod.glob.keeps I.bk) hm h) hd
theorem ld_blt {E : Value → Shared → Prop} {pins : List (Addr × Obj)} {s : Shared} {σ : St} {H : Hp} {x : Str} {u : Value} {pos : Pos} {Q : Value → Shared → Prop} (I : Inv X pins σ H s) (hg : Gl X x) (hm : X.mg x = none) (hv : bootBuiltins x = some u) (h : Q u s)
    (hn : x ≠ "__name__" := by decide) (hd : (x == ("__debug__" : Str)) = false := by decide) : wpAny (model X.prog X.w) X.A (eval (.Name x pos) X.env) Q E s := by
  obtain ⟨mb, h1, h2⟩ := I.mod.blt
  exact Calls.Name_function_global I.ok.kind hg (Calls.loadGlobal_builtin (by rw [I.ok.glob]; exact I.mod.glob.keeps I.bk) hm (by rw [I.ok.blt]; exact h1.keeps I.bk) ((h2 x hn).trans hv) h) hd
theorem pe_glob {x : Str} {v : V} {u : Value} {pos : Pos} (hg : Gl X x) (hm : X.mg x = some u) (r : RelV v u) (hd : (x == ("__debug__" : Str)) = false := by decide) : PE X (.Name x pos) (tC v) :=
  fun _ _ _ H _ I h => ld_glob I hg hm ⟨v, H, I, r, h⟩ hd
variable {a b : Expr} {ta tb : TE} {pos : Pos}
noncomputable def PC (X : Cx) (op : CmpOp) (a b : Expr) (t : TE) : Prop :=
  ∀ (pins : List (Addr × Obj)) (s : Shared) (σ : St) (H : Hp) (Q : VK), Inv X pins σ H s → t σ H Q →
    wpAny (model X.prog X.w) X.A (eval a X.env) (fun v s₁ => wpAny (model X.prog X.w) X.A (eval b X.env) (fun u s₂ => wpAny (model X.prog X.w) X.A (compareOp op v u) (EP X pins σ Q) X.xe s₂) X.xe s₁) X.xe s
theorem nobehind (b : Expr) {op : CmpOp} (h : op ≠ .In) (h2 : op ≠ .NotIn) : behindInMarks op b = false := by
  have e1 : (op == CmpOp.In) = false := by cases op <;> first | rfl | exact absurd rfl h
  have e2 : (op == CmpOp.NotIn) = false := by cases op <;> first | rfl | exact absurd rfl h2
  cases b <;> simp [behindInMarks, e1, e2]
noncomputable def tNotN (ta : TE) : TE := fun σ H Q => ta σ H fun x H1 => Q (.bl (!decide (x = .non))) H1
theorem RelV.none_iff {x : V} {v : Value} (r : RelV x v) : (v == Value.none) = decide (x = .non) := by
  cases x with
  | non => cases r; rfl
  | bl _ => cases r; rfl
  | int _ => obtain ⟨t, rfl⟩ := r; rfl
  | str _ => obtain ⟨t, rfl⟩ := r; rfl
  | byt _ => obtain ⟨t, rfl⟩ := r; rfl
  | flt _ => obtain ⟨t, rfl⟩ := r; rfl
  | ref _ => cases r; rfl
  | ty _ => cases r; rfl
theorem pc_notN {j pos'} (ha : PE X a ta) : PC X .IsNot a (.Constant .none j pos') (tNotN ta) := by
  intro pins s σ H Q I h
  refine thn (ha pins s σ H _ I h) fun v s1 zz4 => ?_
  obtain ⟨x, H1, I1, r1, q1⟩ := zz4
  exact Constant_none (isnot_none_gen ⟨.bl _, H1, I1, by rw [r1.none_iff]; rfl, q1⟩)
noncomputable def tB (t : TE) : TT := fun σ H Q => t σ H fun x H1 => ∃ c, x = .bl c ∧ Q c H1
theorem pt_cmp {op : CmpOp} {t : TE} (h : PC X op a b t) (h1 : behindInMarks op b = false := by first | exact nobehind _ (by decide) (by decide) | rfl) : PT X (.Compare a [op] [b] pos) (tB t) := by
  intro pins s σ H Q I hw
  refine wpAny_isTrue_Compare1 (thn (h pins s σ H _ I hw) fun v s1 h1 => thn h1 fun u s2 h2 => thn h2 fun c s3 zz5 => ?_) h1
  obtain ⟨x, H1, I1, r1, q1⟩ := zz5
  obtain ⟨d, rfl, q⟩ := q1
  cases r1
  exact wpAny_truthy_bool ⟨H1, I1, q⟩
theorem pt_val {e : Expr} {t : TE} (h : PE X e t) (he : ∀ whole, isTrue e X.env whole = (do let v ← whole; standAt e.pos; holding [v] (truthy v)) := by intro _; rfl) : PT X e (tB t) := by
  intro pins s σ H Q I hw
  refine isTrue_plain (thn (h pins s σ H _ I hw) fun v s1 zz6 => ?_) (he _)
  obtain ⟨x, H1, I1, r1, q1⟩ := zz6
  obtain ⟨d, rfl, q⟩ := q1
  cases r1
  exact wpAny_truthy_bool ⟨H1, I1, q⟩
variable {tA tB' : TT} {rest : List Expr}
noncomputable def tAnd (t u : TT) : TT := fun σ H Q => t σ H fun c H1 => if c = true then u σ H1 Q else Q false H1
noncomputable def tOr (t u : TT) : TT := fun σ H Q => t σ H fun c H1 => if c = true then Q true H1 else u σ H1 Q
noncomputable def tNot (t : TT) : TT := fun σ H Q => t σ H fun c H1 => Q (!c) H1
theorem pw_and1 (ha : PT X a tA) : PW X (.BoolOp .And [a] pos) tA := by
  intro wh pins s σ H Q I h
  refine isTrue_and (thn (ha pins s σ H Q I h) fun c s1 e => ?_)
  cases c with
  | true => exact isTrue_and_nil e
  | false => exact e
theorem pw_or1 (ha : PT X a tA) : PW X (.BoolOp .Or [a] pos) tA := by
  intro wh pins s σ H Q I h
  refine isTrue_or (thn (ha pins s σ H Q I h) fun c s1 e => ?_)
  cases c with
  | false => exact isTrue_or_nil e
  | true => exact e
theorem pw_and (ha : PT X a tA) (hb : PW X (.BoolOp .And (b :: rest) pos) tB') : PW X (.BoolOp .And (a :: b :: rest) pos) (tAnd tA tB') := by
  intro wh pins s σ H Q I h
  refine isTrue_and (thn (ha pins s σ H _ I h) fun c s1 zz7 => ?_)
  obtain ⟨H1, I1, q1⟩ := zz7
  cases c with
  | true => exact hb wh pins s1 σ H1 Q I1 q1
  | false => exact ⟨H1, I1, q1⟩
theorem pw_or (ha : PT X a tA) (hb : PW X (.BoolOp .Or (b :: rest) pos) tB') : PW X (.BoolOp .Or (a :: b :: rest) pos) (tOr tA tB') := by
  intro wh pins s σ H Q I h
  refine isTrue_or (thn (ha pins s σ H _ I h) fun c s1 zz8 => ?_)
  obtain ⟨H1, I1, q1⟩ := zz8
  cases c with
  | true => exact ⟨H1, I1, q1⟩
  | false => exact hb wh pins s1 σ H1 Q I1 q1
theorem pt_not (ha : PT X a tA) : PT X (.UnaryOp .Not a pos) (tNot tA) := by
  intro pins s σ H Q I h
  exact isTrue_not (ha pins s σ H (fun c H1 => Q (!c) H1) I h)
noncomputable def tAndV (ta tb : TE) : TE := fun σ H Q => ta σ H fun x H1 => ∃ c, x = .bl c ∧ if c = true then tb σ H1 Q else Q (.bl false) H1
noncomputable def tNotV (ta : TE) : TE := fun σ H Q => ta σ H fun x H1 => ∃ c, x = .bl c ∧ Q (.bl (!c)) H1
theorem pe_one {op} {t : TE} (h : PE X a t) : PE X (.BoolOp op [a] pos) t := fun pins s σ H Q I hw => BoolOp_one (h pins s σ H Q I hw)
theorem pe_and (ha : PE X a ta) (hb : PE X (.BoolOp .And (b :: rest) pos) tb) : PE X (.BoolOp .And (a :: b :: rest) pos) (tAndV ta tb) := by
  intro pins s σ H Q I h
  refine BoolOp_and (thn (ha pins s σ H _ I h) fun v s1 zz9 => ?_)
  obtain ⟨x, H1, I1, r1, q1⟩ := zz9
  obtain ⟨c, rfl, q1⟩ := q1
  cases r1
  refine wpAny_truthy_bool ?_
  cases c with
  | true => exact hb pins s1 σ H1 Q I1 q1
  | false => exact ⟨.bl false, H1, I1, rfl, q1⟩
theorem pe_not (ha : PE X a ta) : PE X (.UnaryOp .Not a pos) (tNotV ta) := by
  intro pins s σ H Q I h
  refine UnaryOp_ (thn (ha pins s σ H _ I h) fun v s1 zz11 => ?_)
  obtain ⟨x, H1, I1, r1, q1⟩ := zz11
  obtain ⟨c, rfl, q1⟩ := q1
  cases r1
  exact not_of (wpAny_truthy_bool ⟨.bl (!c), H1, I1, rfl, q1⟩)
noncomputable def tIf (t : TT) (ta tb : TE) : TE := fun σ H Q => t σ H fun c H1 => if c = true then ta σ H1 Q else tb σ H1 Q
theorem pe_ifExp {c : Expr} (hc : PT X c tA) (ha : PE X a ta) (hb : PE X b tb) : PE X (.IfExp c a b pos) (tIf tA ta tb) := by
  intro pins s σ H Q I h
  refine wpAny_IfExp (thn (hc pins s σ H _ I h) fun d s1 zz12 => ?_)
  obtain ⟨H1, I1, q1⟩ := zz12
  cases d with
  | true => exact ha pins s1 σ H1 Q I1 q1
  | false => exact hb pins s1 σ H1 Q I1 q1
end
end L2
namespace L2
open PySem PySem.Spec PyProof.Rows
noncomputable def SqL (K : PySem.W.Frag) (H : Hp) (a : Addr) (xs : List V) : Prop :=
  Rd H a (.lst xs) ∨
    ∃ (o : Obj) (its : Array Value) (n : Nat), K.lookup a = some o ∧ o.cls = .type "list" ∧ o.dict = none ∧ o.data = .seq its n ∧ its.size ≤ sizeLine ∧ Vals xs its.toList
noncomputable def SqT (K : PySem.W.Frag) (H : Hp) (a : Addr) (xs : List V) : Prop :=
  Rd H a (.tup xs) ∨
    ∃ (o : Obj) (its : Array Value) (n : Nat), K.lookup a = some o ∧ o.cls = .type "tuple" ∧ o.data = .seq its n ∧ its.size ≤ sizeLine ∧ Vals xs its.toList
noncomputable def absV : Value → Option V
  | .none => some .non
  | .bool b => some (.bl b)
  | .int i _ => some (.int i)
  | .str x _ => some (.str x)
  | .bytes b _ => some (.byt b)
  | .float b _ => some (.flt b)
  | .ref a => some (.ref a)
  | .type n => some (.ty n)
  | _ => none
theorem RelV.abs {x : V} {u : Value} (r : RelV x u) : absV u = some x := by
  cases x with
  | non => cases r; rfl
  | bl _ => cases r; rfl
  | int _ => obtain ⟨t, rfl⟩ := r; rfl
  | str _ => obtain ⟨t, rfl⟩ := r; rfl
  | byt _ => obtain ⟨t, rfl⟩ := r; rfl
  | flt _ => obtain ⟨t, rfl⟩ := r; rfl
  | ref _ => cases r; rfl
  | ty _ => cases r; rfl
theorem RelV.inj {x y : V} {u : Value} (r : RelV x u) (q : RelV y u) : x = y := Option.some.inj (r.abs.symm.trans q.abs)
theorem Vals.inj : ∀ {xs ys : List V} {us : List Value}, Vals xs us → Vals ys us → xs = ys
  | _, _, _, .nil, .nil => rfl
  | _, _, _, .cons r t, .cons r' t' => by rw [r.inj r', Vals.inj t t']
section
variable {X : Cx} {pins : List (Addr × Obj)} {σ : St} {H : Hp} {s : Shared} {a : Addr} {xs ys : List V}
theorem SqL.of {K : PySem.W.Frag} (h : H a = some (.lst xs)) : SqL K H a xs := .inl (.inl h)
theorem SqT.of {K : PySem.W.Frag} (h : H a = some (.tup xs)) : SqT K H a xs := .inl (.inl h)
theorem Inv.list (I : Inv X pins σ H s) (h : SqL X.K H a xs) : ∃ its : List Value, Vals xs its ∧ PlainL s.heap a its.toArray ∧ xs.length ≤ sizeLine := by
  rcases h with h | ⟨o, its, n, hk, hc, hd, hs, hz, r⟩
  · obtain ⟨z, its, n, r, e⟩ := h.ok I.hok
    exact ⟨its, r, ⟨_, n, e, rfl, rfl, rfl⟩, z⟩
  · refine ⟨its.toList, r, ⟨o, n, I.kIn a o hk, hc, hd, by simpa using hs⟩, ?_⟩
    have e := r.length
    simp only [Array.length_toList] at e
    omega
theorem Inv.tuple (I : Inv X pins σ H s) (h : SqT X.K H a xs) : ∃ its : List Value, Vals xs its ∧ IsTup s.heap a its.toArray ∧ xs.length ≤ sizeLine := by
  rcases h with h | ⟨o, its, n, hk, hc, hs, hz, r⟩
  · obtain ⟨z, its, r, p⟩ := h.ok I.hok
    exact ⟨its, r, p, z⟩
  · refine ⟨its.toList, r, ⟨o, I.kIn a o hk, hc, n, by simpa using hs⟩, ?_⟩
    have e := r.length
    simp only [Array.length_toList] at e
    omega
theorem Inv.list_inj (I : Inv X pins σ H s) (h : SqL X.K H a xs) (h' : SqL X.K H a ys) : xs = ys := by
  obtain ⟨its, r, ⟨o, n, e, _, _, d⟩, _⟩ := I.list h
  obtain ⟨its', r', ⟨o', n', e', _, _, d'⟩, _⟩ := I.list h'
  rw [e] at e'; cases e'
  rw [d] at d'
  injection d' with d1 _
  have : its = its' := by simpa using congrArg Array.toList d1
  subst this
  exact r.inj r'
theorem Inv.tuple_inj (I : Inv X pins σ H s) (h : SqT X.K H a xs) (h' : SqT X.K H a ys) : xs = ys := by
  obtain ⟨its, r, ⟨o, e, _, n, d⟩, _⟩ := I.tuple h
  obtain ⟨its', r', ⟨o', e', _, n', d'⟩, _⟩ := I.tuple h'
  rw [e] at e'; cases e'
  rw [d] at d'
  injection d' with d1 _
  have : its = its' := by simpa using congrArg Array.toList d1
  subst this
  exact r.inj r'
end
noncomputable abbrev Cx.wish (X : Cx) (E : Value → Shared → Prop) : Cx := { X with xe := E }
noncomputable abbrev Cx.nox (X : Cx) : Cx := X.wish fun _ _ => False
theorem Cx.Ok.wish {X : Cx} (ok : X.Ok) (E : Value → Shared → Prop) : (X.wish E).Ok :=
  ⟨ok.mod, ok.kind, ok.glob, ok.blt, ok.above, ok.inj, ok.has, ok.cab, ok.hd, ok.frames, ok.stk, ok.exf, ok.bs, ok.bsz, ok.noex, ok.exfs, ok.funs, ok.frf⟩
theorem Cx.Ok.unwish {X : Cx} {E : Value → Shared → Prop} (ok : (X.wish E).Ok) : X.Ok :=
  ⟨ok.mod, ok.kind, ok.glob, ok.blt, ok.above, ok.inj, ok.has, ok.cab, ok.hd, ok.frames, ok.stk, ok.exf, ok.bs, ok.bsz, ok.noex, ok.exfs, ok.funs, ok.frf⟩
section
variable {X : Cx} {pins : List (Addr × Obj)} {σ : St} {H : Hp} {s : Shared} {E : Value → Shared → Prop}
theorem Inv.wish (I : Inv X pins σ H s) (E : Value → Shared → Prop) : Inv (X.wish E) pins σ H s := ⟨I.ok.wish E, I.os, I.bare, I.base, I.loc, I.cell, I.free, I.freeC, I.pin, I.hok, I.len⟩
theorem Inv.unwish (I : Inv (X.wish E) pins σ H s) : Inv X pins σ H s := ⟨I.ok.unwish, I.os, I.bare, I.base, I.loc, I.cell, I.free, I.freeC, I.pin, I.hok, I.len⟩
theorem SP.unwish {D : Ends} {f : Flow} {s' : Shared} (h : SP (X.wish E) pins D f s') : SP X pins D f s' := by
  cases f with
  | next => obtain ⟨σ', H', I, q⟩ := h; exact ⟨σ', H', I.unwish, q⟩
  | brk => obtain ⟨σ', H', I, q⟩ := h; exact ⟨σ', H', I.unwish, q⟩
  | cont => obtain ⟨σ', H', I, q⟩ := h; exact ⟨σ', H', I.unwish, q⟩
  | ret u => obtain ⟨v, σ', H', I, r, q⟩ := h; exact ⟨v, σ', H', I.unwish, r, q⟩
theorem PSs.nox {st : List Stmt} {t : TS} (h : PSs X.nox st t) : PSs X st t := fun pins s σ H D I hw =>
  wpAny_mono (h pins s σ H D (I.wish _) hw) (fun _ _ q => q.unwish) fun _ _ z => False.elim z
end
section
variable {X : Cx} {st : Stmt} {rest : List Stmt} {t u : TS} {e : Expr} {te : TE} {pos : Pos}
noncomputable def tNext : TS := fun D σ H => D.nx σ H
noncomputable def tSeq (t u : TS) : TS := fun D σ H => t { D with nx := u D } σ H
theorem pss_nil : PSs X [] tNext := fun _ _ σ H _ I h => wpAny_execs_nil ⟨σ, H, I, h⟩
theorem pss_cons (h1 : PS X st t) (h2 : PSs X rest u) : PSs X (st :: rest) (tSeq t u) := by
  intro pins s σ H D I h
  refine wpAny_execs_cons (thn (h1 pins s σ H { D with nx := u D } I h) fun f s1 q => ?_)
  cases f with
  | next =>
    obtain ⟨σ', H', I', q⟩ := q
    exact h2 pins s1 σ' H' D I' q
  | ret v => exact q
  | brk => exact q
  | cont => exact q
theorem pss_one (h1 : PS X st t) : PSs X [st] t := by
  intro pins s σ H D I h
  refine wpAny_execs_cons (thn (h1 pins s σ H D I h) fun f s1 q => ?_)
  cases f with
  | next => exact wpAny_execs_nil q
  | ret v => exact q
  | brk => exact q
  | cont => exact q
theorem Inv.quiet {pins : List (Addr × Obj)} {σ : St} {H : Hp} {s : Shared} (I : Inv X pins σ H s) : interactive X.env = false := by simp [interactive, I.ok.kind]
noncomputable def tDrop (te : TE) : TS := fun D σ H => te σ H fun _ H1 => D.nx σ H1
theorem ps_expr (he : PE X e te) (hs : swapsWith e none pos.line X.env = pure false := by rfl) : PS X (.Expr e pos) (tDrop te) := by
  intro pins s σ H D I h
  exact wpAny_Expr_any (thn (he pins s σ H _ I h) fun v s1 ⟨x, H1, I1, r1, q1⟩ => ⟨σ, H1, I1, q1⟩) I.quiet hs
noncomputable def tRet (te : TE) : TS := fun D σ H => te σ H D.rt
theorem ps_ret (he : PE X e te) : PS X (.Return (some e) pos) (tRet te) := by
  intro pins s σ H D I h
  exact wpAny_Return_some (thn (he pins s σ H _ I h) fun v s1 ⟨x, H1, I1, r1, q1⟩ => ⟨x, σ, H1, I1, r1, q1⟩)
noncomputable def tIfS (c : TT) (t u : TS) : TS := fun D σ H => c σ H fun b H1 => if b = true then t D σ H1 else u D σ H1
theorem ps_if {c : Expr} {a b : List Stmt} {tc : TT} (hc : PT X c tc) (ha : PSs X a t) (hb : PSs X b u) : PS X (.If c a b pos) (tIfS tc t u) := by
  intro pins s σ H D I h
  refine wpAny_If (thn (hc pins s σ H _ I h) fun d s1 zz13 => ?_)
  obtain ⟨H1, I1, q1⟩ := zz13
  cases d with
  | true => exact ha pins s1 σ H1 D I1 q1
  | false => exact hb pins s1 σ H1 D I1 q1
noncomputable def tNever : TS := fun _ _ _ => False
theorem ps_never : PS X st tNever := fun _ _ _ _ _ _ h => h.elim
end
noncomputable abbrev TG := V → St → Hp → (St → Hp → Prop) → Prop
noncomputable abbrev TGs := List V → St → Hp → (St → Hp → Prop) → Prop
noncomputable def PG (X : Cx) (target : Expr) (t : TG) : Prop :=
  ∀ (pins : List (Addr × Obj)) (s : Shared) (σ : St) (H : Hp) (v : V) (u : Value) (Q : St → Hp → Prop), Inv X pins σ H s → RelV v u → t v σ H Q →
    wpAny (model X.prog X.w) X.A (assign target X.env u) (fun _ s' => ∃ σ' H', Inv X pins σ' H' s' ∧ Q σ' H') X.xe s
noncomputable def PGs (X : Cx) (ts : List Expr) (t : TGs) : Prop :=
  ∀ (pins : List (Addr × Obj)) (s : Shared) (σ : St) (H : Hp) (vs : List V) (us : List Value) (Q : St → Hp → Prop), Inv X pins σ H s → Vals vs us → t vs σ H Q →
    wpAny (model X.prog X.w) X.A (assignInOrder ((assignEach ts X.env).map (·.2)) us) (fun _ s' => ∃ σ' H', Inv X pins σ' H' s' ∧ Q σ' H') X.xe s
noncomputable abbrev TSet := V → V → V → Hp → (Hp → Prop) → Prop
noncomputable def PSet (X : Cx) (t : TSet) : Prop :=
  ∀ (pins : List (Addr × Obj)) (s : Shared) (σ : St) (H : Hp) (o i v : V) (ov iv u : Value) (Q : Hp → Prop), Inv X pins σ H s → RelV o ov → RelV i iv → RelV v u → t o i v H Q →
    wpAny (model X.prog X.w) X.A (setItem ov iv u) (fun _ s' => ∃ H', Inv X pins σ H' s' ∧ Q H') X.xe s
section
variable {X : Cx} {pos : Pos}
noncomputable def gName (i : Nat) : TG := fun v σ H Q => Q (σ.set i (some v)) H
theorem pg_name {i : Nat} {x : Str} (hN : X.N.Nodup) (hi : X.N[i]? = some x) (hx : Loc X.env.scope x) (hf : X.fn x = true ∨ X.env.scope.names.lookup x = some .local := by first | exact .inl rfl | exact .inr rfl | assumption) : PG X (.Name x pos) (gName i) := by
  intro pins s σ H v u Q I r h
  exact wpAny_assign_Name (store_ok I hN hi hx r (fun s' I' => ⟨_, H, I', h⟩) hf)
noncomputable def gNil : TGs := fun vs σ H Q => vs = [] ∧ Q σ H
noncomputable def gCons (t : TG) (u : TGs) : TGs := fun vs σ H Q => ∃ v r, vs = v :: r ∧ t v σ H fun σ' H' => u r σ' H' Q
theorem pgs_nil : PGs X [] gNil := by
  intro pins s σ H vs us Q I r h
  obtain ⟨e, h⟩ := h
  subst e
  cases r
  exact assignInOrder_nil ⟨σ, H, I, h⟩
theorem pgs_cons {e : Expr} {es : List Expr} {t : TG} {u : TGs} (h1 : PG X e t) (h2 : PGs X es u)
    (hs : (assignEach (e :: es) X.env).map (·.2) = assign e X.env :: (assignEach es X.env).map (·.2) := by rfl) : PGs X (e :: es) (gCons t u) := by
  intro pins s σ H vs us Q I r h
  obtain ⟨v, vr, e1, h⟩ := h
  subst e1
  cases r with
  | cons r rr =>
    rw [hs]
    refine assignInOrder_cons (thn (h1 pins s σ H _ _ _ I r h) fun _ s1 zz14 => ?_)
    obtain ⟨σ1, H1, I1, q1⟩ := zz14
    exact h2 pins s1 σ1 H1 _ _ Q I1 rr q1
noncomputable def gTup (K : PySem.W.Frag) (n : Nat) (t : TGs) : TG := fun v σ H Q => ∃ a xs, v = .ref a ∧ SqT K H a xs ∧ xs.length = n ∧ t xs σ H Q
theorem pg_tup {es : List Expr} {k : Nat} {t : TGs} {n : Nat} (hc : X.calm = true) (h : PGs X es t)
    (hn : (assignEach es X.env).length = n := by rfl) (hst : (assignEach es X.env).findIdx? (·.1) = none := by rfl) : PG X (.Tuple es k pos) (gTup X.K n t) := by
  intro pins s σ H v u Q I r hw
  obtain ⟨a, xs, e1, hq, hl, hw⟩ := hw
  subst e1
  cases r
  obtain ⟨its, rv, ht, hz⟩ := I.tuple hq
  refine assign_Tuple_tuple (I.ok.hd hc) ht (by simp [hn, ← hl, rv.length]) hst fun h' hx => ?_
  have I1 : Inv X pins σ H { s with heap := h' } := I.kept (t' := s.toks) fun b o e => hx b o (Nat.ne_of_lt (Heap.lt_size e)) e
  exact h pins _ σ H xs _ Q I1 (by simpa using rv) hw
noncomputable def gSub (to ti : TE) (t : TSet) : TG := fun v σ H Q => to σ H fun o H1 => ti σ H1 fun i H2 => t o i v H2 fun H3 => Q σ H3
theorem pg_sub {o i : Expr} {to ti : TE} {t : TSet} (ho : PE X o to) (hi : PE X i ti) (hs : PSet X t)
    (ha : ∀ v, assign (.Subscript o i pos) X.env v = (do
      let ov ← holding [v] (eval o X.env)
      let iv ← holding [v, ov] (eval i X.env)
      standAt pos
      holding [v, ov, iv] (setItem ov iv v)
      release [v, ov, iv] []) := by intro _; rfl) : PG X (.Subscript o i pos) (gSub to ti t) := by
  intro pins s σ H v u Q I r h
  rw [ha]
  refine wpAny_bind (wpAny_holding (thn (ho pins s σ H _ I h) fun ov s1 zz15 => ?_))
  obtain ⟨x, H1, I1, r1, q1⟩ := zz15
  refine wpAny_bind (wpAny_holding (thn (hi pins s1 σ H1 _ I1 q1) fun iv s2 zz16 => ?_))
  obtain ⟨y, H2, I2, r2, q2⟩ := zz16
  refine wpAny_bind (wpAny_standAt (wpAny_bind (wpAny_holding (thn (hs pins s2 σ H2 x y v ov iv u _ I2 r1 r2 r q2) fun _ s3 zz17 => ?_))))
  obtain ⟨H3, I3, q3⟩ := zz17
  exact wpAny_release ⟨σ, H3, I3, q3⟩
noncomputable def tAsg (te : TE) (g : TG) : TS := fun D σ H => te σ H fun x H1 => g x σ H1 D.nx
theorem ps_asg {tg e : Expr} {te : TE} {g : TG} (he : PE X e te) (hg : PG X tg g) (hs : swapsWithSole [tg] e pos.line X.env = pure false := by rfl) (hw : swappedStores [tg] e X.env = pure none := by rfl)
    (h1 : (assignEach [tg] X.env).map (·.2) = [assign tg X.env] := by rfl) : PS X (.Assign [tg] e pos) (tAsg te g) := by
  intro pins s σ H D I h
  refine wpAny_Assign_stores (thn (he pins s σ H _ I h) fun v s1 zz18 => ?_) hs hw
  obtain ⟨x, H1, I1, r1, q1⟩ := zz18
  rw [h1]
  exact thn (hg pins s1 σ H1 x v _ I1 r1 q1) fun _ s2 q => q
theorem ps_set {i : Nat} {x : Str} {e : Expr} {te : TE} {pos' : Pos} (hN : X.N.Nodup) (hi : X.N[i]? = some x) (hx : Loc X.env.scope x) (he : PE X e te) (hs : swapsWith e (some (.Name x pos')) pos.line X.env = pure false := by rfl) (hf : X.fn x = true ∨ X.env.scope.names.lookup x = some .local := by first | exact .inl rfl | exact .inr rfl | assumption) :
    PS X (.Assign [.Name x pos'] e pos) (tAsg te (gName i)) := by
  intro pins s σ H D I h
  refine wpAny_Assign_Name (thn (he pins s σ H _ I h) fun v s1 zz19 => ?_) hs
  obtain ⟨y, H1, I1, r1, q1⟩ := zz19
  exact store_ok I1 hN hi hx r1 (fun s2 I2 => ⟨_, H1, I2, q1⟩) hf
noncomputable def tPar (i j : Nat) (ta : TA) : TS := fun D σ H => ta σ H fun vs H1 => ∃ v w, vs = [v, w] ∧ D.nx ((σ.set i (some v)).set j (some w)) H1
theorem ps_par {i j : Nat} {x y : Str} {a b : Expr} {ta : TA} {px py pt : Pos} {kt k2 pt2} (hc : X.calm = true) (hN : X.N.Nodup) (hi : X.N[i]? = some x) (hj : X.N[j]? = some y) (hij : i ≠ j)
    (hx : X.env.scope.names.lookup x = some .local) (hy : X.env.scope.names.lookup y = some .local) (ha : PA X [a, b] ta)
    (hw : swappedStores [.Tuple [.Name x px, .Name y py] kt pt] (.Tuple [a, b] k2 pt2) X.env = pure (some [x, y]))
    (hs : swapsWithSole [.Tuple [.Name x px, .Name y py] kt pt] (.Tuple [a, b] k2 pt2) pos.line X.env = pure false := by rfl) :
    PS X (.Assign [.Tuple [.Name x px, .Name y py] kt pt] (.Tuple [a, b] k2 pt2) pos) (tPar i j ta) := by
  intro pins s σ H D I h
  rw [exec_Assign_arm]
  refine wpAny_bind (wpAny_standAt ?_)
  rw [hs]
  refine wpAny_bind (wpAny_pure ?_)
  rw [if_neg (by decide)]
  refine wpAny_bind (Tuple_ (thn (ha _ pins s σ H _ I h) fun us s1 zz20 => ?_))
  obtain ⟨vs, H1, I1, r1, q1⟩ := zz20
  obtain ⟨v, w, e1, q1⟩ := q1
  subst e1
  obtain ⟨u1, u2, rfl, rv, rw'⟩ : ∃ u1 u2, us = [u1, u2] ∧ RelV v u1 ∧ RelV w u2 := by
    cases r1 with
    | cons p q =>
      cases q with
      | cons p' q' =>
        cases q'
        exact ⟨_, _, rfl, p, p'⟩
  refine wpAny_newObj_type ?_ (by show 2 ≤ sizeLine; decide)
  have I2 : Inv X pins σ H1 { s1 with heap := s1.heap.push { cls := .type "tuple", data := .seq [u1, u2].toArray } } := I1.kept (t' := s1.toks) fun b o e => Heap.get?_push_of_some _ e
  rw [hw]
  refine wpAny_bind (wpAny_pure ?_)
  show wpAny (model X.prog X.w) X.A (do rule "assign.swapped-stores"; let items ← unpackItems (.ref s1.heap.objs.size) 2 none; assignInOrder [fun v => bindName X.env y v, fun v => bindName X.env x v] items.reverse; pure Flow.next) _ _ _
  refine wpAny_bind (wpAny_rule (wpAny_bind (unpackItems_tuple (items := #[u1, u2]) (I.ok.hd hc) (IsTup.new s1.heap _) fun h' hx' => ?_)))
  have I3 := I2.kept (h' := h') (t' := s1.toks) fun b o e => hx' b o (Nat.ne_of_lt (Heap.lt_size e)) e
  show wpAny _ _ (assignInOrder [fun v => bindName X.env y v, fun v => bindName X.env x v] [u2, u1] >>= fun _ => pure Flow.next) _ _ _
  refine wpAny_bind (assignInOrder_cons (wpAny_bindName (store_ok I3 hN hj (.inl hy) rw' (fun s2 I4 => ?_) (.inr hy))))
  refine assignInOrder_cons (wpAny_bindName (store_ok I4 hN hi (.inl hx) rv (fun s3 I5 => assignInOrder_nil (wpAny_pure ?_)) (.inr hx)))
  rw [List.set_comm _ _ (Ne.symm hij)] at I5
  exact ⟨_, H1, I5, q1⟩
end
section
variable {X : Cx} {pos : Pos}
noncomputable def tWhile (c : TT) (tb : TS) : TS := fun D σ H => ∃ W : Nat → St → Hp → Prop, (∃ m, W m σ H) ∧ ∀ m σ H, W m σ H →
  c σ H fun b H1 => if b = true then ∃ N : St → Hp → Prop, (∀ σ' H', N σ' H' → ∃ m', m' < m ∧ W m' σ' H') ∧ tb { D with nx := N, ct := N, bk := D.nx } σ H1 else D.nx σ H1
theorem ps_while {c : Expr} {body : List Stmt} {tc : TT} {tb : TS} (hp : PassesOwn (model X.prog X.w) X.A X.env X.xe) (hc : PT X c tc) (hb : PSs X body tb) : PS X (.While c body [] pos) (tWhile tc tb) := by
  intro pins s σ H D I h
  obtain ⟨W, ⟨m0, w0⟩, turn⟩ := h
  refine wpAny_While (codeAny_whileLoop (fun n s' => ∃ σ' H', Inv X pins σ' H' s' ∧ W n σ' H') ?_ m0 ⟨σ, H, I, w0⟩)
  rintro n s1 ⟨σ1, H1, I1, w1⟩
  refine wpAny_passesOwn hp (thn (hc pins s1 σ1 H1 _ I1 (turn n σ1 H1 w1)) fun b s2 zz28 => ?_)
  obtain ⟨H2, I2, q2⟩ := zz28
  cases b with
  | true =>
    obtain ⟨N, hN, q2⟩ := q2
    rw [if_pos rfl]
    refine wpAny_passesOwn hp (thn (hb pins s2 σ1 H2 _ I2 q2) fun f s3 q3 => ?_)
    cases f with
    | next =>
      obtain ⟨σ3, H3, I3, n3⟩ := q3
      obtain ⟨m', hm, w3⟩ := hN σ3 H3 n3
      exact ⟨m', hm, σ3, H3, I3, w3⟩
    | cont =>
      obtain ⟨σ3, H3, I3, n3⟩ := q3
      obtain ⟨m', hm, w3⟩ := hN σ3 H3 n3
      exact ⟨m', hm, σ3, H3, I3, w3⟩
    | brk => exact q3
    | ret v => exact q3
  | false =>
    rw [if_neg Bool.false_ne_true]
    exact wpAny_execs_nil ⟨σ1, H2, I2, q2⟩
end
structure It where
  go : Nat → Hp → Prop
  yld : Nat → Hp → V → Hp → Prop
  stop : Nat → Hp → Prop
noncomputable def FpOk (X : Cx) (pins : List (Addr × Obj)) (H : Hp) (b : Addr) : Prop :=
  H b = none ∧ b ≠ X.env.locals ∧ b ∉ X.fs ∧ (b ∈ X.ex ∨ X.s₀.heap.objs.size ≤ b) ∧ (∀ x c, X.env.cells.lookup x = some c → c ≠ b) ∧ ∀ p ∈ X.pn ++ pins, p.1 ≠ b
theorem Inv.fpOk {X : Cx} {pins : List (Addr × Obj)} {σ : St} {H H' : Hp} {s : Shared} {b : Addr} (I : Inv X pins σ H s) (hb : s.heap.objs.size ≤ b) (hn : H' b = none) : FpOk X pins H' b := by
  refine ⟨hn, Nat.ne_of_gt (Nat.lt_of_lt_of_le I.lt hb), I.nofs hb, .inr (Nat.le_trans I.sz hb), fun x c e z => ?_, fun p hp z => ?_⟩
  · obtain ⟨v, q⟩ := I.cell x c e
    exact absurd (Nat.lt_of_lt_of_le q.lt (by rw [z]; exact hb)) (Nat.lt_irrefl _)
  · exact absurd (Nat.lt_of_lt_of_le (Heap.lt_size (I.pin p hp).1) (by rw [z]; exact hb)) (Nat.lt_irrefl _)
structure Turn (P : Program) (w : World) (K : PySem.W.Frag) (tg : Expr) (J : It) (fp : List Addr) (it : Addr) (tn : Nat → Heap → Prop) : Prop where
  mem : it ∈ fp
  obj : ∀ i h, tn i h → ∀ b ∈ fp, ∃ o, h.get? b = some o ∧ ∀ v, o.data ≠ .cell v
  keep : ∀ i h h', tn i h → (∀ b ∈ fp, ∀ o, h.get? b = some o → h'.get? b = some o) → tn i h'
  item : ∀ (X : Cx), X.prog = P → X.w = w → X.K = K → X.calm = true → ∀ (i : Nat) (pins : List (Addr × Obj)) (s : Shared) (σ : St) (H : Hp) (E : Value → Shared → Prop), Inv X pins σ H s → (∀ b ∈ fp, FpOk X pins H b) → tn i s.heap → J.go i H →
    wpAny (model P w) X.A (pyNext (.ref it)) (fun r s1 => ∃ u, r = some u ∧
      wpAny (model P w) X.A (letOwnedTupleGo tg (.ref it) u) (fun _ s2 => ∃ x H', Inv X pins σ H' s2 ∧ RelV x u ∧ J.yld i H x H' ∧ tn (i + 1) s2.heap ∧ ∀ b ∈ fp, H' b = none) E s1) E s
  done : ∀ (X : Cx), X.prog = P → X.w = w → X.K = K → X.calm = true → ∀ (i : Nat) (pins : List (Addr × Obj)) (s : Shared) (σ : St) (H : Hp) (E : Value → Shared → Prop), Inv X pins σ H s → (∀ b ∈ fp, FpOk X pins H b) → tn i s.heap → J.stop i H →
    wpAny (model P w) X.A (pyNext (.ref it)) (fun r s1 => r = none ∧ Inv X pins σ H s1) E s
  self : ∀ (A : Around) (i : Nat) (s : Shared) (Q : Value → Shared → Prop) (E : Value → Shared → Prop), tn i s.heap → Q (.ref it) s → wpAny (model P w) A (pyIter (.ref it)) Q E s
noncomputable abbrev TI := St → Hp → (It → Hp → Prop) → Prop
noncomputable def PIE (X : Cx) (pins : List (Addr × Obj)) (σ : St) (tg : Expr) (R : It → Hp → Prop) (itv : Value) (s2 : Shared) : Prop :=
  ∃ (it : Addr) (fp : List Addr) (tn : Nat → Heap → Prop) (J : It) (H' : Hp), itv = .ref it ∧ Inv X pins σ H' s2 ∧ Turn X.prog X.w X.K tg J fp it tn ∧ tn 0 s2.heap ∧ (∀ b ∈ fp, FpOk X pins H' b) ∧ R J H'
noncomputable def PI (X : Cx) (tg iter : Expr) (wi : TI) : Prop :=
  ∀ (pins : List (Addr × Obj)) (s : Shared) (σ : St) (H : Hp) (R : It → Hp → Prop), Inv X pins σ H s → wi σ H R →
    wpAny (model X.prog X.w) X.A (eval iter X.env) (fun v s1 => wpAny (model X.prog X.w) X.A (pyIter v) (PIE X pins σ tg R) X.xe s1) X.xe s
theorem go_of {M : Model} {A : Around} {E : Value → Shared → Prop} {s : Shared} {tg : Expr} {it : Addr} {u : Value} {o : Obj} {n : String} {vs : Array Value} {Q : Unit → Shared → Prop} (ho : s.heap.get? it = some o) (hc : o.cls = .type n) (hd : o.data = .fields vs)
    (hn : ["enumerate", "zip", "dict_itemiterator", "dict_reverseitemiterator", "odict_iterator", "itertools.zip_longest", "itertools.pairwise"].contains n = false) (hQ : Q () s) : wpAny M A (letOwnedTupleGo tg (.ref it) u) Q E s := by
  unfold letOwnedTupleGo
  cases tg <;> first
    | exact wpAny_pure hQ
    | (cases u <;> first
        | exact wpAny_pure hQ
        | (refine wpAny_bind (wpAny_load ho ?_)
           rw [hc, hd]
           show wpAny M A (if (["enumerate", "zip", "dict_itemiterator", "dict_reverseitemiterator", "odict_iterator", "itertools.zip_longest", "itertools.pairwise"].contains n && vs[0]? == some (rawInt _)) = true then _ else _) Q E s
           rw [if_neg (by intro h; rw [hn, Bool.false_and] at h; cases h)]
           exact wpAny_pure hQ))
noncomputable def Itl (K : PySem.W.Frag) (a : Addr) : It :=
  ⟨fun i H => ∃ xs x, SqL K H a xs ∧ xs[i]? = some x, fun i H x H' => H' = H ∧ ∀ xs, SqL K H a xs → xs[i]? = some x, fun i H => ∃ xs, SqL K H a xs ∧ xs.length ≤ i⟩
noncomputable def Itt (K : PySem.W.Frag) (a : Addr) : It :=
  ⟨fun i H => ∃ xs x, SqT K H a xs ∧ xs[i]? = some x, fun i H x H' => H' = H ∧ ∀ xs, SqT K H a xs → xs[i]? = some x, fun i H => ∃ xs, SqT K H a xs ∧ xs.length ≤ i⟩
noncomputable def Itr (lo : Int) (n : Nat) : It := ⟨fun i _ => i < n, fun i H x H' => H' = H ∧ x = .int (lo + i), fun i _ => n ≤ i⟩
theorem turn_list {P : Program} {w : World} {K : PySem.W.Frag} {tg : Expr} (a it : Addr) : Turn P w K tg (Itl K a) [it] it (fun i h => h.IsListIter it a i) where
  mem := by simp
  obj := fun i h st b hb => by
    have e : b = it := by simpa using hb
    subst e
    obtain ⟨o, e, c, d⟩ := st
    exact ⟨o, e, fun v z => by rw [d] at z; cases z⟩
  keep := fun i h h' st k => st.at fun o e => k it (by simp) o e
  item := by
    intro X hP hw hK hc i pins s σ H E I hf st hg
    subst hP hw hK
    obtain ⟨xs, x, hq, hx⟩ := hg
    obtain ⟨its, rv, p, hz⟩ := I.list hq
    obtain ⟨u, hu, ru⟩ := rv.get hx
    obtain ⟨f0, f1, f2, f3, f4, f5⟩ := hf it (by simp)
    refine wpAny_pyNext_list_item st p.isList (x := u) (by simpa using hu) fun h' st' sb => ?_
    have I1 : Inv X pins σ H { s with heap := h' } := I.turned (t' := s.toks) (fun b o hb e => (sb.2 b hb).trans e) f0 f1 f3 f4 f5
    obtain ⟨o, e, c, d⟩ := id st'
    exact ⟨u, rfl, go_of (s := { s with heap := h' }) e c d (by decide) ⟨x, H, I1, ru, ⟨rfl, fun ys hy => by rw [I.list_inj hy hq]; exact hx⟩, st', fun b hb => (hf b hb).1⟩⟩
  done := by
    intro X hP hw hK hc i pins s σ H E I hf st hg
    subst hP hw hK
    obtain ⟨xs, hq, hx⟩ := hg
    obtain ⟨its, rv, p, hz⟩ := I.list hq
    obtain ⟨f0, f1, f2, f3, f4, f5⟩ := hf it (by simp)
    have hl := rv.length
    exact wpAny_pyNext_list_end (I.ok.hd hc) st p.isList (by simp; omega) fun h' eb => ⟨rfl, I.turned (t' := s.toks) (fun b o hb e => eb b o hb e) f0 f1 f3 f4 f5⟩
  self := fun _ _ _ _ _ st h => wpAny_pyIter_listiter st h
theorem turn_tuple {P : Program} {w : World} {K : PySem.W.Frag} {tg : Expr} (a it : Addr) : Turn P w K tg (Itt K a) [it] it (fun i h => h.IsTupleIter it a i) where
  mem := by simp
  obj := fun i h st b hb => by
    have e : b = it := by simpa using hb
    subst e
    obtain ⟨o, e, c, d⟩ := st
    exact ⟨o, e, fun v z => by rw [d] at z; cases z⟩
  keep := fun i h h' st k => st.at fun o e => k it (by simp) o e
  item := by
    intro X hP hw hK hc i pins s σ H E I hf st hg
    subst hP hw hK
    obtain ⟨xs, x, hq, hx⟩ := hg
    obtain ⟨its, rv, p, hz⟩ := I.tuple hq
    obtain ⟨u, hu, ru⟩ := rv.get hx
    obtain ⟨f0, f1, f2, f3, f4, f5⟩ := hf it (by simp)
    refine wpAny_pyNext_tuple_item st (show s.heap.IsTuple a its.toArray from p) (x := u) (by simpa using hu) fun h' st' sb => ?_
    have I1 : Inv X pins σ H { s with heap := h' } := I.turned (t' := s.toks) (fun b o hb e => (sb.2 b hb).trans e) f0 f1 f3 f4 f5
    obtain ⟨o, e, c, d⟩ := id st'
    exact ⟨u, rfl, go_of (s := { s with heap := h' }) e c d (by decide) ⟨x, H, I1, ru, ⟨rfl, fun ys hy => by rw [I.tuple_inj hy hq]; exact hx⟩, st', fun b hb => (hf b hb).1⟩⟩
  done := by
    intro X hP hw hK hc i pins s σ H E I hf st hg
    subst hP hw hK
    obtain ⟨xs, hq, hx⟩ := hg
    obtain ⟨its, rv, p, hz⟩ := I.tuple hq
    obtain ⟨f0, f1, f2, f3, f4, f5⟩ := hf it (by simp)
    have hl := rv.length
    exact wpAny_pyNext_tuple_end (I.ok.hd hc) st (show s.heap.IsTuple a its.toArray from p) (by simp; omega) fun h' eb => ⟨rfl, I.turned (t' := s.toks) (fun b o hb e => eb b o hb e) f0 f1 f3 f4 f5⟩
  self := fun _ _ _ _ _ st h => wpAny_pyIter_tupleiter st h
theorem turn_range {P : Program} {w : World} {K : PySem.W.Frag} {tg : Expr} (it : Addr) (lo : Int) (n : Nat) : Turn P w K tg (Itr lo n) [it] it (fun i h => IsRangeIter h it (lo + (i : Nat) * 1) ((n : Int) - (i : Nat)) 1) where
  mem := by simp
  obj := fun i h st b hb => by
    have e : b = it := by simpa using hb
    subst e
    exact ⟨_, st, fun v z => by
      have z' : Data.fields _ = Data.cell v := z
      cases z'⟩
  keep := fun i h h' st k => k it (by simp) _ st
  item := by
    intro X hP hw hK hc i pins s σ H E I hf st hg
    subst hP hw hK
    obtain ⟨f0, f1, f2, f3, f4, f5⟩ := hf it (by simp)
    have W := Walks.range (prog := X.prog) (w := X.w) (I.ok.hd hc) it lo 1 n
    refine W.item i s _ _ hg st fun v h' tk hv st' kk => ?_
    obtain ⟨t, rfl⟩ := hv
    have I1 : Inv X pins σ H { s with heap := h', toks := tk } := I.turned (fun b o hb e => kk b o (by simpa using hb) e) f0 f1 f3 f4 f5
    refine ⟨_, rfl, go_of (s := { s with heap := h', toks := tk }) (n := "range_iterator") st' rfl rfl (by decide) ⟨.int (lo + i), H, I1, ⟨t, ?_⟩, ⟨rfl, rfl⟩, st', fun b hb => (hf b hb).1⟩⟩
    rw [Int.mul_one]
  done := by
    intro X hP hw hK hc i pins s σ H E I hf st hg
    subst hP hw hK
    obtain ⟨f0, f1, f2, f3, f4, f5⟩ := hf it (by simp)
    exact wpAny_pyNext_range_end (I.ok.hd hc) st (by have : n ≤ i := hg; omega) fun h' eb => ⟨rfl, I.turned (t' := s.toks) (fun b o hb e => eb b o hb e) f0 f1 f3 f4 f5⟩
  self := fun _ _ _ _ _ st h => wpAny_pyIter_rangeiter st h
end L2
namespace L2
open PySem PySem.Spec PyProof.Rows
section
variable {X : Cx} {tg : Expr}
noncomputable def iList (K : PySem.W.Frag) (tl : TE) : TI := fun σ H R => tl σ H fun x H1 => ∃ a, x = .ref a ∧ (∃ xs, SqL K H1 a xs) ∧ R (Itl K a) H1
theorem pi_list {l : Expr} {tl : TE} (hl : PE X l tl) : PI X tg l (iList X.K tl) := by
  intro pins s σ H R I h
  refine thn (hl pins s σ H _ I h) fun v s1 zz29 => ?_
  obtain ⟨x, H1, I1, r1, q1⟩ := zz29
  obtain ⟨a, e, ⟨xs, hq⟩, q⟩ := q1
  subst e
  cases r1
  obtain ⟨its, rv, p, hz⟩ := I1.list hq
  refine wpAny_pyIter_list p.isList ?_
  refine ⟨s1.heap.objs.size, [s1.heap.objs.size], _, _, H1, rfl, I1.kept (t' := s1.toks) fun b o e => Heap.get?_push_of_some _ e, turn_list a _, ⟨_, Heap.get?_push_size _ rfl, rfl, rfl⟩, fun b hb => ?_, q⟩
  have e : b = s1.heap.objs.size := by simpa using hb
  subst e
  exact I1.fpOk (Nat.le_refl _) (I1.hok.fresh (Nat.le_refl _))
theorem range_it {pins : List (Addr × Obj)} {σ : St} {H : Hp} {s : Shared} {R : It → Hp → Prop} {E : Value → Shared → Prop} {lo hi : Int} {t u v : Tok} {tk : Nat} (I : Inv X pins σ H s) (h1 : -(2 ^ 62) ≤ lo) (h2 : lo < 2 ^ 62) (h3 : -(2 ^ 62) ≤ hi) (h4 : hi < 2 ^ 62)
    (q : R (Itr lo (hi - lo).toNat) H) : wpAny (model X.prog X.w) X.A (pyIter (.ref s.heap.objs.size)) (PIE X pins σ tg R) E { s with heap := s.heap.push { cls := .type "range", data := .fields #[.int lo t, .int hi u, .int 1 v] }, toks := tk } := by
  refine wpAny_pyIter_range (IsRange.new ..) (small_one h1 h2 h3 h4) ?_
  have I1 : Inv X pins σ H { s with heap := s.heap.push { cls := .type "range", data := .fields #[.int lo t, .int hi u, .int 1 v] }, toks := tk } := I.kept fun b o e => Heap.get?_push_of_some _ e
  refine ⟨(s.heap.push { cls := .type "range", data := .fields #[.int lo t, .int hi u, .int 1 v] }).objs.size, [(s.heap.push { cls := .type "range", data := .fields #[.int lo t, .int hi u, .int 1 v] }).objs.size], _, _, H, rfl,
    I1.kept (t' := tk) fun b o e => Heap.get?_push_of_some _ e, turn_range _ lo (hi - lo).toNat, ?_, fun b hb => ?_, q⟩
  · have e1 : lo + ((0 : Nat) : Int) * 1 = lo := by simp
    have e2 : (((hi - lo).toNat : Nat) : Int) - ((0 : Nat) : Int) = Builtin.Range.rangeSize lo hi 1 := by rw [rangeSize_one]; split <;> omega
    show IsRangeIter _ _ (lo + ((0 : Nat) : Int) * 1) ((((hi - lo).toNat : Nat) : Int) - ((0 : Nat) : Int)) 1
    rw [e1, e2]
    exact Heap.get?_push_size _ rfl
  · have e : b = (s.heap.push { cls := .type "range", data := .fields #[.int lo t, .int hi u, .int 1 v] }).objs.size := by simpa using hb
    subst e
    exact I1.fpOk (Nat.le_refl _) (I1.hok.fresh (Nat.le_refl _))
noncomputable def iRng1 (ta : TA) : TI := fun σ H R => ta σ H fun vs H1 => ∃ j : Int, vs = [.int j] ∧ -(2 ^ 62) ≤ j ∧ j < 2 ^ 62 ∧ R (Itr 0 j.toNat) H1
theorem pi_range1 {a : Expr} {ta : TA} {p pos : Pos} (hg : Gl X "range") (hm : X.mg "range" = none) (ha : PA X [a] ta) (hs : starEach [a] X.env = [(false, eval a X.env)] := by rfl) : PI X tg (.Call (.Name "range" p) [a] [] pos) (iRng1 ta) := by
  intro pins s σ H R I h
  refine Call_ (ld_blt I hg hm boot_range (PyProof.Rows.callWith_type1 (thn (ha pos pins s σ H _ I h) fun us s1 zz31 => ?_) hs rfl))
  obtain ⟨vs, H1, I1, r1, q1⟩ := zz31
  obtain ⟨j, e, q1, q2, q⟩ := q1
  subst e
  cases r1 with
  | cons r rr =>
    cases rr
    obtain ⟨t, rfl⟩ := r
    exact call_range_1 (range_it I1 (by omega) (by omega) q1 q2 (by simpa using q))
noncomputable def tFor (wi : TI) (g : TG) (tb : TS) : TS := fun D σ H => wi σ H fun J H1 => ∃ W : Nat → Nat → St → Hp → Prop, (∃ m, W 0 m σ H1) ∧ ∀ i m σ H, W i m σ H →
  (J.stop i H ∧ D.nx σ H) ∨ (J.go i H ∧ ∃ N : St → Hp → Prop, (∀ σ' H', N σ' H' → ∃ m', m' < m ∧ W (i + 1) m' σ' H') ∧ ∀ x H', J.yld i H x H' → g x σ H' fun σ2 H2 => tb { D with nx := N, ct := N, bk := D.nx } σ2 H2)
noncomputable def pinsAt (fp : List Addr) (h : Heap) : List (Addr × Obj) := fp.filterMap fun b => (h.get? b).map fun o => (b, o)
theorem mem_pinsAt {fp : List Addr} {h : Heap} {b : Addr} {o : Obj} (hb : b ∈ fp) (e : h.get? b = some o) : (b, o) ∈ pinsAt fp h := List.mem_filterMap.mpr ⟨b, hb, by rw [e]; rfl⟩
theorem of_pinsAt {fp : List Addr} {h : Heap} {p : Addr × Obj} (hp : p ∈ pinsAt fp h) : p.1 ∈ fp ∧ h.get? p.1 = some p.2 := by
  obtain ⟨b, hb, e⟩ := List.mem_filterMap.mp hp
  cases q : h.get? b with
  | none => rw [q] at e; cases e
  | some o =>
    rw [q] at e
    have e' : (b, o) = p := Option.some.inj e
    subst e'
    exact ⟨hb, q⟩
theorem Inv.pinned {pins : List (Addr × Obj)} {σ : St} {H : Hp} {s : Shared} {fp : List Addr} (I : Inv X pins σ H s) (hf : ∀ b ∈ fp, FpOk X pins H b) (ho : ∀ b ∈ fp, ∃ o, s.heap.get? b = some o ∧ ∀ v, o.data ≠ .cell v) : Inv X (pins ++ pinsAt fp s.heap) σ H s :=
  I.pins_of fun p hp => (List.mem_append.mp hp).elim (fun z => I.pin p (List.mem_append_right _ z)) fun z => by
    obtain ⟨hb, e⟩ := of_pinsAt z
    obtain ⟨f0, f1, f2, _⟩ := hf p.1 hb
    obtain ⟨o, e', d⟩ := ho p.1 hb
    rw [e] at e'; cases e'
    exact ⟨e, f0, f1, f2, d⟩
theorem Inv.unpinned {pins pl : List (Addr × Obj)} {σ : St} {H : Hp} {s : Shared} (I : Inv X (pins ++ pl) σ H s) : Inv X pins σ H s := I.pins_of fun p hp => I.pin p (List.mem_append_right _ (List.mem_append_left _ hp))
theorem ps_for {iter : Expr} {body : List Stmt} {wi : TI} {g : TG} {tb : TS} {pos : Pos} (hp : PassesOwn (model X.prog X.w) X.A X.env X.xe) (hc : X.calm = true) (hi : PI X tg iter wi) (hg : PG X tg g) (hb : PSs X body tb)
    (hs : ∀ x, foldedSetIterable iter X.env x = pure x := by intro _; rfl) : PS X (.For tg iter body [] pos) (tFor wi g tb) := by
  intro pins s σ H D I h
  refine wpAny_For (thn (hi pins s σ H _ I h) fun v s1 h1 => thn h1 fun itv s2 h2 => ?_) hs
  obtain ⟨it, fp, tn, J, H2, e, I2, T, st2, f2, W, ⟨m0, w0⟩, turn⟩ := h2
  subst e
  have stat : ∀ {H' : Hp}, (∀ b ∈ fp, H' b = none) → ∀ b ∈ fp, FpOk X pins H' b := fun hn b hb => ⟨hn b hb, (f2 b hb).2⟩
  refine codeAny_forLoop_any (fun n s' => ∃ i σ' H', Inv X pins σ' H' s' ∧ tn i s'.heap ∧ (∀ b ∈ fp, H' b = none) ∧ W i n σ' H') ?_ m0 ⟨0, σ, H2, I2, st2, fun b hb => (f2 b hb).1, w0⟩
  rintro n s3 ⟨i, σ3, H3, I3, st3, fr3, w3⟩
  rcases turn i n σ3 H3 w3 with ⟨stop, qn⟩ | ⟨go, N, hN, step⟩
  · refine wpAny_passesOwn hp (thn (T.done X rfl rfl rfl hc i pins s3 σ3 H3 X.xe I3 (stat fr3) st3 stop) fun r s4 zz32 => ?_)
    obtain ⟨hr, I4⟩ := zz32
    subst hr
    exact wpAny_execs_nil ⟨σ3, H3, I4, qn⟩
  · refine wpAny_passesOwn hp (thn (T.item X rfl rfl rfl hc i pins s3 σ3 H3 X.xe I3 (stat fr3) st3 go) fun r s4 zz33 => ?_)
    obtain ⟨u, hr, h4⟩ := zz33
    subst hr
    refine wpAny_passesOwn hp (thn h4 fun _ s5 zz34 => ?_)
    obtain ⟨x, H5, I5, r5, y5, st5, fr5⟩ := zz34
    have I5' := I5.pinned (stat fr5) (T.obj _ _ st5)
    refine wpAny_passesOwn hp (thn (hg _ s5 σ3 H5 x u _ I5' r5 (step x H5 y5)) fun _ s6 zz35 => ?_)
    obtain ⟨σ6, H6, I6, q6⟩ := zz35
    refine wpAny_passesOwn hp (thn (hb _ s6 σ6 H6 _ I6 q6) fun f s7 q7 => ?_)
    have again : ∀ {σ7 : St} {H7 : Hp}, Inv X (pins ++ pinsAt fp s5.heap) σ7 H7 s7 → N σ7 H7 → ∃ m, m < n ∧ ∃ i σ' H', Inv X pins σ' H' s7 ∧ tn i s7.heap ∧ (∀ b ∈ fp, H' b = none) ∧ W i m σ' H' := fun {σ7 H7} I7 n7 => by
      obtain ⟨m', hm, w7⟩ := hN σ7 H7 n7
      refine ⟨m', hm, i + 1, σ7, H7, I7.unpinned, T.keep _ _ _ st5 fun b hb o e => (I7.pin (b, o) (List.mem_append_right _ (List.mem_append_right _ (mem_pinsAt hb e)))).1, fun b hb => ?_, w7⟩
      obtain ⟨o, e, d⟩ := T.obj _ _ st5 b hb
      exact (I7.pin (b, o) (List.mem_append_right _ (List.mem_append_right _ (mem_pinsAt hb e)))).2.1
    cases f with
    | next => obtain ⟨σ7, H7, I7, n7⟩ := q7; exact again I7 n7
    | cont => obtain ⟨σ7, H7, I7, n7⟩ := q7; exact again I7 n7
    | brk => obtain ⟨σ7, H7, I7, q7⟩ := q7; exact ⟨σ7, H7, I7.unpinned, q7⟩
    | ret v => obtain ⟨x7, σ7, H7, I7, r7, q7⟩ := q7; exact ⟨x7, σ7, H7, I7.unpinned, r7, q7⟩
end
theorem for_list {K : PySem.W.Frag} {a : Addr} {xs : List V} {g : TG} {tb : TS} {D : Ends} {σ : St} {H : Hp} (Pv : Nat → St → Hp → Prop) (h0 : Pv 0 σ H) (hl : ∀ i σ H, i ≤ xs.length → Pv i σ H → SqL K H a xs)
    (hs : ∀ i x σ H, xs[i]? = some x → Pv i σ H → g x σ H fun σ2 H2 => tb { D with nx := Pv (i + 1), ct := Pv (i + 1), bk := D.nx } σ2 H2) (hd : ∀ σ H, Pv xs.length σ H → D.nx σ H) :
    ∃ W : Nat → Nat → St → Hp → Prop, (∃ m, W 0 m σ H) ∧ ∀ i m σ H, W i m σ H →
      ((Itl K a).stop i H ∧ D.nx σ H) ∨ ((Itl K a).go i H ∧ ∃ N : St → Hp → Prop, (∀ σ' H', N σ' H' → ∃ m', m' < m ∧ W (i + 1) m' σ' H') ∧ ∀ x H', (Itl K a).yld i H x H' → g x σ H' fun σ2 H2 => tb { D with nx := N, ct := N, bk := D.nx } σ2 H2) := by
  refine ⟨fun i m σ H => m = xs.length - i ∧ i ≤ xs.length ∧ Pv i σ H, ⟨xs.length, by simp, Nat.zero_le _, h0⟩, ?_⟩
  rintro i m σ H ⟨rfl, hi, p⟩
  have q := hl i σ H hi p
  by_cases hlt : i < xs.length
  · refine .inr ⟨⟨xs, xs[i], q, by simp [hlt]⟩, Pv (i + 1), fun σ' H' p' => ⟨xs.length - (i + 1), by omega, rfl, hlt, p'⟩, fun x H' y => ?_⟩
    obtain ⟨e, y⟩ := y
    subst e
    exact hs i x σ _ (y xs q) p
  · have e : i = xs.length := by omega
    subst e
    exact .inl ⟨⟨xs, q, Nat.le_refl _⟩, hd σ H p⟩
end L2
namespace L2
open PySem PySem.Spec PyProof.Rows
noncomputable abbrev R2 := V → V → Hp → VK → Prop
noncomputable def OpR (X : Cx) (f : Value → Value → Sem Value) (r : R2) : Prop :=
  ∀ (pins : List (Addr × Obj)) (s : Shared) (σ : St) (H : Hp) (x y : V) (v u : Value) (Q : VK), Inv X pins σ H s → RelV x v → RelV y u → r x y H Q →
    wpAny (model X.prog X.w) X.A (f v u) (EP X pins σ Q) X.xe s
noncomputable def UnR (X : Cx) (f : Value → Sem Value) (r : V → Hp → VK → Prop) : Prop :=
  ∀ (pins : List (Addr × Obj)) (s : Shared) (σ : St) (H : Hp) (x : V) (v : Value) (Q : VK), Inv X pins σ H s → RelV x v → r x H Q →
    wpAny (model X.prog X.w) X.A (f v) (EP X pins σ Q) X.xe s
noncomputable def CallR (X : Cx) (f : Value) (r : List V → Hp → VK → Prop) : Prop :=
  ∀ (pins : List (Addr × Obj)) (s : Shared) (σ : St) (H : Hp) (xs : List V) (us : List Value) (Q : VK), Inv X pins σ H s → Vals xs us → r xs H Q →
    wpAny (model X.prog X.w) X.A (call f us) (EP X pins σ Q) X.xe s
noncomputable def tOp (r : R2) (ta tb : TE) : TE := fun σ H Q => ta σ H fun x H1 => tb σ H1 fun y H2 => r x y H2 Q
noncomputable def tUn (r : V → Hp → VK → Prop) (ta : TE) : TE := fun σ H Q => ta σ H fun x H1 => r x H1 Q
noncomputable def rI (C : Int → Int → Prop) (g : Int → Int → V) : R2 := fun x y H Q => ∃ i j, x = .int i ∧ y = .int j ∧ C i j ∧ Q (g i j) H
noncomputable def rI0 (g : Int → Int → V) : R2 := fun x y H Q => ∃ i j, x = .int i ∧ y = .int j ∧ Q (g i j) H
noncomputable def rU (g : Int → V) : V → Hp → VK → Prop := fun x H Q => ∃ i, x = .int i ∧ Q (g i) H
section
variable {X : Cx} {a b c : Expr} {ta tb tc : TE} {pos : Pos}
theorem binT (ha : PE X a ta) (hb : PE X b tb) {pins : List (Addr × Obj)} {s : Shared} {σ : St} {H : Hp} {R : V → V → Hp → Prop} (I : Inv X pins σ H s)
    (h : ta σ H fun x H1 => tb σ H1 fun y H2 => R x y H2) {Q : Value → Shared → Prop} {f : Value → Value → Sem Value}
    (hf : ∀ v u s2 x y H2, Inv X pins σ H2 s2 → RelV x v → RelV y u → R x y H2 → wpAny (model X.prog X.w) X.A (f v u) Q X.xe s2) :
    wpAny (model X.prog X.w) X.A (eval a X.env) (fun v s₁ => wpAny (model X.prog X.w) X.A (eval b X.env) (fun u s₂ => wpAny (model X.prog X.w) X.A (f v u) Q X.xe s₂) X.xe s₁) X.xe s := by
  refine thn (ha pins s σ H _ I h) fun v s1 zz36 => ?_
  obtain ⟨x, H1, I1, r1, q1⟩ := zz36
  refine thn (hb pins s1 σ H1 _ I1 q1) fun u s2 zz37 => ?_
  obtain ⟨y, H2, I2, r2, q2⟩ := zz37
  exact hf v u s2 x y H2 I2 r1 r2 q2
theorem pe_op {op : Operator} {r : R2} (ho : OpR X (binaryOp op) r) (ha : PE X a ta) (hb : PE X b tb) : PE X (.BinOp a op b pos) (tOp r ta tb) := by
  intro pins s σ H Q I h
  exact wpAny_BinOp (binT ha hb I h fun v u s2 x y H2 I2 rx ry q => ho pins s2 σ H2 x y v u Q I2 rx ry q)
theorem pe_un {op : UnaryOp} {r : V → Hp → VK → Prop} (ho : UnR X (unaryOp op) r) (ha : PE X a ta) : PE X (.UnaryOp op a pos) (tUn r ta) := by
  intro pins s σ H Q I h
  exact UnaryOp_ (thn (ha pins s σ H _ I h) fun v s1 ⟨x, H1, I1, r1, q1⟩ => ho pins s1 σ H1 x v Q I1 r1 q1)
theorem opI {f : Value → Value → Sem Value} {C : Int → Int → Prop} {g : Int → Int → Int}
    (rule : ∀ (i j : Int) (t u : Tok) (s : Shared) (Q : Value → Shared → Prop) (E : Value → Shared → Prop), C i j → Q (.int (g i j) s.toks) { s with toks := s.toks + 1 } → wpAny (model X.prog X.w) X.A (f (.int i t) (.int j u)) Q E s) :
    OpR X f (rI C fun i j => .int (g i j)) := by
  intro pins s σ H x y v u Q I rx ry h
  obtain ⟨i, j, rfl, rfl, hc, q⟩ := h
  obtain ⟨t, rfl⟩ := rx
  obtain ⟨t', rfl⟩ := ry
  exact rule i j t t' s _ _ hc ⟨.int (g i j), H, I.tok _, ⟨_, rfl⟩, q⟩
theorem opI0 {f : Value → Value → Sem Value} {g : Int → Int → Int}
    (rule : ∀ (i j : Int) (t u : Tok) (s : Shared) (Q : Value → Shared → Prop) (E : Value → Shared → Prop), Q (.int (g i j) s.toks) { s with toks := s.toks + 1 } → wpAny (model X.prog X.w) X.A (f (.int i t) (.int j u)) Q E s) :
    OpR X f (rI0 fun i j => .int (g i j)) := by
  intro pins s σ H x y v u Q I rx ry h
  obtain ⟨i, j, rfl, rfl, q⟩ := h
  obtain ⟨t, rfl⟩ := rx
  obtain ⟨t', rfl⟩ := ry
  exact rule i j t t' s _ _ ⟨.int (g i j), H, I.tok _, ⟨_, rfl⟩, q⟩
theorem opB0 {f : Value → Value → Sem Value} {g : Int → Int → Bool}
    (rule : ∀ (i j : Int) (t u : Tok) (s : Shared) (Q : Value → Shared → Prop) (E : Value → Shared → Prop), Q (.bool (g i j)) s → wpAny (model X.prog X.w) X.A (f (.int i t) (.int j u)) Q E s) :
    OpR X f (rI0 fun i j => .bl (g i j)) := by
  intro pins s σ H x y v u Q I rx ry h
  obtain ⟨i, j, rfl, rfl, q⟩ := h
  obtain ⟨t, rfl⟩ := rx
  obtain ⟨t', rfl⟩ := ry
  exact rule i j t t' s _ _ ⟨.bl (g i j), H, I, rfl, q⟩
noncomputable def CDiv (i j : Int) : Prop := 0 < j ∧ j < 1073741824
noncomputable def CPow (i j : Int) : Prop := 0 ≤ j ∧ j ≤ 1000000 ∧ i.natAbs < 2 ^ 64
noncomputable def CMul (i j : Int) : Prop := (-(2 ^ 64) < i ∧ i < 2 ^ 64) ∨ (-(2 ^ 64) < j ∧ j < 2 ^ 64)
theorem CMul.ok {i j : Int} (h : CMul i j) : IntMulOk i j := by
  rcases h with ⟨h1, h2⟩ | ⟨h1, h2⟩
  · exact .of_left (intBits_le_64 h1 h2)
  · exact .of_right (intBits_le_64 h1 h2)
theorem op_add : OpR X (binaryOp .Add) (rI0 fun i j => .int (i + j)) := opI0 fun _ _ _ _ _ _ _ q => add_int q
theorem op_sub : OpR X (binaryOp .Sub) (rI0 fun i j => .int (i - j)) := opI0 fun _ _ _ _ _ _ _ q => sub_int q
theorem op_mul : OpR X (binaryOp .Mult) (rI CMul fun i j => .int (i * j)) := opI fun _ _ _ _ _ _ _ hc q => mul_int q hc.ok
theorem op_fdiv : OpR X (binaryOp .FloorDiv) (rI CDiv fun i j => .int (i / j)) := opI fun i j _ _ _ _ _ hc q => by
  have h1 : (0 : Int) < j := hc.1
  have h2 : j < 1073741824 := hc.2
  exact floordiv_int (by omega) (by rw [Int.fdiv_eq_ediv_of_nonneg i (by omega)]; exact q) (.inl (PyProof.noPylong_small (by omega)))
theorem op_mod : OpR X (binaryOp .Mod) (rI (fun _ j => 0 < j) fun i j => .int (i % j)) := opI fun i j _ _ _ _ _ hc q => by
  have h1 : (0 : Int) < j := hc
  exact mod_int' (by omega) (by rw [Int.fmod_eq_emod_of_nonneg i (by omega)]; exact q)
theorem op_pow : OpR X (binaryOp .Pow) (rI CPow fun i j => .int (i ^ j.toNat)) := opI fun _ _ _ _ _ _ _ hc q => pow_int_small hc.1 hc.2.1 hc.2.2 q
theorem unI {f : Value → Sem Value} {g : Int → Int}
    (rule : ∀ (i : Int) (t : Tok) (s : Shared) (Q : Value → Shared → Prop) (E : Value → Shared → Prop), Q (.int (g i) s.toks) { s with toks := s.toks + 1 } → wpAny (model X.prog X.w) X.A (f (.int i t)) Q E s) :
    UnR X f (rU fun i => .int (g i)) := by
  intro pins s σ H x v Q I rx h
  obtain ⟨i, rfl, q⟩ := h
  obtain ⟨t, rfl⟩ := rx
  exact rule i t s _ _ ⟨.int (g i), H, I.tok _, ⟨_, rfl⟩, q⟩
theorem un_neg : UnR X (unaryOp .USub) (rU fun i => .int (-i)) := unI fun _ _ _ _ _ q => neg_int q
end
section
variable {X : Cx} {a b c : Expr} {ta tb tc : TE} {pos : Pos}
theorem op_lt : OpR X (compareOp .Lt) (rI0 fun i j => .bl (decide (i < j))) := opB0 fun _ _ _ _ _ _ _ q => lt_int q
theorem op_le : OpR X (compareOp .LtE) (rI0 fun i j => .bl (decide (i ≤ j))) := opB0 fun _ _ _ _ _ _ _ q => le_int q
theorem op_gt : OpR X (compareOp .Gt) (rI0 fun i j => .bl (decide (j < i))) := opB0 fun _ _ _ _ _ _ _ q => gt_int q
theorem op_ge : OpR X (compareOp .GtE) (rI0 fun i j => .bl (decide (j ≤ i))) := opB0 fun _ _ _ _ _ _ _ q => ge_int q
theorem OpR.or {f : Value → Value → Sem Value} {r r' : R2} (h : OpR X f r) (h' : OpR X f r') : OpR X f (fun x y H Q => r x y H Q ∨ r' x y H Q) := by
  intro pins s σ H x y v u Q I rx ry q
  rcases q with q | q
  · exact h pins s σ H x y v u Q I rx ry q
  · exact h' pins s σ H x y v u Q I rx ry q
theorem nomark (b : Expr) {op : CmpOp} (h : op ≠ .In := by decide) (h2 : op ≠ .NotIn := by decide) : behindInMarks op b = false := by
  have e1 : (op == CmpOp.In) = false := by cases op <;> first | rfl | exact absurd rfl h
  have e2 : (op == CmpOp.NotIn) = false := by cases op <;> first | rfl | exact absurd rfl h2
  cases b <;> simp [behindInMarks, e1, e2]
theorem pe_cmpR {op : CmpOp} {r : R2} (ho : OpR X (compareOp op) r) (ha : PE X a ta) (hb : PE X b tb) (hm : behindInMarks op b = false) : PE X (.Compare a [op] [b] pos) (tOp r ta tb) := by
  intro pins s σ H Q I h
  exact wpAny_Compare1 (binT ha hb I h fun v u s2 x y H2 I2 rx ry q => ho pins s2 σ H2 x y v u Q I2 rx ry q) hm
noncomputable def tTest (t : TE) : TT := fun σ H Q => t σ H fun x H' => ∃ k, x = .bl k ∧ Q k H'
theorem pt_cmpR {op : CmpOp} {r : R2} (ho : OpR X (compareOp op) r) (ha : PE X a ta) (hb : PE X b tb) (hm : behindInMarks op b = false) : PT X (.Compare a [op] [b] pos) (tTest (tOp r ta tb)) := by
  intro pins s σ H Q I h
  refine wpAny_isTrue_Compare1 (thn (ha pins s σ H _ I h) fun v s1 ⟨x, H1, I1, r1, q1⟩ => thn (hb pins s1 σ H1 _ I1 q1) fun u s2 ⟨y, H2, I2, r2, q2⟩ =>
    thn (ho pins s2 σ H2 x y v u _ I2 r1 r2 q2) fun c s3 ⟨z, H3, I3, r3, k, e, q3⟩ => ?_) hm
  subst e
  cases r3
  exact wpAny_truthy_bool ⟨H3, I3, q3⟩
noncomputable def tChain (r r' : R2) (ta tb tc : TE) : TE := fun σ H Q => ta σ H fun x H1 => tb σ H1 fun y H2 => r x y H2 fun z H3 => ∃ k, z = .bl k ∧
  (if k = true then tc σ H3 fun w' H4 => r' y w' H4 Q else Q (.bl false) H3)
theorem pe_chain {op op' : CmpOp} {r r' : R2} (ho : OpR X (compareOp op) r) (ho' : OpR X (compareOp op') r') (ha : PE X a ta) (hb : PE X b tb) (hc : PE X c tc)
    (hm : lastMarks [op, op'] [b, c] = false := by with_unfolding_all rfl) : PE X (.Compare a [op, op'] [b, c] pos) (tChain r r' ta tb tc) := by
  intro pins s σ H Q I h
  refine Compare_chain (thn (ha pins s σ H _ I h) fun v s1 ⟨x, H1, I1, r1, q1⟩ => chain_link (thn (hb pins s1 σ H1 _ I1 q1) fun u s2 ⟨y, H2, I2, r2, q2⟩ =>
    thn (ho pins s2 σ H2 x y v u _ I2 r1 r2 q2) fun d s3 ⟨z, H3, I3, r3, k, e, q3⟩ => ?_)) hm
  subst e
  cases r3
  refine wpAny_truthy_bool ?_
  cases k with
  | false => exact ite_ff ⟨.bl false, H3, I3, rfl, q3⟩
  | true => exact ite_tt (chain_last (thn (hc pins s3 σ H3 _ I3 q3) fun w' s4 ⟨z', H4, I4, r4, q4⟩ => ho' pins s4 σ H4 y z' u w' Q I4 r2 r4 q4))
theorem pt_chain {op op' : CmpOp} {r r' : R2} (ho : OpR X (compareOp op) r) (ho' : OpR X (compareOp op') r') (ha : PE X a ta) (hb : PE X b tb) (hc : PE X c tc)
    (hm : lastMarks [op, op'] [b, c] = false := by with_unfolding_all rfl) : PT X (.Compare a [op, op'] [b, c] pos) (tTest (tChain r r' ta tb tc)) := by
  intro pins s σ H Q I h
  refine isTrue_chain (thn (ha pins s σ H _ I h) fun v s1 ⟨x, H1, I1, r1, q1⟩ => test_link (thn (hb pins s1 σ H1 _ I1 q1) fun u s2 ⟨y, H2, I2, r2, q2⟩ =>
    thn (ho pins s2 σ H2 x y v u _ I2 r1 r2 q2) fun d s3 ⟨z, H3, I3, r3, k, e, q3⟩ => ?_)) hm
  subst e
  cases r3
  refine wpAny_truthy_bool ?_
  cases k with
  | false =>
    obtain ⟨k', e', q'⟩ := q3
    cases e'
    exact ite_ff ⟨H3, I3, q'⟩
  | true =>
    refine ite_tt (test_last (thn (hc pins s3 σ H3 _ I3 q3) fun w' s4 ⟨z', H4, I4, r4, q4⟩ => thn (ho' pins s4 σ H4 y z' u w' _ I4 r2 r4 q4) fun d' s5 zz38 => ?_))
    obtain ⟨z2, H5, I5, r5, k2, e2, q5⟩ := zz38
    subst e2
    cases r5
    exact wpAny_truthy_bool ⟨H5, I5, q5⟩
theorem line63 : (sizeLine : Nat) < 2 ^ 63 := by rw [sizeLine_eq]; decide
theorem vals1 {x : V} {us : List Value} (r : Vals [x] us) : ∃ u, us = [u] ∧ RelV x u := by
  cases r with
  | cons r1 r2 => cases r2; exact ⟨_, rfl, r1⟩
theorem vals2 {x y : V} {us : List Value} (r : Vals [x, y] us) : ∃ u w', us = [u, w'] ∧ RelV x u ∧ RelV y w' := by
  cases r with
  | cons r1 r2 =>
    cases r2 with
    | cons r3 r4 => cases r4; exact ⟨_, _, rfl, r1, r3⟩
theorem call_max2 (hc : X.calm = true) : CallR X (.builtin "max") (fun xs H Q => ∃ i j, xs = [.int i, .int j] ∧ Q (.int (if j > i then j else i)) H) := by
  intro pins s σ H xs us Q I r h
  obtain ⟨i, j, rfl, q⟩ := h
  obtain ⟨u, w', rfl, ⟨t, rfl⟩, ⟨t', rfl⟩⟩ := vals2 r
  refine max_two_ints (I.ok.hd hc) fun h' tk k => ⟨_, H, I.kept k, ?_, q⟩
  by_cases hj : j > i
  · rw [if_pos hj, if_pos hj]; exact ⟨_, rfl⟩
  · rw [if_neg hj, if_neg hj]; exact ⟨_, rfl⟩
end
end L2
namespace L2
open PySem PySem.Spec PyProof.Rows
structure ObjM (h : Heap) (x dx C : Addr) (mA : Str → Option Value) : Prop where
  obj : h.get? x = some (PySem.W.instObj C dx)
  ns : h.Ns1 dx mA
  ne : dx ≠ x
theorem lookIn_ns {h : Heap} {dx : Addr} {mA : Str → Option Value} (n : h.Ns1 dx mA) : ∃ od, h.get? dx = some od ∧ ∀ name, PySem.W.lookIn name od = some (mA name) := by
  obtain ⟨o, es, ep, ho, hd, hk, _, hm⟩ := n
  refine ⟨o, ho, fun name => ?_⟩
  have e := hm name
  unfold nsFind findBy at e
  rw [← Array.find?_toList] at e
  unfold PySem.W.lookIn
  rw [hd]
  dsimp only
  split
  · rename_i y q
    rw [q] at e
    exact congrArg some e
  · rename_i q
    rw [q] at e
    have a : es.toList.any (·.refKey) = false := by
      rw [List.any_eq_false]
      intro y hy
      obtain ⟨z, t, hkey⟩ := hk y (Array.mem_toList_iff.mp hy)
      simp [DictEntry.refKey, hkey]
    have a' : ¬ es.toList.any (·.refKey) = true := by rw [a]; exact Bool.false_ne_true
    rw [if_neg a']
    exact congrArg some e
theorem ObjM.look {h : Heap} {x dx C : Addr} {mA : Str → Option Value} (I : ObjM h x dx C mA) : ∃ od, PySem.W.InstAt h x (PySem.W.instObj C dx) C (some od) ∧ ∀ name, PySem.W.lookIn name od = some (mA name) :=
  let ⟨od, ho, hl⟩ := lookIn_ns I.ns
  ⟨od, ⟨I.obj, rfl, rfl, ho⟩, hl⟩
section
variable {prog : Program} {w : World} {A : Around} {E : Value → Shared → Prop} {s : Shared} {K : PySem.W.Frag} {x dx C f : Addr} {mA : Str → Option Value} {name : Str} {v : Value}
theorem get_map {expr : Bool} {Q : Value → Shared → Prop} (X : K.In s.heap) (I : ObjM s.heap x dx C mA) (hg : PySem.W.plainGet K C name = true) (hh : PySem.W.hasDictIn K C = true)
    (ha : PySem.W.findIn K (.ref C) name = some none) (hv : mA name = some v) (hv' : PySem.W.handedIn v = true) (h : Q v { s with toks := s.toks + 1 }) :
    wpAny (model prog w) A (getAttr (.ref x) name expr) Q E s := by
  obtain ⟨od, J, hl⟩ := I.look
  exact PySem.W.get_value X J (PySem.W.plainGet_of hg).1 (PySem.W.findObj_own hh ha rfl (by rw [hl, hv])) hv' h
theorem set_map {ns : List Str} {Q : Unit → Shared → Prop} (X : K.In s.heap) (I : ObjM s.heap x dx C mA)
    (hs : PySem.W.findIn K (.ref C) "__setattr__" = some (some (.builtin "object.__setattr__"))) (hp : PySem.W.plainOver K C = true) (ht : PySem.W.takerIn K C name = some none) (hh : PySem.W.hasDictIn K C = true)
    (hw : PySem.Within mA ns) (hsz : ns.length ≤ sizeLine)
    (h : ∀ h', ObjM h' x dx C (fun y => if y = name then some v else mA y) → Heap.SameBut dx s.heap h' → Q () { s with heap := h', toks := s.toks + 2 }) :
    wpAny (model prog w) A (setAttr (.ref x) name v) Q E s := by
  obtain ⟨od, J, hl⟩ := I.look
  refine PySem.W.set_plain X J hs (PySem.W.osa_open (s := { s with toks := s.toks + 1 }) (r := none) X J hp ht fun b => ?_)
  obtain ⟨cd, hc, hd'⟩ := PySem.W.any_some hh
  have hx : s.heap.get? x = some ⟨.ref C, some dx, .plain, #[]⟩ := I.obj
  refine wpAny_bind (wpAny_pure (wpAny_bind (wpAny_bind (wpAny_loadPart hx (wpAny_bind (PySem.W.Looks.here (s := { s with toks := s.toks + 1 }) (PySem.W.looks_clsIn X hc) ?_))))))
  rw [hd']
  refine wpAny_pure (a := some dx) (wpAny_bind (wpAny_pure (wpAny_bind ?_)))
  refine wpAny_nsSet1 (s := { s with toks := s.toks + 1 }) I.ns fun h' hn2 hs2 => ?_
  obtain ⟨oD, esD, epD, hoD, hdD, hcD⟩ := hn2.count (PySem.Within.cons name v hw)
  refine wpAny_bind (wpAny_lookBehind hoD (by rw [hdD]; exact pastItsLine_dict (Nat.le_trans hcD (by rw [List.length_cons]; omega))) ?_)
  exact wpAny_pure (h _ ⟨(hs2.2 _ (Ne.symm I.ne)).trans I.obj, hn2, I.ne⟩ hs2)
theorem make_map {R : Result → Shared → Prop} {vs : List Value} {kw : List (Str × Value)} (X : K.In s.heap) (hm : PySem.W.makesIn K C = true)
    (hi : PySem.W.findIn K (.ref C) "__init__" = some (some (.ref f))) (hf : PySem.W.typeIn K (.ref f) = some (.type "function"))
    (h : codeAny (model prog w) (A.under (.builtin "type.__call__" ⟨.ref C :: vs, kw⟩)) (.call (.ref f) ⟨.ref (s.heap.objs.size + 1) :: vs, kw⟩) (PySem.W.InitBack (s.heap.objs.size + 1) R)
      { s with heap := (s.heap.push PySem.W.emptyDict).push (PySem.W.instObj C s.heap.objs.size) }) :
    codeAny (model prog w) A (.call (.ref C) ⟨vs, kw⟩) R s := by
  obtain ⟨hh, g, d, t, os⟩ := s
  exact PySem.W.make_core (PySem.W.makes_of X hm) (PySem.W.looks_findIn X hi) (fun self => PySem.W.bind_fn X self hf) (.inl rfl) h
end
noncomputable def putF (f : Str) (v : V) : List (Str × V) → List (Str × V)
  | [] => [(f, v)]
  | (g, x) :: r => if g = f then (g, v) :: r else (g, x) :: putF f v r
theorem lookup_putF (f g : Str) (v : V) : ∀ fs : List (Str × V), (putF f v fs).lookup g = if g = f then some v else fs.lookup g
  | [] => by
    show List.lookup g [(f, v)] = _
    by_cases h : g = f
    · have hb : (g == f) = true := beq_iff_eq.mpr h
      simp only [List.lookup, hb, if_pos h]
    · have hb : (g == f) = false := beq_eq_false_iff_ne.mpr h
      simp only [List.lookup, hb, if_neg h]
  | (k, x) :: r => by
    have ih := lookup_putF f g v r
    rw [show putF f v ((k, x) :: r) = (if k = f then (k, v) :: r else (k, x) :: putF f v r) from rfl]
    by_cases hk : k = f
    · rw [if_pos hk]
      by_cases h : g = k
      · have hb : (g == k) = true := beq_iff_eq.mpr h
        simp only [List.lookup, hb, if_pos (h.trans hk)]
      · have hb : (g == k) = false := beq_eq_false_iff_ne.mpr h
        simp only [List.lookup, hb, if_neg (fun e : g = f => h (e.trans hk.symm))]
    · rw [if_neg hk]
      by_cases h : g = k
      · have hb : (g == k) = true := beq_iff_eq.mpr h
        simp only [List.lookup, hb, if_neg (fun e : g = f => hk (h.symm.trans e))]
      · have hb : (g == k) = false := beq_eq_false_iff_ne.mpr h
        simp only [List.lookup, hb]
        exact ih
theorem keys_putF (f : Str) (v : V) : ∀ fs : List (Str × V), f ∈ (putF f v fs).map (·.1) ∧ ∀ g, g ∈ fs.map (·.1) → g ∈ (putF f v fs).map (·.1)
  | [] => ⟨by simp [putF], fun g h => by simp at h⟩
  | (k, x) :: r => by
    obtain ⟨i1, i2⟩ := keys_putF f v r
    rw [show putF f v ((k, x) :: r) = (if k = f then (k, v) :: r else (k, x) :: putF f v r) from rfl]
    by_cases hk : k = f
    · rw [if_pos hk]
      subst hk
      exact ⟨by simp, fun g h => by simpa using h⟩
    · rw [if_neg hk]
      refine ⟨?_, fun g h => ?_⟩
      · rw [List.map_cons]
        exact List.mem_cons_of_mem _ i1
      · rw [List.map_cons] at h ⊢
        rcases List.mem_cons.mp h with e | e
        · exact List.mem_cons.mpr (.inl e)
        · exact List.mem_cons_of_mem _ (i2 g e)
theorem length_putF (f : Str) (v : V) : ∀ fs : List (Str × V), (putF f v fs).length ≤ fs.length + 1
  | [] => by simp [putF]
  | (k, x) :: r => by
    have ih := length_putF f v r
    rw [show putF f v ((k, x) :: r) = (if k = f then (k, v) :: r else (k, x) :: putF f v r) from rfl]
    by_cases hk : k = f
    · rw [if_pos hk, List.length_cons, List.length_cons]; omega
    · rw [if_neg hk, List.length_cons, List.length_cons]; omega
theorem RelO.some_of {v : V} {o : Option Value} (r : RelO (some v) o) : ∃ u, o = some u ∧ RelV v u := by
  cases o with
  | none => exact (show False from r).elim
  | some u => exact ⟨u, rfl, r⟩
theorem handed_of {v : V} {u : Value} (r : RelV v u) : PySem.W.handedIn u = true := by
  cases v with
  | non => cases (show u = Value.none from r); rfl
  | bl b => cases (show u = Value.bool b from r); rfl
  | int i => obtain ⟨t, e⟩ := (show ∃ t, u = Value.int i t from r); cases e; rfl
  | str x => obtain ⟨t, e⟩ := (show ∃ t, u = Value.str x t from r); cases e; rfl
  | byt b => obtain ⟨t, e⟩ := (show ∃ t, u = Value.bytes b t from r); cases e; rfl
  | flt b => obtain ⟨t, e⟩ := (show ∃ t, u = Value.float b t from r); cases e; rfl
  | ref a => cases (show u = Value.ref a from r); rfl
  | ty n => cases (show u = Value.type n from r); rfl
section
variable {P : Program} {w : World} {H H' : Hp} {h h' : Heap} {a C dx : Addr} {fs fs' : List (Str × V)}
theorem ins_get (hok : HOk P w H h) (e : H a = some (.ins C dx fs)) : ∃ mA, ObjM h a dx C mA ∧ (∀ f, RelO (fs.lookup f) (mA f)) ∧ PySem.Within mA (fs.map (·.1)) ∧ fs.length ≤ 1000 ∧ H dx = some (.own a) := by
  obtain ⟨d, z, ne, ob, mA, n, r, q⟩ := (show ObjOk P w H h a (.ins C dx fs) from hok a _ e)
  exact ⟨mA, ⟨ob, n, ne⟩, r, q, z, d⟩
end
structure Cls (K : PySem.W.Frag) (C : Addr) : Prop where
  pg : PySem.W.plainGet K C Str.empty = true
  hd : PySem.W.hasDictIn K C = true
  po : PySem.W.plainOver K C = true
  sa : PySem.W.findIn K (.ref C) "__setattr__" = some (some (.builtin "object.__setattr__"))
theorem Cls.get {K : PySem.W.Frag} {C : Addr} (c : Cls K C) (f : Str) : PySem.W.plainGet K C f = true := c.pg
noncomputable def NoAttr (K : PySem.W.Frag) (C : Addr) (f : Str) : Prop := PySem.W.findIn K (.ref C) f = some none
theorem NoAttr.taker {K : PySem.W.Frag} {C : Addr} {f : Str} (n : NoAttr K C f) : PySem.W.takerIn K C f = some none := by
  unfold PySem.W.takerIn
  rw [show PySem.W.findIn K (.ref C) f = some none from n]
  rfl
structure Con (K : PySem.W.Frag) (C : Addr) (f : Str) (v : V) (u : Value) : Prop where
  at_ : PySem.W.findIn K (.ref C) f = some (some u)
  rel : RelV v u
  get : PySem.W.specialIn K u "__get__" = some none
  cp : PySem.W.copiedNames.contains f = false
structure Meth (K : PySem.W.Frag) (C : Addr) (m : Str) (f : Addr) : Prop where
  at_ : PySem.W.findIn K (.ref C) m = some (some (.ref f))
  fn : PySem.W.isFn K (.ref f) = true
  kp : PySem.W.keepIn K (.ref f) = true
section
variable {X : Cx} {pins : List (Addr × Obj)} {σ : St} {H : Hp} {s : Shared} {a C dx : Addr} {fs : List (Str × V)} {f : Str} {v : V} {A : Around} {E : Value → Shared → Prop}
theorem getattr_ok {b : Bool} {Q : Value → Shared → Prop} (I : Inv X pins σ H s) (e : H a = some (.ins C dx fs)) (c : Cls X.K C) (n : NoAttr X.K C f) (l : fs.lookup f = some v)
    (h : ∀ u s', Inv X pins σ H s' → RelV v u → Q u s') : wpAny (model X.prog X.w) A (getAttr (.ref a) f b) Q E s := by
  obtain ⟨mA, O, r, _, _, _⟩ := ins_get I.hok e
  obtain ⟨u, hu, ru⟩ := RelO.some_of (v := v) (o := mA f) (by rw [← l]; exact r f)
  exact get_map I.kIn O (c.get f) c.hd n hu (handed_of ru) (h u _ (I.tok _) ru)
theorem setattr_ok {y : V} {u : Value} {Q : Unit → Shared → Prop} (I : Inv X pins σ H s) (e : H a = some (.ins C dx fs)) (c : Cls X.K C) (n : NoAttr X.K C f) (hl : fs.length < 1000) (ry : RelV y u)
    (h : ∀ s', Inv X pins σ (upd H a (.ins C dx (putF f y fs))) s' → Q () s') : wpAny (model X.prog X.w) A (setAttr (.ref a) f u) Q E s := by
  obtain ⟨mA, O, r, wi, _, ho⟩ := ins_get I.hok e
  have hz : (fs.map (·.1)).length ≤ sizeLine := by rw [List.length_map, sizeLine_eq]; omega
  refine set_map I.kIn O c.sa c.po n.taker c.hd wi hz fun h' O' sb => h _ ?_
  have hd : ∃ o, h'.get? dx = some o := let ⟨o, _, _, e', _⟩ := O'.ns; ⟨o, e'⟩
  refine I.write (x := a) (e := dx) (by rw [e]; exact True.intro) (.inr ho) (fun b q hb z => (sb.2 b hb).trans z) hd ?_
  refine ⟨by rw [upd_ne O.ne]; exact ho, ?_, O.ne, O'.obj, _, O'.ns, fun g => ?_, fun g hg => ?_⟩
  · have := length_putF f y fs; omega
  · show RelO ((putF f y fs).lookup g) (if g = f then some u else mA g)
    rw [lookup_putF]
    by_cases q : g = f
    · rw [if_pos q, if_pos q]; exact ry
    · rw [if_neg q, if_neg q]; exact r g
  · by_cases q : g = f
    · rw [q]; exact (keys_putF f y fs).1
    · refine (keys_putF f y fs).2 g (wi g fun z => hg ?_)
      show (if g = f then some u else mA g) = none
      rw [if_neg q]; exact z
theorem Inv.made (I : Inv X pins σ H s) : Inv X pins σ (upd (upd H s.heap.objs.size (.own (s.heap.objs.size + 1))) (s.heap.objs.size + 1) (.ins C s.heap.objs.size []))
    { s with heap := (s.heap.push PySem.W.emptyDict).push (PySem.W.instObj C s.heap.objs.size) } := by
  have e1 : (s.heap.push PySem.W.emptyDict).get? s.heap.objs.size = some PySem.W.emptyDict := Heap.get?_push_size s.heap rfl
  have e2 : ((s.heap.push PySem.W.emptyDict).push (PySem.W.instObj C s.heap.objs.size)).get? (s.heap.objs.size + 1) = some (PySem.W.instObj C s.heap.objs.size) := by
    have := Heap.get?_push_size (s.heap.push PySem.W.emptyDict) (o := PySem.W.instObj C s.heap.objs.size) rfl
    rwa [Heap.size_push] at this
  have e3 : (s.heap.push PySem.W.emptyDict).Ns s.heap.objs.size (fun _ => none) := ⟨PySem.W.emptyDict, #[], _, e1, rfl, (fun e he => absurd he (by simp)), fun _ => rfl⟩
  have I1 := I.laid (a := s.heap.objs.size) (o := .own (s.heap.objs.size + 1)) (h' := s.heap.push PySem.W.emptyDict) (t' := s.toks) (fun b u q => Heap.get?_push_of_some _ q) (Nat.le_refl _) ⟨_, e1⟩
  refine I1.laid (a := s.heap.objs.size + 1) (o := .ins C s.heap.objs.size []) (t' := s.toks) (fun b u q => Heap.get?_push_of_some _ q) (Nat.le_of_eq (Heap.size_push _ _)) ?_
  have ne : s.heap.objs.size ≠ s.heap.objs.size + 1 := Nat.ne_of_lt (Nat.lt_succ_self _)
  refine ⟨by rw [upd_ne ne, upd_same], Nat.zero_le _, ne, e2, fun _ => none, (Heap.Ns1.of_empty e3).at fun o q => Heap.get?_push_of_some _ q, fun _ => True.intro, fun y hy => absurd rfl hy⟩
theorem attr_of {prog : Program} {w : World} {env : Env} {e : Expr} {f : Str} {pos : Pos} {s : Shared} {Q : Value → Shared → Prop} (hb : attributeBase e f env (eval e env) = eval e env)
    (h : wpAny (model prog w) A (eval e env) (fun o s₁ => wpAny (model prog w) A (getAttr o f true) Q E s₁) E s) : wpAny (model prog w) A (eval (.Attribute e f pos) env) Q E s :=
  Attribute_any_ h (by rw [arm_eval_Attribute, hb])
end
noncomputable def tFld (K : PySem.W.Frag) (ta : TE) (f : Str) : TE := fun σ H Q => ta σ H fun x H1 => ∃ a C dx fs v, x = .ref a ∧ H1 a = some (.ins C dx fs) ∧ Cls K C ∧ NoAttr K C f ∧ fs.lookup f = some v ∧ Q v H1
noncomputable def sFld (K : PySem.W.Frag) (ta tv : TE) (f : Str) : TS := fun D σ H => tv σ H fun y H1 => ta σ H1 fun x H2 => ∃ a C dx fs, x = .ref a ∧ H2 a = some (.ins C dx fs) ∧ Cls K C ∧ NoAttr K C f ∧ fs.length < 1000 ∧
  D.nx σ (upd H2 a (.ins C dx (putF f y fs)))
section
variable {X : Cx} {o e value : Expr} {f : Str} {pos pos' tpos : Pos} {ta tv : TE}
theorem pe_fld (he : PE X e ta) (hb : attributeBase e f X.env (eval e X.env) = eval e X.env) : PE X (.Attribute e f pos) (tFld X.K ta f) := by
  intro pins s σ H Q I h
  refine attr_of hb (thn (he pins s σ H _ I h) fun u s1 zz39 => ?_)
  obtain ⟨x, H1, I1, rx, a, C, dx, fs, v, ex, ea, c, n, l, q⟩ := zz39
  subst ex
  obtain rfl : u = Value.ref a := rx
  exact getattr_ok I1 ea c n l fun u' s2 I2 ru => ⟨v, H1, I2, ru, q⟩
theorem ps_fld (ha : PE X o ta) (hv : PE X value tv) (hs : swapsWith value (some (.Attribute o f pos')) pos.line X.env = pure false) : PS X (.Assign [.Attribute o f pos'] value pos) (sFld X.K ta tv f) := by
  intro pins s σ H D I h
  refine plainObj_wpAny_Assign_Attribute (thn (hv pins s σ H _ I h) fun u s1 ⟨y, H1, I1, ry, q⟩ => thn (ha pins s1 σ H1 _ I1 q) fun ov s2 zz41 => ?_) hs
  obtain ⟨x, H2, I2, rx, a, C, dx, fs, ex, ea, c, n, l, q2⟩ := zz41
  subst ex
  obtain rfl : ov = Value.ref a := rx
  exact setattr_ok I2 ea c n l ry fun s3 I3 => ⟨σ, _, I3, q2⟩
end
section
variable {X : Cx} {pins : List (Addr × Obj)} {σ : St} {H : Hp} {s : Shared} {A : Around} {E : Value → Shared → Prop} {Q : Value → Shared → Prop} {c : Value} {b : Bool}
inductive TyOf (K : PySem.W.Frag) (H : Hp) : V → Value → Prop where
  | non : TyOf K H .non (.type "NoneType")
  | bl (x : Bool) : TyOf K H (.bl x) (.type "bool")
  | int (i : Int) : TyOf K H (.int i) (.type "int")
  | str (x : Str) : TyOf K H (.str x) (.type "str")
  | flt (x : UInt64) : TyOf K H (.flt x) (.type "float")
  | lst {a : Addr} {xs : List V} (e : H a = some (.lst xs)) : TyOf K H (.ref a) (.type "list")
  | frz {a : Addr} {o : Obj} {xs : List V} (e : H a = some (.frz o (.lst xs))) : TyOf K H (.ref a) (.type "list")
  | tup {a : Addr} {xs : List V} (e : H a = some (.tup xs)) : TyOf K H (.ref a) (.type "tuple")
  | dK {a : Addr} {kvs : List (Key × V)} (e : H a = some (.dK kvs)) : TyOf K H (.ref a) (.type "dict")
  | dT {a : Addr} {kvs : List (List Key × V)} (e : H a = some (.dT kvs)) : TyOf K H (.ref a) (.type "dict")
  | ins {a C dx : Addr} {fs : List (Str × V)} (e : H a = some (.ins C dx fs)) (cl : Cls K C) (ha : PySem.W.findIn K (.ref C) "__class__" = some (some (.builtin "object.__class__")))
      (hn : PySem.W.specialIn K (.builtin "object.__class__") "__get__" = some (some (.builtin "getset_descriptor.__get__"))) (htk : PySem.W.takesIn K (.builtin "object.__class__") = some true)
      (hm : PySem.W.mroIn K C (.type "object") = some true) : TyOf K H (.ref a) (.ref C)
theorem isinst_ok {x : V} {u t : Value} (I : Inv X pins σ H s) (rx : RelV x u) (ty : TyOf X.K H x t) (e : PySem.W.kitOne X.K t c = some b) (h : ∀ tk, Q (.bool b) { s with toks := tk }) :
    wpAny (model X.prog X.w) A (call (.builtin "isinstance") [u, c]) Q E s := by
  cases ty with
  | non => cases (show u = Value.none from rx); exact PySem.W.kia_one PySem.W.kitx_none I.kIn True.intro e (fun z => nomatch z) h
  | bl y => cases (show u = Value.bool y from rx); exact PySem.W.kia_one PySem.W.kitx_bool I.kIn True.intro e (fun z => nomatch z) h
  | int i => obtain ⟨t, q⟩ := (show ∃ t, u = Value.int i t from rx); cases q; exact PySem.W.kia_one PySem.W.kitx_int I.kIn True.intro e (fun z => nomatch z) h
  | str y => obtain ⟨t, q⟩ := (show ∃ t, u = Value.str y t from rx); cases q; exact PySem.W.kia_one PySem.W.kitx_str I.kIn True.intro e (fun z => nomatch z) h
  | flt y => obtain ⟨t, q⟩ := (show ∃ t, u = Value.float y t from rx); cases q; exact PySem.W.kia_one PySem.W.kitx_float I.kIn True.intro e (fun z => nomatch z) h
  | @lst a xs ea =>
    cases (show u = Value.ref a from rx)
    obtain ⟨_, _, n, _, h1⟩ := (show ObjOk X.prog X.w H s.heap a (.lst xs) from I.hok a _ ea)
    exact PySem.W.kia_one PySem.W.kitx_list I.kIn ⟨_, h1, rfl⟩ e (fun z => nomatch z) h
  | @frz a ob xs ea =>
    cases (show u = Value.ref a from rx)
    obtain ⟨_, _, _, n, _, h1⟩ := (show ObjOk X.prog X.w H s.heap a (.frz ob (.lst xs)) from I.hok a _ ea)
    exact PySem.W.kia_one PySem.W.kitx_list I.kIn ⟨_, h1, rfl⟩ e (fun z => nomatch z) h
  | @tup a xs ea =>
    cases (show u = Value.ref a from rx)
    obtain ⟨_, _, _, p⟩ := (show ObjOk X.prog X.w H s.heap a (.tup xs) from I.hok a _ ea)
    obtain ⟨o, h1, h2, _⟩ := p
    exact PySem.W.kia_one PySem.W.kitx_tuple I.kIn ⟨o, h1, h2⟩ e (fun z => nomatch z) h
  | @dK a kvs ea =>
    cases (show u = Value.ref a from rx)
    obtain ⟨_, _, vs, _, p⟩ := (show ObjOk X.prog X.w H s.heap a (.dK kvs) from I.hok a _ ea)
    obtain ⟨o, es, ep, h1, h2, _⟩ := p
    exact PySem.W.kia_one PySem.W.kitx_dict I.kIn ⟨o, h1, h2.1⟩ e (fun z => nomatch z) h
  | @dT a kvs ea =>
    cases (show u = Value.ref a from rx)
    obtain ⟨_, _, xs, _, o, es, ep, h1, h2, _⟩ := (show ObjOk X.prog X.w H s.heap a (.dT kvs) from I.hok a _ ea)
    exact PySem.W.kia_one PySem.W.kitx_dict I.kIn ⟨o, h1, h2.1⟩ e (fun z => nomatch z) h
  | @ins a C dx fs ea cl ha hn htk hm =>
    cases (show u = Value.ref a from rx)
    obtain ⟨mA, O, _⟩ := ins_get I.hok ea
    obtain ⟨od, J, _⟩ := O.look
    exact PySem.W.kia_one (PySem.W.kitx_own (cl.get _) cl.hd ha hn htk hm) I.kIn J e (fun z => nomatch z) h
end
end L2
namespace L2
open PySem PySem.Spec PyProof.Rows
structure Room (k : Nat) (A : Around) : Prop where
  hd : A.handled = none
  dp : A.depth + 3 * k + 5 < recursionLimit
  un : A.units + 16 * k + 200 < cLine
theorem Room.mono {j k : Nat} {A : Around} (r : Room k A) (h : j ≤ k) : Room j A := ⟨r.hd, by have := r.dp; omega, by have := r.un; omega⟩
theorem Room.deeper {k : Nat} {A : Around} (r : Room (k + 1) A) (env : Env) : Room k (A.deeper env) :=
  ⟨r.hd, by have := r.dp; show A.depth + 1 + 3 * k + 5 < _; omega, by have := r.un; show A.units + 3 + 16 * k + 200 < _; omega⟩
theorem make_depth {A : Around} {C : Addr} {us : List Value} {kw : List (Str × Value)} : (A.under (.builtin "type.__call__" ⟨.ref C :: us, kw⟩)).depth = A.depth + 1 := by
  first | rfl | simp [Around.under, Code.weight, Code.isCreation, Code.isGuard, Code.isCaller, Code.frames, Code.isFrame, guardIds]
theorem make_units {A : Around} {C : Addr} {us : List Value} {kw : List (Str × Value)} : (A.under (.builtin "type.__call__" ⟨.ref C :: us, kw⟩)).units = A.units + 1 := by
  first | rfl | simp [Around.under, Code.cUnits, Code.frames, Code.isFrame]
theorem Room.make {k : Nat} {A : Around} (r : Room (k + 1) A) (C : Addr) (us : List Value) (kw : List (Str × Value)) : Room k (A.under (.builtin "type.__call__" ⟨.ref C :: us, kw⟩)) :=
  ⟨r.hd, by have := r.dp; rw [make_depth]; omega, by have := r.un; rw [make_units]; omega⟩
theorem Room.depth {k : Nat} {A : Around} (r : Room k A) : A.depth < recursionLimit := by have := r.dp; omega
noncomputable def tNil : TA := fun _ H Q => Q [] H
noncomputable def tCons (ta : TE) (tr : TA) : TA := fun σ H Q => ta σ H fun x H1 => tr σ H1 fun xs H2 => Q (x :: xs) H2
section
variable {X : Cx} {e : Expr} {es : List Expr} {te : TE} {t : TA} {pos : Pos}
theorem pa_nil : PA X [] tNil := fun _ _ _ _ H Q I h => Calls.spliced_nil ⟨[], H, I, .nil, h⟩
theorem pa_cons (ha : PE X e te) (hr : PA X es t) (hs : starEach (e :: es) X.env = (false, eval e X.env) :: starEach es X.env := by rfl) : PA X (e :: es) (tCons te t) := by
  intro pos pins s σ H Q I h
  rw [hs]
  show wpAny _ _ (spliced ((false, eval e X.env) :: backTo pos (starEach es X.env))) _ _ s
  refine Calls.spliced_cons (thn (ha pins s σ H _ I h) fun u s1 zz45 => ?_)
  obtain ⟨x, H1, I1, r1, q1⟩ := zz45
  exact thn (hr pos pins s1 σ H1 _ I1 q1) fun us s2 yy1 => by
   obtain ⟨xs, H2, I2, r2, q2⟩ := yy1
   exact ⟨x :: xs, H2, I2, .cons r1 r2, q2⟩
noncomputable def tTup (t : TA) : TE := fun σ H Q => t σ H fun xs H1 => xs.length ≤ sizeLine ∧ ∀ p, H1 p = none → Q (.ref p) (upd H1 p (.tup xs))
noncomputable def tLst (t : TA) : TE := fun σ H Q => t σ H fun xs H1 => xs.length ≤ sizeLine ∧ ∀ p, H1 p = none → Q (.ref p) (upd H1 p (.lst xs))
theorem pe_tup {x1} (h : PA X es t) : PE X (.Tuple es x1 pos) (tTup t) := by
  intro pins s σ H Q I hq
  refine wpAny_Tuple_spliced (thn (h pos pins s σ H _ I hq) fun us s1 ⟨xs, H1, I1, r, z, q⟩ => ⟨by rw [← r.length]; exact z, ?_⟩)
  have hf : H1 s1.heap.objs.size = none := I1.hok.fresh (Nat.le_refl _)
  refine ⟨.ref s1.heap.objs.size, upd H1 s1.heap.objs.size (.tup xs), I1.laid (t' := s1.toks) (fun b u e => Heap.get?_push_of_some _ e) (Nat.le_refl _) ?_, rfl, q _ hf⟩
  exact ⟨z, us, r, ⟨_, Heap.get?_push_size _ rfl, rfl, _, rfl⟩⟩
theorem pe_lst (h : PA X es t) : PE X (.List es pos) (tLst t) := by
  intro pins s σ H Q I hq
  refine wpAny_List_spliced (thn (h pos pins s σ H _ I hq) fun us s1 ⟨xs, H1, I1, r, z, q⟩ => ⟨by rw [← r.length]; exact z, ?_⟩)
  have hf : H1 s1.heap.objs.size = none := I1.hok.fresh (Nat.le_refl _)
  refine ⟨.ref s1.heap.objs.size, upd H1 s1.heap.objs.size (.lst xs), I1.laid (t' := s1.toks) (fun b u e => Heap.get?_push_of_some _ e) (Nat.le_refl _) ?_, rfl, q _ hf⟩
  exact ⟨z, us, 0, r, Heap.get?_push_size _ rfl⟩
end
noncomputable abbrev Sp := List V → Hp → VK → XK → Prop
noncomputable abbrev CXT := List Env → Hp → Shared → XK → Value → Shared → Prop
structure Env0 (P : Program) (w : World) (K : PySem.W.Frag) (mg : Str → Option Value) (base : Heap) (A : Around) (outer : List Env) (s : Shared) (H : Hp) : Prop where
  frames : A.frames = some outer
  mod : Mod K mg base
  bs : ∀ b o, base.get? b = some o → s.heap.get? b = some o ∧ H b = none
  bsz : base.objs.size ≤ s.heap.objs.size
  funs : s.heap.FunFrames base outer
  frf : ∀ b ∈ frs outer, H b = none
  hok : HOk P w H s.heap
  bare : AllBare s.gens
noncomputable def CE (outer : List Env) (P : Program) (w : World) (H : Hp) (s : Shared) (Q : VK) (u : Value) (s' : Shared) : Prop :=
  ∃ v H', s'.os = s.os ∧ AllBare s'.gens ∧ Un (frs outer) [] H H' s.heap s'.heap ∧ HOk P w H' s'.heap ∧ RelV v u ∧ Q v H'
noncomputable def CR (CX : CXT) (outer : List Env) (P : Program) (w : World) (H : Hp) (s : Shared) (Q : VK) (E : XK) (r : Result) (s' : Shared) : Prop :=
  match r with
  | .ok (.ret u) => CE outer P w H s Q u s'
  | .ok _ => False
  | .error e => CX outer H s E e s'
structure FnOk (P : Program) (w : World) (K : PySem.W.Frag) (mg : Str → Option Value) (base : Heap) (CX : CXT) (k : Nat) (f : Addr) (fd : FuncData) (ps : List Str) (sp : Sp) : Prop where
  len : ∀ vs H Q E, sp vs H Q E → vs.length = ps.length
  run : ∀ (A : Around) (outer : List Env) (s : Shared) (H : Hp) (args : Args) (us : List Value) (vs : List V) (Q : VK) (E : XK), Room k A → Env0 P w K mg base A outer s H → BindsTo s fd args (ps.zip us) → Vals vs us → sp vs H Q E →
    codeAny (model P w) A (.call (.ref f) args) (CR CX outer P w H s Q E) s
theorem FnOk.imp {P : Program} {w : World} {K : PySem.W.Frag} {mg : Str → Option Value} {base : Heap} {CX : CXT} {k : Nat} {f : Addr} {fd : FuncData} {ps : List Str} {sp sp' : Sp} (F : FnOk P w K mg base CX k f fd ps sp)
    (h : ∀ vs H Q E, sp' vs H Q E → sp vs H Q E) : FnOk P w K mg base CX k f fd ps sp' :=
  ⟨fun vs H Q E q => F.len vs H Q E (h _ _ _ _ q), fun A outer s H args us vs Q E hr he hb hv hs => F.run A outer s H args us vs Q E hr he hb hv (h _ _ _ _ hs)⟩
theorem Env0.make {P : Program} {w : World} {K : PySem.W.Frag} {mg : Str → Option Value} {base : Heap} {A : Around} {outer : List Env} {s : Shared} {H : Hp} (e : Env0 P w K mg base A outer s H) (C : Addr) (us : List Value) (kw : List (Str × Value)) :
    Env0 P w K mg base (A.under (.builtin "type.__call__" ⟨.ref C :: us, kw⟩)) outer s H := ⟨by first | exact e.frames | (simpa [Around.under, Code.envs, Code.isFrame, pushEnvs] using e.frames), e.mod, e.bs, e.bsz, e.funs, e.frf, e.hok, e.bare⟩
section
variable {X : Cx} {pins : List (Addr × Obj)} {σ : St} {H : Hp} {s s' : Shared}
theorem Inv.env0 (I : Inv X pins σ H s) : Env0 X.prog X.w X.K X.mg X.base X.A X.stack s H :=
  ⟨I.ok.frames, I.ok.mod, I.bs, Nat.le_trans I.ok.bsz I.sz, I.stack, I.stkFree, I.hok, I.bare⟩
theorem Inv.after {Q : VK} {u : Value} (I : Inv X pins σ H s) (h : CE X.stack X.prog X.w H s Q u s') : EP X pins σ Q u s' := by
  obtain ⟨v, H', os, bare, un, hok, r, q⟩ := h
  obtain ⟨hh, g, d, t, os'⟩ := s'
  obtain rfl : os' = s.os := os
  exact ⟨v, H', I.call (h' := hh) (g' := g) (d' := d) (t' := t) (ch := []) un hok bare (fun b z => absurd z (by simp)), r, q⟩
end
noncomputable def Binds (K : PySem.W.Frag) (fd : FuncData) (ps : List Str) (ds : List Value) : Prop :=
  ∀ (s : Shared) (us : List Value), K.In s.heap → (us ++ ds).length = ps.length → BindsTo s fd ⟨us, []⟩ (ps.zip (us ++ ds))
theorem Binds.all {K : PySem.W.Frag} {fd : FuncData} {ps : List Str} (h : ∀ us : List Value, us.length = ps.length → bindArgs fd ⟨us, []⟩ = pure (ps.zip us)) : Binds K fd ps [] := fun s us _ hl => by
  rw [List.append_nil] at hl ⊢
  exact .of_eq (h us hl)
noncomputable def Passes (CX : CXT) (X : Cx) (E : XK) : Prop := ∀ (pins : List (Addr × Obj)) (σ : St) (H : Hp) (s : Shared) (e : Value) (s' : Shared), Inv X pins σ H s → CX X.stack H s E e s' → X.xe e s'
section
variable {X : Cx} {CX : CXT} {k : Nat} {f C : Addr} {fd : FuncData} {ps : List Str} {sp : Sp} {dvs : List V} {ds : List Value} {E : XK} {x m : Str} {p pos apos : Pos} {e o : Expr} {es : List Expr} {ta : TE} {t : TA}
theorem run_fn {pins : List (Addr × Obj)} {σ : St} {H : Hp} {s : Shared} {Q : VK} {us : List Value} {vs : List V} (F : FnOk X.prog X.w X.K X.mg X.base CX k f fd ps sp) (hr : Room k X.A) (hb : Binds X.K fd ps ds) (hd : Vals dvs ds) (hx : Passes CX X E)
    (I : Inv X pins σ H s) (r : Vals vs us) (h : sp (vs ++ dvs) H Q E) : wpAny (model X.prog X.w) X.A (call (.ref f) us) (EP X pins σ Q) X.xe s := by
  have r2 : Vals (vs ++ dvs) (us ++ ds) := r.append hd
  have hl : (us ++ ds).length = ps.length := by rw [← r2.length]; exact F.len _ _ _ _ h
  refine wpAny_call (codeAny_mono (F.run X.A X.stack s H ⟨us, []⟩ (us ++ ds) (vs ++ dvs) Q E hr I.env0 (hb s us I.kIn hl) r2 h) fun r s' hq => ?_)
  cases r with
  | error e => exact hx pins σ H s e s' I hq
  | ok fl =>
    cases fl with
    | ret u => exact I.after hq
    | next => exact False.elim hq
    | brk => exact False.elim hq
    | cont => exact False.elim hq
structure Mk (K : PySem.W.Frag) (C f : Addr) : Prop where
  makes : PySem.W.makesIn K C = true
  init : PySem.W.findIn K (.ref C) "__init__" = some (some (.ref f))
  fn : PySem.W.isFn K (.ref f) = true
  kp : PySem.W.keepIn K (.ref C) = true
theorem run_make {pins : List (Addr × Obj)} {σ : St} {H : Hp} {s : Shared} {Q : VK} {us : List Value} {vs : List V} (M : Mk X.K C f) (F : FnOk X.prog X.w X.K X.mg X.base CX k f fd ps sp) (hr : Room (k + 1) X.A) (hb : Binds X.K fd ps ds) (hd : Vals dvs ds)
    (hx : Passes CX X E) (I : Inv X pins σ H s) (r : Vals vs us)
    (h : ∀ x dx, H x = none → H dx = none → dx ≠ x → sp (.ref x :: (vs ++ dvs)) (upd (upd H dx (.own x)) x (.ins C dx [])) (fun v H2 => v = .non ∧ Q (.ref x) H2) E) :
    wpAny (model X.prog X.w) X.A (call (.ref C) us) (EP X pins σ Q) X.xe s := by
  have hq := h (s.heap.objs.size + 1) s.heap.objs.size (I.hok.fresh (Nat.le_succ _)) (I.hok.fresh (Nat.le_refl _)) (Nat.ne_of_lt (Nat.lt_succ_self _))
  have I2 := Inv.made (C := C) I
  have r2 : Vals (V.ref (s.heap.objs.size + 1) :: (vs ++ dvs)) (Value.ref (s.heap.objs.size + 1) :: (us ++ ds)) := .cons rfl (r.append hd)
  have hl : (Value.ref (s.heap.objs.size + 1) :: us ++ ds).length = ps.length := by
    have e := r2.length
    rw [F.len _ _ _ _ hq] at e
    exact e.symm
  refine wpAny_call (make_map (f := f) I.kIn M.makes M.init (beq_iff_eq.mp M.fn) (codeAny_mono (F.run _ X.stack _ _ ⟨Value.ref (s.heap.objs.size + 1) :: us, []⟩ (Value.ref (s.heap.objs.size + 1) :: (us ++ ds)) _ _ E (hr.make C us [])
    (I2.env0.make C us []) (hb _ (Value.ref (s.heap.objs.size + 1) :: us) I2.kIn hl) r2 hq) fun r s' hq' => ?_))
  cases r with
  | error e => exact hx pins σ _ _ e s' I2 hq'
  | ok fl =>
    cases fl with
    | ret u =>
      obtain ⟨v, H', I3, rv, ev, q3⟩ := I2.after hq'
      subst ev
      exact ⟨rv, ⟨V.ref (s.heap.objs.size + 1), H', I3, rfl, q3⟩⟩
    | next => exact False.elim hq'
    | brk => exact False.elim hq'
    | cont => exact False.elim hq'
end
section
variable {X : Cx} {CX : CXT} {k : Nat} {f C : Addr} {fd : FuncData} {ps ks : List Str} {sp : Sp} {E : XK} {x m : Str} {p pos apos kpos : Pos} {e o : Expr} {es : List Expr} {kws : List Keyword} {te ta : TE} {t tk : TA} {nm : Option Str}
structure KBinds (K : PySem.W.Frag) (fd : FuncData) (ps ks : List Str) (g : List Value → List Value → List Value) (gV : List V → List V → List V) : Prop where
  to : ∀ (s : Shared) (us ws : List Value), K.In s.heap → (g us ws).length = ps.length → BindsTo s fd ⟨us, ks.zip ws⟩ (ps.zip (g us ws))
  rel : ∀ {vs : List V} {us : List Value} {zs : List V} {ws : List Value}, Vals vs us → Vals zs ws → Vals (gV vs zs) (g us ws)
variable {g : List Value → List Value → List Value} {gV : List V → List V → List V}
end
structure FnScope (N P : List Str) (sc : Scope) : Prop where
  kind : sc.kind = .function
  co : sc.isCoroutine = false
  gen : sc.isGenerator = false
  nd : N.Nodup
  pre : N.take P.length = P
  par : ∀ x ∈ P, sc.names.lookup x = some .local ∨ sc.names.lookup x = some .cell
  nofree : ∀ y ∈ sc.names, y.2 ≠ .free
theorem bindL_out {kindOf : Str → Option NameKind} {x : Str} : ∀ {binds : List (Str × Value)} {m : Str → Option Value}, (∀ v, (x, v) ∉ binds) → bindL kindOf binds m x = m x
  | [], _, _ => rfl
  | (n, v) :: r, m, h => by
    unfold bindL
    rw [bindL_out fun w hw => h w (List.mem_cons_of_mem _ hw)]
    split
    · have : x ≠ n := by rintro rfl; exact h v List.mem_cons_self
      simp [this]
    · rfl
theorem bindC_out {kindOf : Str → Option NameKind} {x : Str} : ∀ {binds : List (Str × Value)} {m : Str → Option Value}, (∀ v, (x, v) ∉ binds) → bindC kindOf binds m x = m x
  | [], _, _ => rfl
  | (n, v) :: r, m, h => by
    unfold bindC
    rw [bindC_out fun w hw => h w (List.mem_cons_of_mem _ hw)]
    split
    · rfl
    · have : x ≠ n := by rintro rfl; exact h v List.mem_cons_self
      simp [this]
theorem bindL_get {kindOf : Str → Option NameKind} {x : Str} {v : Value} : ∀ {P : List Str} {vs : List Value} {i : Nat} {m : Str → Option Value}, P.Nodup → P[i]? = some x → vs[i]? = some v → kindOf x = some .local →
    bindL kindOf (P.zip vs) m x = some v
  | [], _, _, _, _, h, _, _ => by simp at h
  | _ :: _, [], _, _, _, _, h, _ => by simp at h
  | p :: P, w :: vs, 0, m, nd, h1, h2, hk => by
    simp at h1 h2; subst h1; subst h2
    show bindL kindOf ((p, w) :: P.zip vs) m p = _
    unfold bindL
    rw [bindL_out fun v hv => (List.nodup_cons.mp nd).1 (List.of_mem_zip hv).1, if_pos hk]
    simp
  | p :: P, w :: vs, i + 1, m, nd, h1, h2, hk => by
    show bindL kindOf ((p, w) :: P.zip vs) m x = _
    unfold bindL
    exact bindL_get (i := i) (List.nodup_cons.mp nd).2 (by simpa using h1) (by simpa using h2) hk
theorem bindC_get {kindOf : Str → Option NameKind} {x : Str} {v : Value} : ∀ {P : List Str} {vs : List Value} {i : Nat} {m : Str → Option Value}, P.Nodup → P[i]? = some x → vs[i]? = some v → kindOf x ≠ some .local →
    bindC kindOf (P.zip vs) m x = some v
  | [], _, _, _, _, h, _, _ => by simp at h
  | _ :: _, [], _, _, _, _, h, _ => by simp at h
  | p :: P, w :: vs, 0, m, nd, h1, h2, hk => by
    simp at h1 h2; subst h1; subst h2
    show bindC kindOf ((p, w) :: P.zip vs) m p = _
    unfold bindC
    rw [bindC_out fun v hv => (List.nodup_cons.mp nd).1 (List.of_mem_zip hv).1, if_neg hk]
    simp
  | p :: P, w :: vs, i + 1, m, nd, h1, h2, hk => by
    show bindC kindOf ((p, w) :: P.zip vs) m x = _
    unfold bindC
    exact bindC_get (i := i) (List.nodup_cons.mp nd).2 (by simpa using h1) (by simpa using h2) hk
noncomputable def start (N : List Str) (vs : List V) : St := vs.map some ++ List.replicate (N.length - vs.length) none
noncomputable def cxOf (CX : CXT) (P : Program) (w : World) (K : PySem.W.Frag) (mg : Str → Option Value) (base : Heap) (N : List Str) (qual : Str) (scope : Scope) (f : Addr) (cd : Value) (A : Around) (outer : List Env) (s : Shared) (H : Hp) (E : XK) : Cx where
  prog := P
  w := w
  K := K
  mg := mg
  base := base
  A := A.deeper (envOfC qual scope s.heap.objs.size f cd)
  N := N
  s₀ := s
  H₀ := H
  env := envOfC qual scope s.heap.objs.size f cd
  outer := outer
  stack := envOfC qual scope s.heap.objs.size f cd :: outer
  ex := []
  calm := true
  fn := fun _ => true
  pn := []
  xe := fun e s' => wpAny (model P w) (A.deeper (envOfC qual scope s.heap.objs.size f cd)) (leaving (envOfC qual scope s.heap.objs.size f cd) e) (fun _ s'' => CX outer H s E e s'') (fun e' s'' => CX outer H s E e' s'') s'
theorem cell_has {sc : Scope} {n : Nat} {x : Str} (h : sc.names.lookup x = some .cell) : ∃ c, (cellsFrom n sc.names []).lookup x = some c := by
  have q := PySem.W.cellsFrom_some sc.names n [] (.inl h)
  exact Option.isSome_iff_exists.mp q
theorem inv_start {CX : CXT} {P : Program} {w : World} {K : PySem.W.Frag} {mg : Str → Option Value} {base : Heap} {N ps : List Str} {qual : Str} {scope : Scope} {f : Addr} {cd : Value} {A : Around} {outer : List Env} {s s1 : Shared} {H : Hp} {E : XK} {us : List Value} {vs : List V}
    (S : FnScope N ps scope) (hd : A.handled = none) (e0 : Env0 P w K mg base A outer s H) (hl : vs.length = ps.length) (r : Vals vs us)
    (x : InCallC s s.heap.objs.size (bindL (envOfC qual scope s.heap.objs.size f cd).kindOf (ps.zip us) fun _ => none) (cellsFrom (s.heap.objs.size + 1) scope.names []) (bindC (envOfC qual scope s.heap.objs.size f cd).kindOf (ps.zip us) fun _ => none) s1) :
    Inv (cxOf CX P w K mg base N qual scope f cd A outer s H E) [] (start N vs) H s1 := by
  have hpl : ps.length ≤ N.length := by have := congrArg List.length S.pre; rw [List.length_take] at this; omega
  obtain ⟨h1, tk, rfl, hk⟩ := x.done
  have noA : ∀ b : Addr, b ∉ (cxOf CX P w K mg base N qual scope f cd A outer s H E).ex := fun b z => absurd (show b ∈ ([] : List Addr) from z) (by simp)
  refine ⟨⟨e0.mod, S.kind, rfl, rfl, Nat.le_refl _, fun y z c h1 h2 => ?_, fun y hy => ?_, fun y c _ h => ?_, fun _ => hd, Around.frames_deeper e0.frames, .inr ⟨rfl, rfl⟩, fun b z => absurd z (noA b), e0.bs, e0.bsz, fun b _ _ => noA b, fun b z => absurd z (noA b), e0.funs, e0.frf⟩,
    rfl, e0.bare, Un.kept hk, ⟨_, x.toInCall.ns, fun i y v h1 h2 h3 => ?_⟩, fun y c h => ⟨_, x.cell y c h⟩, e0.hok.fresh (Nat.le_refl _), fun y c h => ?_, fun p hp => absurd (show p ∈ ([] : List (Addr × Obj)) from hp) (by simp), e0.hok.kept hk, ?_⟩
  · exact name_of_addr x.apart (PySem.mem_of_lookup h1) (PySem.mem_of_lookup h2)
  · have hy : scope.names.lookup y = some .cell ∨ scope.names.lookup y = some .free := hy
    rcases hy with hy | hy
    · exact cell_has hy
    · exact absurd rfl (S.nofree _ (PySem.mem_of_lookup hy))
  · exact Nat.le_of_lt (x.above y c (PySem.mem_of_lookup h))
  · have hi : i < vs.length := by
      unfold start at h2
      by_cases hi : i < vs.length
      · exact hi
      · rw [List.getElem?_append_right (by simpa using hi)] at h2
        rw [List.getElem?_replicate] at h2
        split at h2 <;> cases h2
    have ha : vs[i]? = some v := by
      unfold start at h2
      rw [List.getElem?_append_left (by simpa using hi), List.getElem?_map] at h2
      cases e : vs[i]? with
      | none => rw [e] at h2; cases h2
      | some a => rw [e] at h2; cases h2; rfl
    obtain ⟨u, hu, rv⟩ := r.get ha
    have hp : ps[i]? = some y := by
      rw [← S.pre, List.getElem?_take_of_lt (by omega)]; exact h1
    have ndP : ps.Nodup := by rw [← S.pre]; exact S.nd.sublist (List.take_sublist _ _)
    refine ⟨u, rv, ?_⟩
    rcases S.par y (List.mem_of_getElem? hp) with k | k
    · exact .inl ⟨k, bindL_get ndP hp hu k⟩
    · obtain ⟨c, e⟩ := cell_has (n := s.heap.objs.size + 1) k
      refine .inr ⟨.inl k, c, e, ?_⟩
      have q := x.cell y c e
      rw [bindC_get ndP hp hu (by show scope.names.lookup y ≠ _; rw [k]; decide)] at q
      exact q
  · exact e0.hok.fresh (Nat.le_of_lt (x.above y c (PySem.mem_of_lookup h)))
  · unfold start
    show _ = N.length
    rw [List.length_append, List.length_map, List.length_replicate]
    omega
theorem fn_of {CX : CXT} {P : Program} {w : World} {K : PySem.W.Frag} {mg : Str → Option Value} {base : Heap} {k : Nat} {f : Addr} {name qual : Str} {params : Arguments} {body : List Stmt} {scope : Scope} {dV kV doc pm cdv ct oc : Value} {an od : Option Addr}
    {osl : Array (Option Value)} {N ps : List Str} {sp : Sp} (lk : K.lookup f = some ⟨oc, od, .func (PySem.W.fnOf name qual params body scope dV kV doc pm an cdv ct), osl⟩) (hcd : PySem.W.codeIn K cdv qual = true) (S : FnScope N ps scope)
    (len : ∀ vs H Q E, sp vs H Q E → vs.length = ps.length)
    (hbody : ∀ (A : Around) (outer : List Env) (s : Shared) (H : Hp) (vs : List V) (Q : VK) (E : XK), Room k (A.deeper (envOfC qual scope s.heap.objs.size f cdv)) → sp vs H Q E →
      ∃ t, PSs (cxOf CX P w K mg base N qual scope f cdv A outer s H E) body t ∧ t { nx := fun _ H' => Q .non H', rt := Q } (start N vs) H) :
    FnOk P w K mg base CX (k + 1) f (PySem.W.fnOf name qual params body scope dV kV doc pm an cdv ct) ps sp := by
  refine ⟨len, fun A outer s H args us vs Q E hr e0 hb r hsp => ?_⟩
  have hl := len _ _ _ _ hsp
  have KX : K.In s.heap := e0.mod.kin.keeps fun b o e => (e0.bs b o e).1
  have lim : s.heap.NoLimit := e0.mod.nolimit.keeps fun b o e => (e0.bs b o e).1
  have hkind : ∀ y ∈ ps.zip us, scope.names.lookup y.1 = some .local ∨ (scope.names.lookup y.1 = some .cell ∧ ((cellsFrom (s.heap.objs.size + 1) scope.names []).lookup y.1).isSome = true) := fun ⟨n, v⟩ hy => by
    rcases S.par n (List.of_mem_zip hy).1 with q | q
    · exact .inl q
    · exact .inr ⟨q, PySem.W.cellsFrom_some _ _ _ (.inl q)⟩
  refine codeAny_call_function hr.depth (KX _ _ lk) rfl S.co S.gen rfl (PySem.W.codeRec_of KX hcd) (hb _ _ _ _ ?_)
  refine wpAny_newFunctionEnv_cells S.kind hkind fun env he s1 x => ?_
  subst he
  refine ⟨lim.keeps x.toInCall.keep, codeAny_func ?_⟩
  obtain ⟨t, ht, hq⟩ := hbody A outer s H vs Q E (hr.deeper _) hsp
  have I : Inv (cxOf CX P w K mg base N qual scope f cdv A outer s H E) [] (start N vs) H s1 := inv_start S hr.hd e0 hl r x
  refine wpAny_mono (ht [] s1 (start N vs) H _ I hq) (fun fl s' hs => ?_) fun e s' hs => hs
  have fin : ∀ {σ' : St} {H' : Hp} {v : V} {u : Value}, Inv (cxOf CX P w K mg base N qual scope f cdv A outer s H E) [] σ' H' s' → RelV v u → Q v H' → CE outer P w H s Q u s' :=
    fun {σ' H' v u} J rv q => ⟨v, H', J.os, J.bare, J.base, J.hok, rv, q⟩
  cases fl with
  | ret u =>
    obtain ⟨v, σ', H', J, rv, q⟩ := hs
    exact fin J rv q
  | next =>
    obtain ⟨σ', H', J, q⟩ := hs
    exact fin (v := V.non) (u := Value.none) J rfl q
  | brk =>
    obtain ⟨_, _, _, q⟩ := hs
    exact False.elim q
  | cont =>
    obtain ⟨_, _, _, q⟩ := hs
    exact False.elim q
end L2
namespace L2
open PySem PySem.Spec PyProof.Rows
section
variable {X : Cx} {x : Str} {p pos : Pos} {e : Expr} {es : List Expr} {t : TA} {id T : String} {r : List V → Hp → VK → Prop}
noncomputable def tCB (r : List V → Hp → VK → Prop) (t : TA) : TE := fun σ H Q => t σ H fun vs H1 => r vs H1 Q
theorem pe_callB (hc : CallR X (.builtin id) r) (hg : Gl X x) (hm : X.mg x = none) (hv : bootBuiltins x = some (.builtin id)) (ha : PA X (e :: es) t) (hn : x ≠ "__name__" := by decide) (hdb : (x == ("__debug__" : Str)) = false := by decide)
    (he : starEach (e :: es) X.env = (false, eval e X.env) :: starEach es X.env := by rfl) (hpl : (backTo pos (starEach es X.env)).any (·.1) = false := by rfl) : PE X (.Call (.Name x p) (e :: es) [] pos) (tCB r t) := by
  intro pins s σ H Q I h
  refine wpAny_Call_Name_kw (ld_blt I hg hm hv ?_ hn hdb)
  exact PyProof.Rows.callWith_builtin1 (thn (ha pos pins s σ H _ I h) fun us s1 ⟨vs, H1, I1, r1, q1⟩ => hc pins s1 σ H1 vs us Q I1 r1 q1) he hpl
theorem pe_callTy (hc : CallR X (.type T) r) (hg : Gl X x) (hm : X.mg x = none) (hv : bootBuiltins x = some (.type T)) (ha : PA X (e :: es) t) (hn : x ≠ "__name__" := by decide) (hdb : (x == ("__debug__" : Str)) = false := by decide)
    (he : starEach (e :: es) X.env = (false, eval e X.env) :: starEach es X.env := by rfl) (hpl : (backTo pos (starEach es X.env)).any (·.1) = false := by rfl) : PE X (.Call (.Name x p) (e :: es) [] pos) (tCB r t) := by
  intro pins s σ H Q I h
  refine wpAny_Call_Name_kw (ld_blt I hg hm hv ?_ hn hdb)
  exact PyProof.Rows.callWith_type1 (thn (ha pos pins s σ H _ I h) fun us s1 ⟨vs, H1, I1, r1, q1⟩ => hc pins s1 σ H1 vs us Q I1 r1 q1) he hpl
end
end L2
namespace HT
open PySem PyProof.Rows
section
open PySem.SeqAt
open PySem.AutoSeq1 (wpAny_loadPart')
open PySem.MeetsSeq PySem.MeetsSeq2 PySem.MeetsSeq3
end
section
variable {prog : Program} {w : World} {A : Around} {E : Value → Shared → Prop} {s : Shared}
end
end HT
namespace L2
open PySem PySem.Spec PyProof.Rows
theorem intsAre_of {ns : List Int} : ∀ {us : List Value}, Vals (ns.map V.int) us → IntsAre us ns := by
  induction ns with
  | nil => intro us r; rw [List.map_nil] at r; cases r; exact .nil
  | cons n ns ih =>
    intro us r
    rw [List.map_cons] at r
    cases r with
    | cons r1 r2 =>
      obtain ⟨t, e⟩ := r1
      subst e
      exact .cons n t (ih r2)
section
variable {X : Cx} {e : Expr} {te : TE} {lo hi : Option Expr} {tl th : TO} {pos p2 : Pos}
end
end L2
namespace L2
open PySem PySem.Spec PyProof.Rows
noncomputable def ixN (n : Nat) (i : Int) : Option Nat := if 0 ≤ i then (if i < n then some i.toNat else none) else if -(n : Int) ≤ i then some (i + n).toNat else none
noncomputable def atI {α : Type} (xs : List α) (i : Int) : Option α := (ixN xs.length i).bind fun j => xs[j]?
theorem ixN_seq {n : Nat} {i : Int} {j : Nat} (h : ixN n i = some j) : seqIndex? i n = some j ∧ j < n ∧ -(n : Int) ≤ i ∧ i < n := by
  unfold ixN at h
  by_cases h0 : 0 ≤ i
  · rw [if_pos h0] at h
    by_cases h1 : i < n
    · rw [if_pos h1] at h
      have e : i.toNat = j := Option.some.inj h
      exact ⟨by rw [seqIndex_of h0 h1, e], by omega, by omega, h1⟩
    · rw [if_neg h1] at h; cases h
  · rw [if_neg h0] at h
    by_cases h1 : -(n : Int) ≤ i
    · rw [if_pos h1] at h
      have e : (i + n).toNat = j := Option.some.inj h
      exact ⟨by rw [seqIndex_neg (by omega) h1, e], by omega, h1, by omega⟩
    · rw [if_neg h1] at h; cases h
theorem atI_get {α : Type} {xs : List α} {i : Int} {v : α} (h : atI xs i = some v) : ∃ j, seqIndex? i xs.length = some j ∧ xs[j]? = some v ∧ j < xs.length ∧ -(xs.length : Int) ≤ i ∧ i < xs.length := by
  unfold atI at h
  cases e : ixN xs.length i with
  | none => rw [e] at h; cases h
  | some j =>
    rw [e] at h
    obtain ⟨h1, h2, h3, h4⟩ := ixN_seq e
    exact ⟨j, h1, h, h2, h3, h4⟩
noncomputable def PlainIx (b : Expr) : Prop := ∀ o i, subscripted b false o i = operate [o, i] (getItem o i)
noncomputable def IxR (X : Cx) (r : R2) : Prop :=
  ∀ (value slice : Expr) (pins : List (Addr × Obj)) (s : Shared) (σ : St) (H : Hp) (x y : V) (v u : Value) (Q : VK), Inv X pins σ H s → RelV x v → RelV y u → r x y H Q →
    subscripted slice false v u = operate [v, u] (getItem v u) → wpAny (model X.prog X.w) X.A (subscriptTail value slice v u) (EP X pins σ Q) X.xe s
noncomputable def MtR (X : Cx) (id : String) (r : V → List V → Hp → VK → Prop) : Prop :=
  ∀ (pins : List (Addr × Obj)) (s : Shared) (σ : St) (H : Hp) (x : V) (xs : List V) (v : Value) (us : List Value) (Q : VK), Inv X pins σ H s → RelV x v → Vals xs us → r x xs H Q →
    wpAny (model X.prog X.w) X.A (call (.builtin id) (v :: us)) (EP X pins σ Q) X.xe s
section
variable {X : Cx} {a b : Expr} {ta tb : TE} {pos : Pos}
theorem IxR.or {r r' : R2} (h : IxR X r) (h' : IxR X r') : IxR X (fun x y H Q => r x y H Q ∨ r' x y H Q) := by
  intro value slice pins s σ H x y v u Q I rx ry q hs
  rcases q with q | q
  · exact h value slice pins s σ H x y v u Q I rx ry q hs
  · exact h' value slice pins s σ H x y v u Q I rx ry q hs
theorem pe_ix {r : R2} (hr : IxR X r) (ha : PE X a ta) (hb : PE X b tb) (hs : PlainIx b) : PE X (.Subscript a b pos) (tOp r ta tb) := by
  intro pins s σ H Q I h
  exact Subscript_ (binT ha hb I h fun v u s2 x y H2 I2 rx ry q => hr a b pins s2 σ H2 x y v u Q I2 rx ry q (hs _ _))
noncomputable def rIxL (K : PySem.W.Frag) : R2 := fun x y H Q => ∃ p xs i v, x = .ref p ∧ y = .int i ∧ SqL K H p xs ∧ atI xs i = some v ∧ Q v H
noncomputable def rIxT (K : PySem.W.Frag) : R2 := fun x y H Q => ∃ p xs i v, x = .ref p ∧ y = .int i ∧ SqT K H p xs ∧ atI xs i = some v ∧ Q v H
noncomputable def rIxS : R2 := fun x y H Q => ∃ z i c, x = .str z ∧ y = .int i ∧ z.length ≤ sizeLine ∧ atI z.cps.toList i = some c ∧ Q (.str ⟨#[c]⟩) H
theorem ix_list : IxR X (rIxL X.K) := by
  intro value slice pins s σ H x y v u Q I rx ry h hs
  obtain ⟨p, xs, i, z, rfl, rfl, hq, he, q⟩ := h
  cases rx
  obtain ⟨t, rfl⟩ := ry
  obtain ⟨its, r, pl, hz⟩ := I.list hq
  obtain ⟨j, h1, h2, h3, h4, h5⟩ := atI_get he
  obtain ⟨w, ew, rw'⟩ := r.get h2
  have hl := r.length
  have hn := line63
  have fin : EP X pins σ Q w s := ⟨z, H, I, rw', q⟩
  by_cases h0 : 0 ≤ i
  · have hj : i.toNat = j := by
      rw [seqIndex_of h0 h5] at h1
      exact Option.some.inj h1
    exact item_listR pl.isList h0 (by omega) (by rw [hj]; simpa using ew) fin hs
  · have hj : (i + (its.toArray.size : Int)).toNat = j := by
      rw [seqIndex_neg (by omega) h4] at h1
      rw [List.size_toArray, ← hl]
      exact Option.some.inj h1
    exact subscriptTail_builtinR (x := w) pl.isList.typeIs slot_list_getitem.lookup
      (wpAny_getItem_list_neg (Q := fun r s' => r = w ∧ EP X pins σ Q r s') pl.isList (by omega) (by rw [List.size_toArray] <;> omega) (by omega) (by rw [hj]; simpa using ew) ⟨rfl, fin⟩) hs
theorem ix_tup : IxR X (rIxT X.K) := by
  intro value slice pins s σ H x y v u Q I rx ry h hs
  obtain ⟨p, xs, i, z, rfl, rfl, hq, he, q⟩ := h
  cases rx
  obtain ⟨t, rfl⟩ := ry
  obtain ⟨its, r, pl, hz⟩ := I.tuple hq
  obtain ⟨j, h1, h2, h3, h4, h5⟩ := atI_get he
  obtain ⟨w, ew, rw'⟩ := r.get h2
  have hl := r.length
  have hn := line63
  have fin : EP X pins σ Q w s := ⟨z, H, I, rw', q⟩
  exact subscriptTail_builtinR (x := w) pl.typeIs slot_tuple_getitem.lookup
    (getItem_tuple (j := j) (Q := fun r s' => r = w ∧ EP X pins σ Q r s') pl (by omega) (by omega) (by rw [List.size_toArray, ← hl]; exact h1) (by simpa using ew) ⟨rfl, fin⟩) hs
theorem ix_str : IxR X rIxS := by
  intro value slice pins s σ H x y v u Q I rx ry h hs
  obtain ⟨z, i, c, rfl, rfl, hz, he, q⟩ := h
  obtain ⟨t, rfl⟩ := rx
  obtain ⟨t', rfl⟩ := ry
  obtain ⟨j, h1, h2, h3, h4, h5⟩ := atI_get he
  have hl : z.cps.toList.length = z.length := by simp [Str.length]
  rw [hl] at h1 h4 h5
  have hn := line63
  exact tail_any (typeIs_str s z t) slot_str_getitem.lookup (getItem_str (c := c) (by
    have e1 : decide (i < -(2 ^ 63 : Int)) = false := decide_eq_false (by omega)
    have e2 : decide (i ≥ 2 ^ 63) = false := decide_eq_false (by omega)
    rw [e1, e2, Bool.or_false]) (by rw [h1]; simpa using h2) ⟨.str ⟨#[c]⟩, H, I.tok _, ⟨_, rfl⟩, q⟩) hs
noncomputable def rIx (K : PySem.W.Frag) : R2 := fun x y H Q => rIxL K x y H Q ∨ rIxT K x y H Q ∨ rIxS x y H Q
theorem ix_seq : IxR X (rIx X.K) := ix_list.or (ix_tup.or ix_str)
theorem call_len_seq : CallR X (.builtin "len") (fun xs H Q => ∃ p ys, xs = [.ref p] ∧ (SqL X.K H p ys ∨ SqT X.K H p ys) ∧ Q (.int ys.length) H) := by
  intro pins s σ H xs us Q I r h
  obtain ⟨p, ys, rfl, hq, q⟩ := h
  obtain ⟨u, rfl, rx⟩ := vals1 r
  cases rx
  have hn := line63
  rcases hq with hq | hq
  · obtain ⟨its, r', pl, hz⟩ := I.list hq
    have hlen := r'.length
    exact Calls.call_len_list pl.isList (by simp only [List.size_toArray] <;> omega) ⟨.int ys.length, H, I.tok _, ⟨s.toks + 1, by rw [List.size_toArray, hlen]⟩, q⟩
  · obtain ⟨its, r', pl, hz⟩ := I.tuple hq
    have hlen := r'.length
    exact len_tuple pl (by simp only [List.size_toArray] <;> omega) ⟨.int ys.length, H, I.tok _, ⟨s.toks + 1, by rw [List.size_toArray, hlen]⟩, q⟩
theorem call_list_of : CallR X (.type "list") (fun xs H Q => ∃ p ys, xs = [.ref p] ∧ (SqL X.K H p ys ∨ SqT X.K H p ys) ∧ ∀ l, H l = none → Q (.ref l) (upd H l (.lst ys))) := by
  intro pins s σ H xs us Q I r h
  obtain ⟨p, ys, rfl, hq, q⟩ := h
  obtain ⟨u, rfl, rx⟩ := vals1 r
  cases rx
  have fin : ∀ (its : List Value), Vals ys its → ys.length ≤ sizeLine → ∀ (h' : Heap) (c' : Nat), (∀ b o', s.heap.get? b = some o' → h'.get? b = some o') →
      h'.get? s.heap.objs.size = some { cls := .type "list", dict := none, data := .seq its.toArray c', slots := #[] } → EP X pins σ Q (.ref s.heap.objs.size) { s with heap := h' } := fun its r' hz h' c' kp e =>
    ⟨.ref s.heap.objs.size, _, I.laid (t' := s.toks) kp (Nat.le_refl _) (show ObjOk X.prog X.w _ h' _ (.lst ys) from ⟨hz, its, c', r', e⟩), rfl, q _ (I.hok.fresh (Nat.le_refl _))⟩
  rcases hq with hq | hq
  · obtain ⟨its, r', pl, hz⟩ := I.list hq
    have hlen := r'.length
    obtain ⟨o, ho, hc, n, hd⟩ := pl.isList
    exact call_list_seq p (.inl rfl) ho hc hd (fun h' c' kp e => fin its r' hz h' c' kp e) (by simp only [List.size_toArray] <;> omega)
  · obtain ⟨its, r', pl, hz⟩ := I.tuple hq
    have hlen := r'.length
    obtain ⟨o, ho, hc, n, hd⟩ := pl
    exact call_list_seq p (.inr rfl) ho hc hd (fun h' c' kp e => fin its r' hz h' c' kp e) (by simp only [List.size_toArray] <;> omega)
theorem call_tuple_of : CallR X (.type "tuple") (fun xs H Q => ∃ p ys, xs = [.ref p] ∧ ((SqL X.K H p ys ∧ ∀ l, H l = none → Q (.ref l) (upd H l (.tup ys))) ∨ (SqT X.K H p ys ∧ Q (.ref p) H))) := by
  intro pins s σ H xs us Q I r h
  obtain ⟨p, ys, rfl, h⟩ := h
  obtain ⟨u, rfl, rx⟩ := vals1 r
  cases rx
  rcases h with ⟨hq, q⟩ | ⟨hq, q⟩
  · obtain ⟨its, r', pl, hz⟩ := I.list hq
    have hlen := r'.length
    refine call_tuple_list pl.isList (fun h' kp => ?_) (by simp only [List.size_toArray] <;> omega)
    have I1 : Inv X pins σ H { s with heap := h' } := I.kept (t' := s.toks) kp
    have I2 : Inv X pins σ (upd H h'.objs.size (.tup ys)) { s with heap := h'.push { cls := .type "tuple", data := .seq its.toArray } } :=
      I1.laid (t' := s.toks) (fun b o e => Heap.get?_push_of_some _ e) (Nat.le_refl _) (show ObjOk X.prog X.w _ _ _ (.tup ys) from ⟨hz, its, r', IsTup.new _ _⟩)
    exact ⟨.ref h'.objs.size, _, I2, rfl, q _ (I1.hok.fresh (Nat.le_refl _))⟩
  · obtain ⟨its, r', pl, hz⟩ := I.tuple hq
    exact call_tuple_same pl ⟨.ref p, H, I, rfl, q⟩
noncomputable def tyV (K : PySem.W.Frag) (T : String) (x : V) (H : Hp) : Prop := match x with
  | .str _ => T = "str"
  | .int _ => T = "int"
  | .ref p => (T = "list" ∧ ∃ xs, SqL K H p xs) ∨ (T = "tuple" ∧ ∃ o, K.lookup p = some o ∧ o.cls = .type "tuple" ∧ o.dict = none) ∨
      (T = "dict" ∧ ((∃ kvs, H p = some (.dK kvs)) ∨ ∃ kvs, H p = some (.dT kvs))) ∨ (T = "set" ∧ ∃ S n, H p = some (.set S n))
  | _ => False
theorem tyV_is {pins : List (Addr × Obj)} {σ : St} {H : Hp} {s : Shared} {T : String} {x : V} {v : Value} (I : Inv X pins σ H s) (r : RelV x v) (ty : tyV X.K T x H) :
    s.TypeIs v T ∧ ∀ a, v = .ref a → ∃ ob, s.heap.get? a = some ob ∧ ob.dict = none := by
  cases x with
  | str z =>
    obtain ⟨t, rfl⟩ := r
    cases (show T = "str" from ty)
    exact ⟨typeIs_str s z t, fun _ e => nomatch e⟩
  | int i =>
    obtain ⟨t, rfl⟩ := r
    cases (show T = "int" from ty)
    exact ⟨typeIs_int s i t, fun _ e => nomatch e⟩
  | ref p =>
    cases r
    rcases ty with ⟨rfl, xs, hq⟩ | ⟨rfl, o, hk, hc, hd⟩ | ⟨rfl, hk⟩ | ⟨rfl, S, n, hk⟩
    · obtain ⟨its, _, pl, _⟩ := I.list hq
      refine ⟨pl.isList.typeIs, fun a e => ?_⟩
      cases e
      obtain ⟨o, n, e, c, hd, _⟩ := pl
      exact ⟨o, e, hd⟩
    · refine ⟨⟨o, I.kIn p o hk, hc⟩, fun a e => ?_⟩
      cases e
      exact ⟨o, I.kIn _ o hk, hd⟩
    · have z : ∃ o, s.heap.get? p = some o ∧ o.ExactDict := by
        rcases hk with ⟨kvs, hk⟩ | ⟨kvs, hk⟩
        · obtain ⟨_, _, _, _, o, _, _, e, ex, _⟩ := I.hok p _ hk
          exact ⟨o, e, ex⟩
        · obtain ⟨_, _, _, _, o, _, _, e, ex, _⟩ := I.hok p _ hk
          exact ⟨o, e, ex⟩
      obtain ⟨o, e, ex⟩ := z
      refine ⟨⟨o, e, ex.1⟩, fun a e2 => ?_⟩
      cases e2
      exact ⟨o, e, ex.2.1⟩
    · obtain ⟨o, _, _, _, e, ex, _⟩ := I.hok p _ hk
      refine ⟨⟨o, e, ex.1⟩, fun a e2 => ?_⟩
      cases e2
      exact ⟨o, e, ex.2.1⟩
  | _ => exact False.elim ty
noncomputable def tBM (K : PySem.W.Frag) (T : String) (r : V → List V → Hp → VK → Prop) (to : TE) (t : TA) : TE := fun σ H Q => to σ H fun x H1 => tyV K T x H1 ∧ t σ H1 fun xs H2 => r x xs H2 Q
variable {o e : Expr} {es : List Expr} {to : TE} {t : TA} {name : Str} {apos cpos : Pos} {T id : String} {r : V → List V → Hp → VK → Prop}
theorem pe_bm (pa : PlainAttrs T) (slot : Slot T name id) (hty : typeOf (.builtin id) = pure (.type "method_descriptor")) (hm : MtR X id r) (ho : PE X o to) (ha : PA X (e :: es) t)
    (hbase : attributeBase o name X.env (eval o X.env) = eval o X.env := by rfl)
    (hfew : ((backTo cpos (starEach (e :: es) X.env)).all (fun x => !x.1) && (backToKw cpos (keywordEach [] X.env)).all (fun x => x.1.isSome)
      && decide ((e :: es).length + ([] : List Keyword).length + (if ([] : List Keyword).isEmpty then 0 else 1) < 30)) = true := by rfl)
    (hline : (apos.endLine == cpos.line) = true := by rfl) (hs : starEach (e :: es) X.env = (false, eval e X.env) :: starEach es X.env := by rfl) (hplain : (backTo cpos (starEach es X.env)).any (·.1) = false := by rfl) :
    PE X (.Call (.Attribute o name apos) (e :: es) [] cpos) (tBM X.K T r to t) := by
  intro pins s σ H Q I h
  refine wpAny_Call_method_late hbase hfew hline rfl (thn (ho pins s σ H _ I h) fun v s1 zz53 => ?_)
  obtain ⟨x, H1, I1, r1, ty, q1⟩ := zz53
  obtain ⟨h1, h2⟩ := tyV_is I1 r1 ty
  refine ⟨T, id, pa, slot, hty, h1, h2, ?_⟩
  have hA := ha cpos pins s1 σ H1 _ I1 q1
  rw [hs] at hA ⊢
  refine Calls.callWith_builtin (by show (false || (backTo cpos (starEach es X.env)).any (·.1)) = false; rw [hplain] <;> rfl) (Calls.evalArgs_plain ?_)
  exact thn hA fun us s2 yy3 => by
   obtain ⟨vs, H2, I2, r2, q2⟩ := yy3
   exact hm pins s2 σ H2 x vs v us Q I2 r1 r2 q2
/- xs.append(e), list.index on a module's tuple .. are MtR facts of 06m -/
end
end L2
namespace L2
open PySem PySem.Spec PyProof.Rows
noncomputable def MtM (X : Cx) (id : String) (r : V → List V → Hp → VK → Prop) : Prop :=
  ∀ (pins : List (Addr × Obj)) (s : Shared) (σ : St) (H : Hp) (x : V) (xs : List V) (v : Value) (us : List Value) (Q : VK), Inv X pins σ H s → RelV x v → Vals xs us → r x xs H Q →
    wpAny (model X.prog X.w) X.A (call (.builtin id) (v :: us)) (EP X pins σ Q) X.xe s
theorem Vals.one {x : V} {us : List Value} (h : Vals [x] us) : ∃ u, us = [u] ∧ RelV x u := by
  cases h with
  | cons r h => cases h; exact ⟨_, rfl, r⟩
theorem Vals.two {x y : V} {us : List Value} (h : Vals [x, y] us) : ∃ u v, us = [u, v] ∧ RelV x u ∧ RelV y v := by
  cases h with
  | cons r h => obtain ⟨_, rfl, q⟩ := Vals.one h; exact ⟨_, _, rfl, r, q⟩
section
variable {X : Cx} {pins : List (Addr × Obj)} {σ : St} {H : Hp} {s : Shared} {l b : Addr} {xs ys zs : List V}
theorem Inv.lset {its its' : List Value} {n : Nat} {f : Array Value → Array Value} {t' : Nat} (I : Inv X pins σ H s) (hH : H l = some (.lst xs))
    (e : s.heap.get? l = some { cls := .type "list", data := .seq its.toArray n }) (hf : f its.toArray = its'.toArray) (hv : Vals ys its') (hz : ys.length ≤ sizeLine) :
    Inv X pins σ (upd H l (.lst ys)) { s with heap := s.heap.update l (Obj.mapSeq f), toks := t' } := by
  have q := PySem.IsL.update e f
  rw [hf] at q
  refine I.write (x := l) (e := l) (by rw [hH]; exact trivial) (.inl rfl) (fun b' u hb hu => (Heap.get?_update_other s.heap (Obj.mapSeq f) (Ne.symm hb)).trans hu) ⟨_, q⟩ ?_
  exact ⟨hz, its', _, hv, q⟩
theorem Inv.lnew {its : List Value} {t' : Nat} (I : Inv X pins σ H s) (hv : Vals ys its) (hz : ys.length ≤ sizeLine) :
    Inv X pins σ (upd H s.heap.objs.size (.lst ys)) { s with heap := s.heap.push { cls := .type "list", data := .seq its.toArray }, toks := t' } :=
  I.laid (fun _ _ q => Heap.get?_push_of_some _ q) (Nat.le_refl _) ⟨hz, its, 0, hv, Heap.get?_push_size _ rfl⟩
theorem Inv.fresh (I : Inv X pins σ H s) : H s.heap.objs.size = none := I.hok.fresh (Nat.le_refl _)
theorem Inv.lstM (I : Inv X pins σ H s) (hH : H l = some (.lst xs)) : xs.length ≤ sizeLine ∧ ∃ (its : List Value) (n : Nat), Vals xs its ∧ xs.length = its.length ∧ s.heap.get? l = some { cls := .type "list", data := .seq its.toArray n } := by
  obtain ⟨z, its, n, r, e⟩ := I.hok l _ hH
  exact ⟨z, its, n, r, r.length, e⟩
end
section
variable {X : Cx}
noncomputable def rAppend : V → List V → Hp → VK → Prop := fun x vs H Q => ∃ l xs y, x = .ref l ∧ vs = [y] ∧ H l = some (.lst xs) ∧ xs.length < sizeLine ∧ Q .non (upd H l (.lst (xs ++ [y])))
theorem mt_append : MtM X "list.append" rAppend := by
  intro pins s σ H x vs v us Q I rx rv h
  obtain ⟨l, xs, y, rfl, rfl, hH, hz, q⟩ := h
  cases rx
  obtain ⟨u, rfl, ru⟩ := rv.one
  obtain ⟨z, its, n, r, hl, e⟩ := I.lstM hH
  refine call_meets F.slot_list_append ⟨_, e, rfl⟩ F.entry_list_append (F.args_list_append_2 _ _) (PySem.list_append l its.toArray n u (by rw [List.size_toArray]; omega)) ⟨e, ?_⟩
  refine ⟨.non, _, I.lset (its' := its ++ [u]) hH e (by simp) (r.append (.cons ru .nil)) ?_, rfl, q⟩
  rw [List.length_append, List.length_singleton]
  omega
noncomputable def rCat : R2 := fun x y H Q => ∃ l b xs zs, x = .ref l ∧ y = .ref b ∧ H l = some (.lst xs) ∧ H b = some (.lst zs) ∧ xs.length + zs.length ≤ sizeLine ∧ ∀ p, H p = none → Q (.ref p) (upd H p (.lst (xs ++ zs)))
theorem op_cat : OpR X (binaryOp .Add) rCat := by
  intro pins s σ H x y v u Q I rx ry h
  obtain ⟨l, b, xs, zs, rfl, rfl, hH, hB, hz, q⟩ := h
  cases rx
  cases ry
  obtain ⟨z, its, n, r, hl, e⟩ := I.lstM hH
  obtain ⟨z2, its2, n2, r2, hl2, e2⟩ := I.lstM hB
  refine PySem.P.add_list e e2 ?_ (by rw [List.size_toArray, List.size_toArray]; omega)
  have ea : its.toArray ++ its2.toArray = (its ++ its2).toArray := by simp
  rw [ea]
  exact ⟨.ref _, _, I.lnew (t' := s.toks) (r.append r2) (by rw [List.length_append]; omega), rfl, q _ I.fresh⟩
end
section
variable {prog : Program} {w : World} {A : Around} {E : Value → Shared → Prop} {s : Shared}
set_option maxRecDepth 100000 in
end
section
variable {X : Cx}
end
end L2
namespace Att
open PySem PySem.W PySem.Calls PyProof.Rows
theorem ints_of_wellAll {P : Params} {h : Heap} : ∀ (ns : List Int) (vs : List Value), WellAll P h vs (ns.map WData.int) → IntsAre vs ns := by
  intro ns
  induction ns with
  | nil =>
    intro vs w
    rw [List.map_nil] at w
    cases w
    exact .nil
  | cons n ns ih =>
    intro vs w
    rw [List.map_cons] at w
    cases w with
    | cons a b =>
      cases a
      exact .cons _ _ (ih _ b)
theorem script_of {l : OpenLaw} {n : Nat} (hn : l.most = some n) {P : Params} {h : Heap} {args : List WData} {vals : List Value}
    (hpre : l.row.toRowW.claim.pre args = true) (hwl : WellAll P h vals args) :
    ∃ a vs ns, vals = [Value.ref a] ∧ args = [WData.list (ns.map WData.int)] ∧ h.get? a = some { cls := .type "list", data := .seq vs.toArray } ∧ IntsAre vs ns ∧ ns.length ≤ n := by
  have hsh : WShape.hasAll [] args [.list .int] = true := (pre_splitW hpre).1
  have hc : l.pre.holds [] { args := args } = true := (pre_splitW hpre).2
  obtain ⟨d, r, rfl, h1, h2⟩ := hasAllW_cons hsh
  obtain rfl := hasAllW_nil h2
  obtain ⟨xs, rfl, h3⟩ := hasW_list h1
  obtain ⟨ns, rfl⟩ := items_int h3
  have hlen : ns.length ≤ n := by
    unfold OpenLaw.pre at hc
    have h4 : (WTm.not (.lt (.lit (.int (n : Int))) (.len (.arg 0)))).holds [] { args := [.list (ns.map .int)] } = true := by
      have h4 := (holds_andW hc).1
      rw [hn] at h4
      exact h4
    have h5 := condW_of h4 (w_not (w_lt w_lit (w_len_list (w_arg rfl))))
    rw [List.length_map] at h5
    refine Nat.le_of_not_lt fun q => ?_
    have q' : (n : Int) < ((ns.length : Nat) : Int) := by omega
    first
      | (rw [decide_eq_true q'] at h5; exact absurd h5 (by decide))
      | (simp at h5; omega)
  cases hwl with
  | cons w1 w2 =>
    cases w2
    cases w1 with
    | list ho hall => exact ⟨_, _, ns, rfl, rfl, ho, ints_of_wellAll ns _ hall, hlen⟩
theorem post_true (l : OpenLaw) (args : List WData) : l.row.toRowW.claim.post args (.bool true) args = true :=
  postW_of (r := l.row.toRowW) (X := (true == true))
    (show WShape.has [] (.bool true) .bool = true by first | rfl | decide | simp [WShape.has, WShape.arms, WShape.armsAll])
    (show (WTm.eq .res (.lit (.bool true))).value [] { args := args, res := some (.bool true), after := args } = some (.bool (true == true)) from w_eq_bool (w_res rfl) w_lit) rfl
theorem attach_call {l : OpenLaw} {n : Nat} {q : Program} {loose : List Str} {XP : (Str → Option Value) → Heap → Prop} {YP : World → Heap → Prop} {d : DefRec}
    (hn : l.most = some n) (hdf : d.params.defaults = [])
    (call : ∀ (w : World) (s₀ s₁ : Shared) (mg mb : Str → Option Value) (fa : Addr) (o : Obj) (pm cd doc : Value) (a : Addr) (vs : List Value) (ns : List Int),
      Ground q loose [] XP w s₀ mg mb s₁.heap → YP w s₁.heap →
      s₁.heap.get? fa = some o → o.data = .func (docDef d.name d.params d.body d.scope pm cd doc) → s₁.heap.CodeRec cd d.name → mg d.name = some (.ref fa) →
      s₁.heap.get? a = some { cls := .type "list", data := .seq vs.toArray } → IntsAre vs ns → ns.length ≤ n → s₁.gens = #[] →
      codeAny (model l.prog w) callerA (.call (.ref fa) ⟨[.ref a], []⟩) (fun r s' => r = .ok (.ret (.bool true)) ∧ OldK s₁.heap s'.heap ∧ s'.os = s₁.os ∧ AllBare s'.gens) s₁) :
    WalkO q loose XP YP l.row.toRowW d [] (fun f vs => PySem.call f vs) := by
  intro w s₀ s₁ mg mb G Y fa o pm cd doc dV kV ho hd hcd hD hmg hg args vals as hpre hlay hrd hwl hlo
  obtain rfl : dV = .none := Dflts.none hD hdf
  obtain rfl : kV = .none := Dflts.noKw hD
  obtain ⟨a, vs, ns, rfl, rfl, hobj, hints, hlen⟩ := script_of hn hpre hwl
  refine enter_call (codeAny_mono (call w s₀ s₁ mg mb fa o pm cd doc a vs ns G Y ho (fd_plain hd) hcd hmg hobj hints hlen hg) fun r s' hq => ?_)
  obtain ⟨rfl, h2, h3, h4⟩ := hq
  exact ⟨.inl ⟨.bool true, .bool true, [], rfl, fun _ => rfl, .bool true, post_true l _, fun _ => ⟨List.Pairwise.nil, fun _ hm => (nomatch hm)⟩⟩, h2, h3, h4⟩
section
variable {prog : Program} {w : World} {A : Around} {E : Value → Shared → Prop} {s : Shared} {K : Frag}
end
end Att
namespace L2
open PySem PySem.Spec PyProof.Rows
theorem vals_ints : ∀ {vs : List Value} {ns : List Int}, IntsAre vs ns → Vals (ns.map V.int) vs
  | _, _, .nil => .nil
  | _, _, .cons n t h => .cons ⟨t, rfl⟩ (vals_ints h)
noncomputable def Only (H : Hp) : Prop := ∀ b, H b = none ∨ ∃ o xs, H b = some (.frz o (.lst xs))
theorem law_call {P : Program} {w : World} {K : PySem.W.Frag} {mg mb : Str → Option Value} {CX : CXT} {k : Nat} {fa a : Addr} {fd : FuncData} {x : Str} {sp : Sp} {s₁ : Shared} {vs : List Value} {ns : List Int}
    (KX : K.In s₁.heap) (hns : s₁.heap.Ns mainGlobals mg) (hb : s₁.heap.Ns builtinsNs mb) (hbb : ∀ x : Str, x ≠ "__name__" → mb x = bootBuiltins x) (hlim : s₁.heap.NoLimit) (hg : s₁.gens = #[])
    (ha : s₁.heap.get? a = some { cls := .type "list", data := .seq vs.toArray }) (hi : IntsAre vs ns) (hl : ns.length ≤ sizeLine) (hr : Room k callerA)
    (F : ∀ base : Heap, K.In base → base.Ns mainGlobals mg → FnOk P w K mg base CX k fa fd [x] sp) (hbind : ∀ (s : Shared) (u : Value), BindsTo s fd ⟨[u], []⟩ [(x, u)])
    (hsp : ∀ H : Hp, Only H → SqL K H a (ns.map V.int) → sp [.ref a] H (fun v _ => v = .bl true) fun _ _ _ => False)
    (hCX : ∀ H e s', CX [] H s₁ (fun _ _ _ => False) e s' → False) :
    codeAny (model P w) callerA (.call (.ref fa) ⟨[.ref a], []⟩) (fun r s' => r = .ok (.ret (.bool true)) ∧ OldK s₁.heap s'.heap ∧ s'.os = s₁.os ∧ AllBare s'.gens) s₁ := by
  have rv := vals_ints hi
  have lenV := hi.length
  have core : ∀ H : Hp, Only H → SqL K H a (ns.map V.int) → HOk P w H s₁.heap → (∀ b, H b ≠ none → b = a) → (H a ≠ none → K.lookup a = none) →
      codeAny (model P w) callerA (.call (.ref fa) ⟨[.ref a], []⟩) (fun r s' => r = .ok (.ret (.bool true)) ∧ OldK s₁.heap s'.heap ∧ s'.os = s₁.os ∧ AllBare s'.gens) s₁ := by
    intro H hO hS hok hA hK
    have base_of : ∀ {b : Addr} {o : Obj}, s₁.heap.get? b = some o → H b = none → (hidT s₁.heap H).get? b = some o := fun e n => hidT_get e n
    have noA : ∀ {b : Addr} {o : Obj} {es : Array DictEntry} {ep : Nat}, s₁.heap.get? b = some o → o.data = .dict es ep → H b = none := fun {b o es ep} e d => by
      cases q : H b with
      | none => rfl
      | some u =>
        have e' : b = a := hA b (by rw [q]; simp)
        subst e'
        rw [ha] at e; cases e
        have d' : Data.seq vs.toArray _ = Data.dict es ep := d
        cases d'
    have nsK : ∀ {b : Addr} {m : Str → Option Value}, s₁.heap.Ns b m → (hidT s₁.heap H).Ns b m := fun {b m} ⟨o, es, ep, e, d, r⟩ => ⟨o, es, ep, base_of e (noA e d), d, r⟩
    have hKb : K.In (hidT s₁.heap H) := fun b o e => base_of (KX b o e) (by
      cases q : H b with
      | none => rfl
      | some u =>
        have e' : b = a := hA b (by rw [q]; simp)
        subst e'
        rw [hK (by rw [q]; simp)] at e; cases e)
    have hM : Mod K mg (hidT s₁.heap H) := ⟨hKb, nsK hns, ⟨mb, nsK hb, hbb⟩, let ⟨mc, h1, h2⟩ := hlim; ⟨mc, nsK h1, h2⟩⟩
    have e0 : Env0 P w K mg (hidT s₁.heap H) callerA [] s₁ H := ⟨rfl, hM, fun b o e => of_hidT e, Nat.le_of_eq (hidT_size _ _), trivial, fun b hb => absurd (show b ∈ ([] : List Addr) from hb) (by simp), hok, .of_eq hg⟩
    refine codeAny_mono ((F _ hKb (nsK hns)).run callerA [] s₁ H ⟨[.ref a], []⟩ [.ref a] [.ref a] _ _ hr e0 (hbind s₁ (.ref a)) (.cons rfl .nil) (hsp H hO hS)) fun r s' h => ?_
    cases r with
    | error e => exact (hCX H e s' h).elim
    | ok fl =>
      cases fl with
      | next => exact False.elim h
      | brk => exact False.elim h
      | cont => exact False.elim h
      | ret u =>
        obtain ⟨v, H', os, bare, un, hok', r', q⟩ := h
        have q' : v = .bl true := q
        subst q'
        obtain rfl : u = Value.bool true := r'
        refine ⟨rfl, OldK.of_keep fun b o e => ?_, os, bare⟩
        cases q : H b with
        | none => exact un.keep b o e q (by intro z; exact absurd (show b ∈ ([] : List Addr) from z) (by simp)) (by simp)
        | some u =>
          rcases hO b with z | ⟨ob, xs, z⟩
          · rw [q] at z; cases z
          · have z2 := un.frzs b ob _ z
            obtain ⟨e1, _⟩ := hok b _ z
            obtain ⟨e2, _⟩ := hok' b _ z2
            rw [e] at e1; cases e1
            exact e2
  cases hk : K.lookup a with
  | some o =>
    have e := KX a o hk
    rw [ha] at e
    cases e
    refine core (fun _ => none) (fun _ => .inl rfl) (.inr ⟨_, vs.toArray, _, hk, rfl, rfl, rfl, by rw [List.size_toArray, lenV]; exact hl, by simpa using rv⟩) (fun b u z => by have z' : (none : Option HO) = some u := z; cases z') (fun b z => absurd rfl z) fun z => absurd rfl z
  | none =>
    refine core (fun b => if b = a then some (.frz { cls := .type "list", data := .seq vs.toArray } (.lst (ns.map V.int))) else none) (fun b => ?_) (.inl (.inr ⟨{ cls := .type "list", data := .seq vs.toArray }, if_pos rfl⟩)) (fun b u z => ?_) (fun b z => ?_) fun _ => hk
    · by_cases hb : b = a
      · exact .inr ⟨_, _, if_pos hb⟩
      · exact .inl (if_neg hb)
    · by_cases hb : b = a
      · have z' := (if_pos hb).symm.trans z
        cases z'
        subst hb
        exact ⟨ha, by rw [List.length_map]; exact hl, vs, _, rv, ha⟩
      · have z' := (if_neg hb).symm.trans z
        cases z'
    · by_cases hb : b = a
      · exact hb
      · exact absurd (if_neg hb) z
end L2
namespace L2
open PySem PySem.Spec PyProof.Rows
theorem walk_of {l : PySem.W.OpenLaw} {n k : Nat} {q : Program} {loose : List Str} {XP : (Str → Option Value) → Heap → Prop} {YP : World → Heap → Prop} {d : DefRec} {K : Params → PySem.W.Frag} {CX : World → CXT} {sp : World → Sp} {x : Str}
    (hn : l.most = some n) (hn2 : n ≤ sizeLine) (hdf : d.params.defaults = []) (hr : Room k callerA)
    (hY : ∀ (w : World) (h : Heap), YP w h → (K w.params).In h)
    (F : ∀ (w : World) (mg : Str → Option Value) (fa : Addr) (h : Heap), (K w.params).In h → h.Ns mainGlobals mg → mg d.name = some (.ref fa) →
      ∃ fd : FuncData, (∀ (s : Shared) (u : Value), BindsTo s fd ⟨[u], []⟩ [(x, u)]) ∧
        ∀ base : Heap, (K w.params).In base → base.Ns mainGlobals mg → FnOk l.prog w (K w.params) mg base (CX w) k fa fd [x] (sp w))
    (hsp : ∀ (w : World) (H : Hp) (a : Addr) (ns : List Int), ns.length ≤ n → Only H → SqL (K w.params) H a (ns.map V.int) → sp w [.ref a] H (fun v _ => v = .bl true) fun _ _ _ => False)
    (hCX : ∀ (w : World) (H : Hp) (s : Shared) (e : Value) (s' : Shared), CX w [] H s (fun _ _ _ => False) e s' → False) :
    PySem.W.WalkO q loose XP YP l.row.toRowW d [] (fun f vs => PySem.call f vs) := by
  refine Att.attach_call hn hdf fun w s₀ s₁ mg mb fa o pm cd doc a vs ns G Y ho hd hcd hmg hobj hints hlen hg => ?_
  have KX := hY w _ Y
  obtain ⟨fd, hb, hF⟩ := F w mg fa _ KX G.T.g hmg
  exact law_call KX G.T.g G.T.b G.T.builtins G.T.nolimit hg hobj hints (Nat.le_trans hlen hn2) hr hF hb (fun H hO hS => hsp w H a ns hlen hO hS) fun H e s' => hCX w H s₁ e s'
end L2
/- THE LAST THEOREM (shape; LID, My.* are yours):
   My.Adr: a structure of the addresses that your layer names (classes, functions); My.Txt K t: a structure (Prop) of the equations over K;
   My.txt_mk : {K} {implicit addresses ..} (e1 : nsIn K mainGlobals "law" = some (some (.ref f))) (e2 : K.lookup f = some ⟨oc, od, .func (fnOf "law" "law" params body scope dV kV doc pm an cdv ct), sl⟩) (e3 : codeIn K cdv "law" = true) .. : ∃ t, My.Txt K t
set_option maxRecDepth 100000 in
set_option maxHeartbeats 0 in
(the tactic k_is has no namespace: write k_is) -/
namespace L2
open PySem PySem.Spec PyProof.Rows
noncomputable def inClass (s : Stmt) (j : Nat) : Stmt := match s with
  | .ClassDef _ _ _ body _ _ _ _ _ _ _ => body.getD j (.Pass ⟨0, 0, 0, 0⟩)
  | _ => .Pass ⟨0, 0, 0, 0⟩
noncomputable def defArgs (s : Stmt) : Arguments := match s with
  | .FunctionDef _ a _ _ _ _ _ _ _ _ => a
  | _ => { posonlyargs := [], args := [], vararg := none, kwonlyargs := [], kw_defaults := [], kwarg := none, defaults := [] }
noncomputable def defBody (s : Stmt) : List Stmt := match s with
  | .FunctionDef _ _ b _ _ _ _ _ _ _ => b
  | _ => []
noncomputable def defScope (s : Stmt) : Scope := match s with
  | .FunctionDef _ _ _ _ _ _ sc _ _ _ => sc
  | _ => { kind := .function, names := [], isGenerator := false, isCoroutine := false }
noncomputable abbrev CX0 : CXT := fun _ _ _ _ _ _ => False
noncomputable abbrev E0 : XK := fun _ _ _ => False
theorem pass0 {X : Cx} : Passes CX0 X E0 := fun _ _ _ _ _ _ _ h => h.elim
structure Fun (K : PySem.W.Frag) (x qual : Str) (st : Stmt) (f : Addr) (fd : FuncData) : Prop where
  ex : ∃ (oc : Value) (od : Option Addr) (kV doc pm : Value) (an : Option Addr) (cdv ct : Value) (osl : Array (Option Value)),
    fd = PySem.W.fnOf x qual (defArgs st) (defBody st) (defScope st) .none kV doc pm an cdv ct ∧ K.lookup f = some ⟨oc, od, .func fd, osl⟩ ∧ PySem.W.codeIn K cdv qual = true
  kp : PySem.W.keepIn K (.ref f) = true
section
variable {P : Program} {w : World} {K : PySem.W.Frag} {mg : Str → Option Value} {base : Heap}
theorem Fun.ok {x qual : Str} {st : Stmt} {f : Addr} {fd : FuncData} {N ps : List Str} {k : Nat} {sp : Sp} (F : Fun K x qual st f fd) (S : FnScope N ps (defScope st)) (len : ∀ vs H Q E, sp vs H Q E → vs.length = ps.length)
    (hbody : ∀ (cdv : Value) (A : Around) (outer : List Env) (s : Shared) (H : Hp) (vs : List V) (Q : VK) (E : XK), Room k (A.deeper (envOfC qual (defScope st) s.heap.objs.size f cdv)) → sp vs H Q E →
      ∃ t, PSs (cxOf CX0 P w K mg base N qual (defScope st) f cdv A outer s H E).nox (defBody st) t ∧ t { nx := fun _ H' => Q .non H', rt := Q } (start N vs) H) : FnOk P w K mg base CX0 (k + 1) f fd ps sp := by
  obtain ⟨oc, od, kV, doc, pm, an, cdv, ct, osl, rfl, lk, hcd⟩ := F.ex
  refine fn_of lk hcd S len fun A outer s H vs Q E hr hsp => ?_
  obtain ⟨t, h, q⟩ := hbody cdv A outer s H vs Q E hr hsp
  exact ⟨t, h.nox, q⟩
theorem Fun.binds {x qual : Str} {st : Stmt} {f : Addr} {fd : FuncData} {ps : List Str} (F : Fun K x qual st f fd)
    (h : ∀ (kV doc pm : Value) (an : Option Addr) (cdv ct : Value) (us : List Value), us.length = ps.length → bindArgs (PySem.W.fnOf x qual (defArgs st) (defBody st) (defScope st) .none kV doc pm an cdv ct) ⟨us, []⟩ = pure (ps.zip us)) : Binds K fd ps [] := by
  obtain ⟨oc, od, kV, doc, pm, an, cdv, ct, osl, rfl, lk, hcd⟩ := F.ex
  exact .all (h kV doc pm an cdv ct)
theorem fun_mk {x qual : Str} {st : Stmt} {f : Addr} {oc : Value} {od an : Option Addr} {osl : Array (Option Value)} {kV doc pm cdv ct : Value} (l : K.lookup f = some ⟨oc, od, .func (PySem.W.fnOf x qual (defArgs st) (defBody st) (defScope st) .none kV doc pm an cdv ct), osl⟩)
    (c : PySem.W.codeIn K cdv qual = true) (k : PySem.W.keepIn K (.ref f) = true) : Fun K x qual st f (PySem.W.fnOf x qual (defArgs st) (defBody st) (defScope st) .none kV doc pm an cdv ct) := ⟨⟨oc, od, kV, doc, pm, an, cdv, ct, osl, rfl, l, c⟩, k⟩
end
section
variable {X : Cx}
theorem pv (i : Nat) {x : Str} {pos : Pos} (hN : X.N[i]? = some x := by rfl) (hv : Vis X.env.scope x := by first | exact Or.inl rfl | exact Or.inr (Or.inl rfl) | exact Or.inr (Or.inr rfl)) (hd : (x == ("__debug__" : Str)) = false := by decide)
    (hcd : (x == ("__classdict__" : Str)) = false := by decide) : PE X (.Name x pos) (tVar i) := pe_var hN hv hd hcd
end
theorem iteF {A B : Prop} (h : B) : if false = true then A else B := by
  rw [if_neg Bool.false_ne_true]
  exact h
theorem iteT {A B : Prop} (h : A) : if true = true then A else B := by
  rw [if_pos rfl]
  exact h
noncomputable def Same (H H' : Hp) : Prop := ∀ b o, H b = some o → H' b = some o
theorem Same.refl (H : Hp) : Same H H := fun _ _ h => h
theorem Same.trans {H H1 H2 : Hp} (a : Same H H1) (b : Same H1 H2) : Same H H2 := fun c o h => b c o (a c o h)
theorem Same.seq {K : PySem.W.Frag} {H H' : Hp} {a : Addr} {xs : List V} (e : Same H H') (h : SqL K H a xs) : SqL K H' a xs := by
  rcases h with (h | ⟨o, h⟩) | h
  · exact .inl (.inl (e _ _ h))
  · exact .inl (.inr ⟨o, e _ _ h⟩)
  · exact .inr h
end L2

set_option Elab.async false
set_option linter.all false
set_option maxRecDepth 100000
set_option maxHeartbeats 4000000
set_option compiler.extract_closed false
set_option genSizeOf true
set_option genInjectivity true
namespace DL
open PySem PySem.Spec PyProof.Rows L2
set_option autoImplicit false
noncomputable abbrev St := L2.St
noncomputable def exN (c : Nat) : Str := match c with
  | 0 => "NoHall"
  | 1 => "NoArrow"
  | 2 => "NoBox"
  | 3 => "NoPicture"
  | 4 => "NoReading"
  | 5 => "NoThing"
  | _ => "NoSending"
structure KeepBut (fs ch : List Addr) (h h' : Heap) : Prop where
  kp : ∀ b o, h.get? b = some o → b ∉ fs → b ∉ ch → h'.get? b = some o
  sl : ∀ b o, h.get? b = some o → b ∈ fs → b ∉ ch → ∃ sl, h'.get? b = some { o with slots := sl }
  th : ∀ b o, h.get? b = some o → ∃ o', h'.get? b = some o'
theorem dict_mapFields (f : Array Value → Array Value) (o : Obj) : (Obj.mapFields f o).dict = o.dict := by
  obtain ⟨c, d, dt, sl⟩ := o
  cases dt <;> rfl
structure ExcRec (h : Heap) (e : Addr) (cls : Value) (ch : List Addr) : Prop where
  mem : e ∈ ch
  at_ : ∃ oe vs, h.get? e = some oe ∧ oe.cls = cls ∧ oe.dict = none ∧ oe.data = .fields vs ∧ 1 < vs.size ∧ (vs[1]? = some .none ∨ ∃ T oT ts fl, vs[1]? = some (.ref T) ∧ T ≠ e ∧ T ∈ ch ∧ h.get? T = some oT ∧ oT.data = .fields ts ∧ ts[3]? = some fl)
  thr : ∀ b ∈ ch, ∃ o vs, h.get? b = some o ∧ o.data = .fields vs
noncomputable def ExcTb (h : Heap) (e : Addr) : Prop := ∃ oe vs T, h.get? e = some oe ∧ oe.data = .fields vs ∧ vs[1]? = some (.ref T)
section
variable {M : Model} {A : Around} {E : Value → Shared → Prop} {s : Shared}
theorem KeepBut.trans {fs ch : List Addr} {h1 h2 h3 : Heap} (a : KeepBut fs ch h1 h2) (b : KeepBut fs ch h2 h3) : KeepBut fs ch h1 h3 := by
  refine ⟨fun c o q nf nc => b.kp c o (a.kp c o q nf nc) nf nc, fun c o q nf nc => ?_, fun c o q => ?_⟩
  · obtain ⟨sl, q2⟩ := a.sl c o q nf nc
    obtain ⟨sl', q3⟩ := b.sl c _ q2 nf nc
    exact ⟨sl', q3⟩
  · obtain ⟨o', q2⟩ := a.th c o q
    exact b.th c o' q2
theorem flight_raw {fs : List Addr} {e : Addr} {cls : Value} {ch : List Addr} {fr : Option Addr} {Q : Unit → Shared → Prop} (x : ExcRec s.heap e cls ch) (k : ∀ h', KeepBut fs ch s.heap h' → ExcRec h' e cls ch → Q () { s with heap := h' }) : wpAny M A (setFlight (.ref e) fr) Q E s := by
  obtain ⟨hm, ⟨oe, vs, he, hc, hdc, hd, hsz, h1⟩, thr⟩ := id x
  unfold setFlight
  rcases h1 with h1 | ⟨T, oT, ts, fl, h1, nT, mT, hT, dT, h3⟩
  · refine wpAny_bind (wpAny_field he hd h1 ?_)
    rw [if_neg (by decide)]
    exact wpAny_pure (k s.heap ⟨fun b o q _ _ => q, fun b o q _ _ => ⟨o.slots, q⟩, fun b o q => ⟨o, q⟩⟩ x)
  · refine wpAny_bind (wpAny_field he hd h1 ?_)
    rw [if_pos (show (Value.ref T != Value.none) = true from by simp)]
    refine wpAny_setField hT dT (Array.getElem?_eq_some_iff.mp h3).1 (k _ ?_ ?_)
    · have no : ∀ b, b ∉ ch → T ≠ b := fun b nc z => nc (z ▸ mT)
      refine ⟨fun b o q _ nc => (Heap.get?_update_other _ _ (no b nc)).trans q, fun b o q _ nc => ⟨o.slots, (Heap.get?_update_other _ _ (no b nc)).trans q⟩, fun b o q => ?_⟩
      by_cases hb : b = T
      · subst hb
        exact ⟨_, Heap.get?_update_self _ hT (Obj.isFreed_of_fields (Obj.data_mapFields dT _))⟩
      · exact ⟨o, (Heap.get?_update_other _ _ (Ne.symm hb)).trans q⟩
    · have hT' := Heap.get?_update_self (Obj.mapFields (·.setIfInBounds 3 (fr.elim Value.none fun f => rawInt f))) hT (Obj.isFreed_of_fields (Obj.data_mapFields dT _))
      refine ⟨hm, ⟨oe, vs, (Heap.get?_update_other _ _ nT).trans he, hc, hdc, hd, hsz, .inr ⟨T, _, _, fr.elim Value.none fun f => rawInt f, h1, nT, mT, hT', Obj.data_mapFields dT _, ?_⟩⟩, fun b hb => ?_⟩
      · have := (Array.getElem?_eq_some_iff.mp h3).1
        simp [this]
      · by_cases hbT : b = T
        · subst hbT; exact ⟨_, _, hT', Obj.data_mapFields dT _⟩
        · obtain ⟨o, ws, q1, q2⟩ := thr b hb
          exact ⟨o, ws, (Heap.get?_update_other _ _ (Ne.symm hbT)).trans q1, q2⟩
theorem ent_raw {base : Heap} {env : Env} {outer : List Env} {L e : Addr} {oe : Obj} {vs : Array Value} {head : Value} {hadNext : Bool} {ch : List Addr} {Q : Unit → Shared → Prop}
    (hfr : A.frames = some (env :: outer)) (hl : s.heap.FunFrames base (env :: outer)) (hf : env.frame = some L) (hm : e ∈ ch) (he : s.heap.get? e = some oe) (hdc : oe.dict = none) (hd : oe.data = .fields vs) (hsz : 1 < vs.size) (thr : ∀ b ∈ ch, ∃ o ws, s.heap.get? b = some o ∧ o.data = .fields ws)
    (k : ∀ h' T, KeepBut (frs (env :: outer)) ch s.heap h' → s.heap.get? T = none → ExcRec h' e oe.cls (T :: ch) → ExcTb h' e → Q () { s with heap := h' }) :
    wpAny M A (do let a ← frameOf env; let pl ← entryPlaceOf L hadNext; let b ← EntryCells.newEntry head a .none (rawInt L) .none pl; setField (.ref e) 1 b) Q E s := by
  have nofr : ∀ b ∈ ch, b ∉ frs (env :: outer) := fun b hb hm => by
    obtain ⟨o, ws, q1, q2⟩ := thr b hb
    obtain ⟨_, o', q3, q4⟩ := hl.mem hm
    rw [q1] at q3; cases q3
    exact q4 _ q2
  refine wpAny_bind (wpAny_frameOf_fun hfr hl hf fun h1 hs => ?_)
  refine wpAny_bind (wpAny_entryPlaceOf fun pl hpl => ?_)
  unfold EntryCells.newEntry newFields
  refine wpAny_bind (wpAny_newObj_type ?_ (hpl.sizeOk5 _ _ _ _ _))
  have g1 : ∀ b o, b ∉ frs (env :: outer) → s.heap.get? b = some o → h1.get? b = some o := fun b o hb q => (hs.2.1 b hb).trans q
  have e1 := g1 e oe (nofr e hm) he
  generalize hot : ({ cls := .type "traceback", dict := none, data := .fields ([head, .ref L, .none, rawInt L, .none] ++ (if pl.isEmpty then List.replicate 6 Value.none else pl)).toArray } : Obj) = ot
  have e2 := Heap.get?_push_of_some ot e1
  refine wpAny_setField e2 hd hsz ?_
  have ne : h1.objs.size ≠ e := Nat.ne_of_gt (Heap.lt_size e1)
  have d3 := Obj.data_mapFields hd (·.setIfInBounds 1 (Value.ref h1.objs.size))
  have e3 := Heap.get?_update_self (Obj.mapFields (·.setIfInBounds 1 (Value.ref h1.objs.size))) e2 (Obj.isFreed_of_fields d3)
  have dt : ot.data = .fields ([head, .ref L, .none, rawInt L, .none] ++ (if pl.isEmpty then List.replicate 6 Value.none else pl)).toArray := by rw [← hot]
  have nft : ot.isFreed = false := Obj.isFreed_of_fields dt
  have t3 : ((h1.push ot).update e (Obj.mapFields (·.setIfInBounds 1 (Value.ref h1.objs.size)))).get? h1.objs.size = some ot := (Heap.get?_update_other _ _ ne.symm).trans (Heap.get?_push_size h1 nft)
  have at1 : (vs.setIfInBounds 1 (Value.ref h1.objs.size))[1]? = some (.ref h1.objs.size) := by simp [hsz]
  refine k _ h1.objs.size ?_ ?_ ?_ ⟨_, _, _, e3, d3, at1⟩
  · have stay : ∀ b o, b ≠ e → h1.get? b = some o → ((h1.push ot).update e (Obj.mapFields (·.setIfInBounds 1 (Value.ref h1.objs.size)))).get? b = some o := fun b o nb q => by
      rw [Heap.get?_update_other _ _ (Ne.symm nb)]
      exact Heap.get?_push_of_some _ q
    refine ⟨fun b o q nf nc => stay b o (fun z => nc (z ▸ hm)) (g1 b o nf q), fun b o q _ nc => ?_, fun b o q => ?_⟩
    · obtain ⟨sl, q2⟩ := hs.2.2 b o q
      exact ⟨sl, stay b _ (fun z => nc (z ▸ hm)) q2⟩
    · by_cases hb : b = e
      · subst hb
        exact ⟨_, e3⟩
      · obtain ⟨sl, q2⟩ := hs.2.2 b o q
        exact ⟨_, stay b _ hb q2⟩
  · cases q : s.heap.get? h1.objs.size with
    | none => rfl
    | some o =>
      obtain ⟨sl, q2⟩ := hs.2.2 _ o q
      exact absurd (Heap.lt_size q2) (Nat.lt_irrefl _)
  · refine ⟨List.mem_cons_of_mem _ hm, ⟨_, _, e3, Obj.cls_mapFields _ _, (dict_mapFields _ _).trans hdc, d3, by simpa using hsz, .inr ⟨h1.objs.size, _, _, rawInt L, at1, ne, List.mem_cons_self, t3, dt, ?_⟩⟩, fun b hb => ?_⟩
    · simp
    · rcases List.mem_cons.mp hb with z | hb
      · subst z; exact ⟨_, _, t3, dt⟩
      · by_cases hbe : b = e
        · subst hbe; exact ⟨_, _, e3, d3⟩
        · obtain ⟨o, ws, q1, q2⟩ := thr b hb
          have q3 := g1 b o (nofr b hb) q1
          refine ⟨o, ws, ?_, q2⟩
          rw [Heap.get?_update_other _ _ (Ne.symm hbe)]
          exact Heap.get?_push_of_some _ q3
theorem note_raw {base : Heap} {env : Env} {outer : List Env} {L e : Addr} {cls : Value} {ch : List Addr} {Q : Unit → Shared → Prop}
    (hfr : A.frames = some (env :: outer)) (hl : s.heap.FunFrames base (env :: outer)) (hf : env.frame = some L) (x : ExcRec s.heap e cls ch)
    (k : ∀ h' ch', KeepBut (frs (env :: outer)) ch s.heap h' → (∀ b ∈ ch', b ∈ ch ∨ s.heap.get? b = none) → ExcRec h' e cls ch' → ExcTb h' e → Q () { s with heap := h' }) :
    wpAny M A (noteFrame (.ref e) env) Q E s := by
  obtain ⟨hm, ⟨oe, vs, he, hc, hdc, hd, hsz, h1⟩, thr⟩ := id x
  subst hc
  have new : ∀ (T : Addr), s.heap.get? T = none → ∀ b ∈ T :: ch, b ∈ ch ∨ s.heap.get? b = none := fun T nT b hb => by
    rcases List.mem_cons.mp hb with rfl | hb
    · exact .inr nT
    · exact .inl hb
  unfold noteFrame
  simp only [hf]
  rcases h1 with h1 | ⟨T, oT, ts, fl, h1, nT, mT, hT, dT, h3⟩
  · refine wpAny_bind (wpAny_field he hd h1 ?_)
    rw [if_neg (by decide)]
    exact ent_raw hfr hl hf hm he hdc hd hsz thr fun h' T kb nT x' tb => k h' (T :: ch) kb (new T nT) x' tb
  · refine wpAny_bind (wpAny_field he hd h1 ?_)
    rw [if_pos (show (Value.ref T != Value.none) = true from by simp)]
    refine wpAny_bind (wpAny_field hT dT h3 ?_)
    by_cases hfl : (fl == rawInt L) = true
    · rw [if_pos hfl]
      exact wpAny_pure (k s.heap ch ⟨fun b o q _ _ => q, fun b o q _ _ => ⟨o.slots, q⟩, fun b o q => ⟨o, q⟩⟩ (fun b hb => .inl hb) x ⟨oe, vs, T, he, hd, h1⟩)
    · rw [if_neg hfl]
      refine wpAny_bind (wpAny_setField hT dT (Array.getElem?_eq_some_iff.mp h3).1 ?_)
      have oth : ∀ b, b ≠ T → (s.heap.update T (Obj.mapFields (·.setIfInBounds 3 Value.none))).get? b = s.heap.get? b := fun b hb => Heap.get?_update_other _ _ (Ne.symm hb)
      have dT' := Obj.data_mapFields dT (·.setIfInBounds 3 Value.none)
      have hT' := Heap.get?_update_self (Obj.mapFields (·.setIfInBounds 3 Value.none)) hT (Obj.isFreed_of_fields dT')
      have kb : KeepBut (frs (env :: outer)) ch s.heap (s.heap.update T (Obj.mapFields (·.setIfInBounds 3 Value.none))) := by
        refine ⟨fun b o q _ nc => (oth b fun z => nc (z ▸ mT)).trans q, fun b o q _ nc => ⟨o.slots, (oth b fun z => nc (z ▸ mT)).trans q⟩, fun b o q => ?_⟩
        by_cases hb : b = T
        · subst hb; exact ⟨_, hT'⟩
        · exact ⟨o, (oth b hb).trans q⟩
      refine ent_raw hfr (hl.of_keeps fun b o hb hnf => ⟨o, (oth b fun z => ?_).trans hb, rfl⟩) hf hm ((oth e (Ne.symm nT)).trans he) hdc hd hsz (fun b hb => ?_) fun h' T' kb' nT' x' tb => k h' (T' :: ch) (kb.trans kb') (new T' ?_) x' tb
      · subst z; rw [hT] at hb; cases hb; exact hnf _ dT
      · by_cases hbT : b = T
        · subst hbT; exact ⟨_, _, hT', dT'⟩
        · obtain ⟨o, ws, q1, q2⟩ := thr b hb
          exact ⟨o, ws, (oth b hbT).trans q1, q2⟩
      · cases q : s.heap.get? T' with
        | none => rfl
        | some o => obtain ⟨o', q2⟩ := kb.th _ o q; rw [nT'] at q2; cases q2
theorem KeepBut.wide {fs ch ch' : List Addr} {h h' g : Heap} (k : KeepBut fs ch' h' g) (hn : ∀ b ∈ ch', b ∈ ch ∨ h.get? b = none) (k0 : KeepBut fs ch h h') : KeepBut fs ch h g := by
  have nn : ∀ b o, h.get? b = some o → b ∉ ch → b ∉ ch' := fun b o q nc hb => by
    rcases hn b hb with z | z
    · exact nc z
    · rw [q] at z; cases z
  refine ⟨fun b o q nf nc => k.kp b o (k0.kp b o q nf nc) nf (nn b o q nc), fun b o q nf nc => ?_, fun b o q => ?_⟩
  · obtain ⟨sl, q2⟩ := k0.sl b o q nf nc
    obtain ⟨sl', q3⟩ := k.sl b _ q2 nf (nn b o q nc)
    exact ⟨sl', q3⟩
  · obtain ⟨o', q2⟩ := k0.th b o q
    exact k.th b o' q2
theorem leave_raw {base : Heap} {env : Env} {outer : List Env} {L e : Addr} {cls : Value} {ch : List Addr} {Q : Unit → Shared → Prop}
    (hfr : A.frames = some (env :: outer)) (hl : s.heap.FunFrames base (env :: outer)) (hf : env.frame = some L) (x : ExcRec s.heap e cls ch)
    (k : ∀ h' ch', KeepBut (frs (env :: outer)) ch s.heap h' → (∀ b ∈ ch', b ∈ ch ∨ s.heap.get? b = none) → ExcRec h' e cls ch' → Q () { s with heap := h' }) :
    wpAny M A (noteFrame (.ref e) env) (fun _ s' => wpAny M A (setFlight (.ref e) none) Q E s') E s :=
  note_raw hfr hl hf x fun h1 ch1 k1 n1 x1 _ => flight_raw (fs := frs (env :: outer)) x1 fun h2 k2 x2 => k h2 ch1 (k2.wide n1 k1) n1 x2
end
theorem _root_.L2.Inv.frn {X : Cx} {pins : List (Addr × Obj)} {σ : St} {H : Hp} {s : Shared} (I : Inv X pins σ H s) : ∀ b ∈ X.fs, H b = none := fun b hb => by
  obtain ⟨_, o, ho, _⟩ := I.ok.funs.mem hb
  exact I.base.free b o ho (I.ok.frf b hb) fun z => I.ok.exfs b z hb
noncomputable def FxOk (X : Cx) (pins : List (Addr × Obj)) (H : Hp) (b : Addr) : Prop :=
  H b = none ∧ X.s₀.heap.get? b = none ∧ b ≠ X.env.locals ∧ b ∉ frs X.stack ∧ (∀ x c, X.env.cells.lookup x = some c → c ≠ b) ∧ ∀ p ∈ X.pn ++ pins, p.1 ≠ b
section
variable {X : Cx} {pins : List (Addr × Obj)} {σ : St} {H : Hp} {s : Shared} {h' : Heap} {ch : List Addr}
theorem hok_there {P : Program} {w : World} {H : Hp} {h : Heap} (x : HOk P w H h) {a : Addr} {o : HO} (e : H a = some o) : ∃ u, h.get? a = some u := by
  have q := x a o e
  clear e
  induction o with
  | lst xs => obtain ⟨_, its, n, _, e1⟩ := q; exact ⟨_, e1⟩
  | tup xs => obtain ⟨_, its, _, o, e1, _⟩ := q; exact ⟨_, e1⟩
  | dK kvs => obtain ⟨_, _, vs, _, o, es, ep, e1, _⟩ := q; exact ⟨_, e1⟩
  | dT kvs => obtain ⟨_, _, xs, _, o, es, ep, e1, _⟩ := q; exact ⟨_, e1⟩
  | set S n => obtain ⟨o, es, ep, et, e1, _⟩ := q; exact ⟨_, e1⟩
  | ins C dx fs => obtain ⟨_, _, _, e1, _⟩ := q; exact ⟨_, e1⟩
  | own y => exact q
  | xd fs => obtain ⟨mA, ⟨o, es, ep, e1, _⟩, _⟩ := q; exact ⟨_, e1⟩
  | rng lo hi => obtain ⟨t, u, v, e1⟩ := q; exact ⟨_, e1⟩
  | frz ob u _ => exact ⟨_, q.1⟩
  | tbl ps => exact ⟨_, q⟩
  | met f y => exact ⟨_, q⟩
  | ext φ => exact q.2.1
theorem Inv.callX (I : Inv X pins σ H s) (k : KeepBut (frs X.stack) ch s.heap h') (hch : ∀ b ∈ ch, FxOk X pins H b) : Inv X pins σ H { s with heap := h' } := by
  have neL : ∀ b o, X.s₀.heap.get? b = some o → b ≠ X.env.locals := fun b o e => Nat.ne_of_lt (Nat.lt_of_lt_of_le (Heap.lt_size e) I.ok.above)
  have nch : ∀ b o, X.s₀.heap.get? b = some o → b ∉ ch := fun b o e hb => by rw [(hch b hb).2.1] at e; cases e
  have any : ∀ b o, s.heap.get? b = some o → b ∉ ch → ∃ sl, h'.get? b = some { o with slots := sl } := fun b o q n => by
    by_cases hb : b ∈ frs X.stack
    · exact k.sl b o q hb n
    · exact ⟨o.slots, k.kp b o q hb n⟩
  have kept : ∀ b o, s.heap.get? b = some o → b ≠ X.env.locals → b ∉ X.fs → b ∉ ch → h'.get? b = some o := fun b o q n1 n2 n3 => k.kp b o q (fun z => (List.mem_cons.mp (I.stkSub b z)).elim n1 n2) n3
  have nol : X.env.locals ∉ ch := fun z => (hch _ z).2.2.1 rfl
  have cel : ∀ x c, X.env.cells.lookup x = some c → ∀ v, s.heap.IsCell c v → h'.IsCell c v := fun x c e v zz1 => by
    obtain ⟨o, ho, hd⟩ := zz1
    obtain ⟨sl, q⟩ := any c o ho fun z => (hch c z).2.2.2.2.1 x c e rfl
    exact ⟨_, q, hd⟩
  have trk : ∀ a o u, H a = some o → s.heap.get? a = some u → h'.get? a = some u := fun a o u e q => by
    refine k.kp a u q (fun z => ?_) fun z => by rw [(hch a z).1] at e; cases e
    rcases List.mem_cons.mp (I.stkSub a z) with z | z
    · rw [z, I.free] at e; cases e
    · rw [I.frn a z] at e; cases e
  refine ⟨I.ok, I.os, I.bare, ⟨fun b o e n hb hx => ?_, fun b o e n hb hx => ?_, I.base.free, fun b o e hx => ?_, I.base.tups, I.base.frzs, I.base.tbls⟩, ?_, fun x c e => ?_, I.free, I.freeC, fun p hp => ?_, fun a o e => ?_, I.len⟩
  · exact kept b o (I.base.keep b o e n hb hx) (neL b o e) hb (nch b o e)
  · obtain ⟨sl, q⟩ := I.base.slot b o e n hb hx
    obtain ⟨sl', q'⟩ := any b _ q (nch b o e)
    exact ⟨sl', q'⟩
  · obtain ⟨o', q⟩ := I.base.there b o e hx
    exact k.th b o' q
  · obtain ⟨m, ⟨o, es, ep, ho, hd, r⟩, hl⟩ := I.loc
    obtain ⟨sl, q⟩ := any _ o ho nol
    refine ⟨m, ⟨_, es, ep, q, hd, r⟩, fun i x v h1 h2 h3 => ?_⟩
    obtain ⟨u, ru, lk⟩ := hl i x v h1 h2 h3
    refine ⟨u, ru, ?_⟩
    rcases lk with lk | ⟨kk, c, hc, ic⟩
    · exact .inl lk
    · exact .inr ⟨kk, c, hc, cel x c hc _ ic⟩
  · obtain ⟨v, q⟩ := I.cell x c e
    exact ⟨v, cel x c e v q⟩
  · obtain ⟨q1, q2, q3, q4, q5⟩ := I.pin p hp
    exact ⟨kept _ _ q1 q3 q4 fun z => (hch _ z).2.2.2.2.2 p hp rfl, q2, q3, q4, q5⟩
  · refine (I.hok a o e).stay (fun b u hb q => ?_) (fun b q => q) fun b xs q => q
    rcases hb with rfl | hb
    · exact trk _ _ _ e q
    · exact trk _ _ _ hb q
end
end DL

set_option Elab.async false
set_option linter.all false
set_option maxRecDepth 100000
set_option maxHeartbeats 1000000
namespace DL
open PySem PySem.Spec PyProof.Rows L2
set_option autoImplicit false
inductive D where
  | non | bl (b : Bool) | int (i : Int) | lst (xs : List D) | tup (xs : List D) | ob (e r t : D) | scr (ns : List Int) | exn (c : Nat)
noncomputable abbrev KA := Int × Int × List Int
inductive Slt where
  | shr (d : D) | own (xs : List D) | dic (kvs : List (KA × D))
noncomputable abbrev Rho := List (Option Slt)
inductive R (α : Type) where
  | val (a : α) | exc (c : Nat) | bad
noncomputable def R.bind {α β : Type} : R α → (α → R β) → R β
  | .val a, f => f a
  | .exc c, _ => .exc c
  | .bad, _ => .bad
inductive Out where
  | nx (ρ : Rho) | rt (d : D) | bk (ρ : Rho) | ct (ρ : Rho)
noncomputable def exP (K : PySem.W.Frag) (c : Nat) (a : Addr) : Heap → Prop := fun h => ∃ ox Cc, h.get? a = some ox ∧ ox.cls = .ref Cc ∧ ox.dict = none ∧ (∃ vs, ox.data = .fields vs) ∧ PySem.W.nsIn K mainGlobals (exN c) = some (some (.ref Cc))
noncomputable def flds (e r t : V) : List (Str × V) := [("ends", e), ("rests", r), ("table", t)]
mutual
inductive Has (K : PySem.W.Frag) (C : Addr) (H : Hp) : V → D → Prop where
  | non : Has K C H .non .non
  | bl (b : Bool) : Has K C H (.bl b) (.bl b)
  | int (i : Int) : Has K C H (.int i) (.int i)
  | lst {a : Addr} {vs : List V} {xs : List D} : H a = some (.lst vs) → HasL K C H vs xs → Has K C H (.ref a) (.lst xs)
  | tup {a : Addr} {vs : List V} {xs : List D} : H a = some (.tup vs) → HasL K C H vs xs → Has K C H (.ref a) (.tup xs)
  | scr {a : Addr} {ns : List Int} : SqL K H a (ns.map V.int) → Has K C H (.ref a) (.scr ns)
  | exn {a : Addr} {c : Nat} : H a = some (.ext (exP K c a)) → Has K C H (.ref a) (.exn c)
  | ob {a dx : Addr} {ve vr vt : V} {e r t : D} : H a = some (.ins C dx (flds ve vr vt)) → Has K C H ve e → Has K C H vr r → Has K C H vt t → Has K C H (.ref a) (.ob e r t)
inductive HasL (K : PySem.W.Frag) (C : Addr) (H : Hp) : List V → List D → Prop where
  | nil : HasL K C H [] []
  | cons {v : V} {d : D} {vs : List V} {ds : List D} : Has K C H v d → HasL K C H vs ds → HasL K C H (v :: vs) (d :: ds)
end
section
variable {K : PySem.W.Frag} {C : Addr} {H H' : Hp}
mutual
theorem Has.mono (s : Same H H') : ∀ {v : V} {d : D}, Has K C H v d → Has K C H' v d
  | _, _, .non => .non
  | _, _, .bl b => .bl b
  | _, _, .int i => .int i
  | _, _, .lst q h => .lst (s _ _ q) (HasL.mono s h)
  | _, _, .tup q h => .tup (s _ _ q) (HasL.mono s h)
  | _, _, .scr q => .scr (s.seq q)
  | _, _, .exn q => .exn (s _ _ q)
  | _, _, .ob q a b c => .ob (s _ _ q) (Has.mono s a) (Has.mono s b) (Has.mono s c)
theorem HasL.mono (s : Same H H') : ∀ {vs : List V} {ds : List D}, HasL K C H vs ds → HasL K C H' vs ds
  | _, _, .nil => .nil
  | _, _, .cons a b => .cons (Has.mono s a) (HasL.mono s b)
end
theorem HasL.len : ∀ {vs : List V} {ds : List D}, HasL K C H vs ds → vs.length = ds.length
  | _, _, .nil => rfl
  | _, _, .cons _ b => by simp [HasL.len b]
theorem HasL.app : ∀ {vs : List V} {ds : List D} {ws : List V} {es : List D}, HasL K C H vs ds → HasL K C H ws es → HasL K C H (vs ++ ws) (ds ++ es)
  | _, _, _, _, .nil, h => h
  | _, _, _, _, .cons a b, h => .cons a (HasL.app b h)
theorem HasL.get : ∀ {vs : List V} {ds : List D} {i : Nat} {d : D}, HasL K C H vs ds → ds[i]? = some d → ∃ v, vs[i]? = some v ∧ Has K C H v d
  | _, _, _, _, .nil, e => by simp at e
  | _, _, 0, _, .cons a _, e => by simp at e; subst e; exact ⟨_, rfl, a⟩
  | _, _, i + 1, d, .cons _ b, e => by
    obtain ⟨v, h1, h2⟩ := HasL.get (i := i) (d := d) b (by simpa using e)
    exact ⟨v, by simpa using h1, h2⟩
theorem HasL.get' : ∀ {vs : List V} {ds : List D} {i : Nat} {v : V}, HasL K C H vs ds → vs[i]? = some v → ∃ d, ds[i]? = some d ∧ Has K C H v d
  | _, _, _, _, .nil, e => by simp at e
  | _, _, 0, _, .cons a _, e => by simp at e; subst e; exact ⟨_, rfl, a⟩
  | _, _, i + 1, v, .cons _ b, e => by
    obtain ⟨d, h1, h2⟩ := HasL.get' (i := i) (v := v) b (by simpa using e)
    exact ⟨d, by simpa using h1, h2⟩
theorem HasL.drop : ∀ {vs : List V} {ds : List D} (n : Nat), HasL K C H vs ds → HasL K C H (vs.drop n) (ds.drop n)
  | _, _, 0, h => h
  | _, _, _ + 1, .nil => .nil
  | _, _, n + 1, .cons _ b => HasL.drop n b
theorem HasL.take : ∀ {vs : List V} {ds : List D} (n : Nat), HasL K C H vs ds → HasL K C H (vs.take n) (ds.take n)
  | _, _, 0, _ => .nil
  | _, _, _ + 1, .nil => .nil
  | _, _, n + 1, .cons a b => .cons a (HasL.take n b)
theorem HasL.ints : ∀ ns : List Int, HasL K C H (ns.map V.int) (ns.map D.int)
  | [] => .nil
  | n :: ns => .cons (.int n) (HasL.ints ns)
end
noncomputable def isOwn : Slt → Bool
  | .shr _ => false
  | _ => true
noncomputable def Own (ρ : Rho) (σ : St) (b : Addr) : Prop := ∃ (i : Nat) (sl : Slt), ρ[i]? = some (some sl) ∧ isOwn sl = true ∧ σ[i]? = some (some (.ref b))
open Classical in
noncomputable def msk (ρ : Rho) (σ : St) (H : Hp) : Hp := fun b => if Own ρ σ b then none else H b
section
variable {ρ : Rho} {σ : St} {H H' : Hp} {b : Addr} {o : HO}
theorem msk_some : msk ρ σ H b = some o ↔ ¬ Own ρ σ b ∧ H b = some o := by
  unfold msk
  by_cases h : Own ρ σ b
  · rw [if_pos h]; exact ⟨fun e => (by cases e), fun e => absurd h e.1⟩
  · rw [if_neg h]; exact ⟨fun e => ⟨h, e⟩, fun e => e.2⟩
theorem msk_sub : Same (msk ρ σ H) H := fun b o e => (msk_some.mp e).2
theorem msk_mono (s : Same H H') : Same (msk ρ σ H) (msk ρ σ H') := fun b o e => msk_some.mpr ⟨(msk_some.mp e).1, s _ _ (msk_some.mp e).2⟩
end
noncomputable def hashArr (k : KA) : Int := reduceHash (Builtin.Tuple.tupleHashOf [hashInt k.1, hashInt k.2.1, reduceHash (Builtin.Tuple.tupleHashOf (k.2.2.map hashInt))])
noncomputable def entA (x : KA × Addr × Value) : DictEntry := ⟨hashArr x.1, .ref x.2.1, x.2.2⟩
noncomputable def dOk (a : Addr) (xs : List (KA × Addr × Value)) (h : Heap) : Prop := (a == sysModules) = false ∧ xs.length ≤ 100001 ∧ ∃ o es ep, h.get? a = some o ∧ o.ExactDict ∧ o.data = .dict es ep ∧ es.toList = xs.map entA
noncomputable def dObj (a : Addr) (xs : List (KA × Addr × Value)) : HO := .ext (dOk a xs)
noncomputable def KeyIn (M : Hp) (k : KA) (a : Addr) : Prop := ∃ ta, M a = some (.tup [.int k.1, .int k.2.1, .ref ta]) ∧ M ta = some (.tup (k.2.2.map V.int))
noncomputable def EntOk (K : PySem.W.Frag) (C : Addr) (M : Hp) (p : KA × D) (q : KA × Addr × Value) : Prop := p.1 = q.1 ∧ KeyIn M p.1 q.2.1 ∧ ∃ v, RelV v q.2.2 ∧ Has K C M v p.2
structure DicAt (K : PySem.W.Frag) (C : Addr) (M H : Hp) (a : Addr) (kvs : List (KA × D)) : Prop where
  ex : ∃ xs, H a = some (dObj a xs) ∧ (xs.map (·.1)).Nodup ∧ Paired (EntOk K C M) kvs xs
theorem KeyIn.mono {M M' : Hp} {k : KA} {a : Addr} (m : Same M M') (h : KeyIn M k a) : KeyIn M' k a := by
  obtain ⟨ta, h1, h2⟩ := h
  exact ⟨ta, m _ _ h1, m _ _ h2⟩
theorem EntOk.mono {K : PySem.W.Frag} {C : Addr} {M M' : Hp} {p : KA × D} {q : KA × Addr × Value} (m : Same M M') (h : EntOk K C M p q) : EntOk K C M' p q := by
  obtain ⟨h1, h2, v, h3, h4⟩ := h
  exact ⟨h1, h2.mono m, v, h3, h4.mono m⟩
theorem DicAt.mono {K : PySem.W.Frag} {C : Addr} {M M' H H' : Hp} {a : Addr} {kvs : List (KA × D)} (e : ∀ o, H a = some o → H' a = some o) (m : Same M M') (h : DicAt K C M H a kvs) : DicAt K C M' H' a kvs := by
  obtain ⟨xs, h1, h2, h3⟩ := h.ex
  exact ⟨xs, e _ h1, h2, Paired.mapP h3 fun p q z => z.mono m⟩
noncomputable def SlotOk (K : PySem.W.Frag) (C : Addr) (M H : Hp) : Slt → Option (Option V) → Prop
  | .shr d, o => ∃ v, o = some (some v) ∧ Has K C M v d
  | .own xs, o => ∃ a vs, o = some (some (.ref a)) ∧ H a = some (.lst vs) ∧ HasL K C M vs xs
  | .dic kvs, o => ∃ a, o = some (some (.ref a)) ∧ DicAt K C M H a kvs
structure Rel (K : PySem.W.Frag) (C : Addr) (H0 : Hp) (ρ : Rho) (σ : St) (H : Hp) : Prop where
  len : ρ.length = σ.length
  keep : Same H0 (msk ρ σ H)
  at_ : ∀ (i : Nat) sl, ρ[i]? = some (some sl) → SlotOk K C (msk ρ σ H) H sl σ[i]?
  inj : ∀ (i j : Nat) sl sl' a, ρ[i]? = some (some sl) → isOwn sl = true → ρ[j]? = some (some sl') → isOwn sl' = true → σ[i]? = some (some (.ref a)) → σ[j]? = some (some (.ref a)) → i = j
section
variable {K : PySem.W.Frag} {C : Addr} {H0 H H' M M' : Hp} {ρ : Rho} {σ : St}
theorem SlotOk.mono {sl : Slt} {o : Option (Option V)} (s : Same H H') (m : Same M M') (h : SlotOk K C M H sl o) : SlotOk K C M' H' sl o := by
  cases sl with
  | shr d => obtain ⟨v, e, h⟩ := h; exact ⟨v, e, h.mono m⟩
  | own xs => obtain ⟨a, vs, e, q, h⟩ := h; exact ⟨a, vs, e, s _ _ q, h.mono m⟩
  | dic kvs => obtain ⟨a, e, h⟩ := h; exact ⟨a, e, h.mono (fun o q => s _ _ q) m⟩
theorem Rel.mono (r : Rel K C H0 ρ σ H) (s : Same H H') : Rel K C H0 ρ σ H' :=
  ⟨r.len, r.keep.trans (msk_mono s), fun i sl e => (r.at_ i sl e).mono s (msk_mono s), r.inj⟩
theorem Rel.rebase (r : Rel K C H0 ρ σ H) : Rel K C (msk ρ σ H) ρ σ H := ⟨r.len, Same.refl _, r.at_, r.inj⟩
theorem Rel.base {H1 : Hp} (r : Rel K C H0 ρ σ H) (s : Same H1 H0) : Rel K C H1 ρ σ H := ⟨r.len, s.trans r.keep, r.at_, r.inj⟩
theorem Rel.ownAt (r : Rel K C H0 ρ σ H) {b : Addr} (h : Own ρ σ b) : H b ≠ none := by
  obtain ⟨i, sl, e, o, q⟩ := h
  have z := r.at_ i sl e
  cases sl with
  | shr d => cases o
  | own xs => obtain ⟨a, vs, e', h1, _⟩ := z; rw [q] at e'; cases e'; rw [h1]; simp
  | dic kvs => obtain ⟨a, e', ⟨xs, h1, _⟩⟩ := z; rw [q] at e'; cases e'; rw [h1]; simp
theorem Rel.new (r : Rel K C H0 ρ σ H) {p : Addr} {o : HO} (h : H p = none) : msk ρ σ (upd H p o) p = some o :=
  msk_some.mpr ⟨fun z => r.ownAt z h, upd_same⟩
theorem same_upd {p : Addr} {o : HO} (h : H p = none) : Same H (upd H p o) := fun b u e => by
  rw [upd_ne (ne_of_none e h)]; exact e
theorem Own.set {i : Nat} {v : V} {sl : Slt} {b : Addr} (h : Own (ρ.set i (some sl)) (σ.set i (some v)) b) : Own ρ σ b ∨ (isOwn sl = true ∧ v = .ref b) := by
  obtain ⟨j, sl', e, o, q⟩ := h
  by_cases hj : i = j
  · subst hj
    rw [List.getElem?_set] at e q
    simp only [if_true] at e q
    split at e
    · cases e
      split at q
      · cases q; exact .inr ⟨o, rfl⟩
      · cases q
    · cases e
  · rw [List.getElem?_set_ne hj] at e q
    exact .inl ⟨j, sl', e, o, q⟩
theorem Rel.setShr (r : Rel K C H0 ρ σ H) {i : Nat} {v : V} {d : D} (h : Has K C (msk ρ σ H) v d) : Rel K C H0 (ρ.set i (some (.shr d))) (σ.set i (some v)) H := by
  have sub : Same (msk ρ σ H) (msk (ρ.set i (some (.shr d))) (σ.set i (some v)) H) := fun b o e => by
    obtain ⟨h1, h2⟩ := msk_some.mp e
    refine msk_some.mpr ⟨fun z => ?_, h2⟩
    rcases Own.set z with z | ⟨z, _⟩
    · exact h1 z
    · cases z
  have ne : ∀ (j : Nat) sl, (ρ.set i (some (.shr d)))[j]? = some (some sl) → isOwn sl = true → i ≠ j := fun j sl e o hj => by
    subst hj
    rw [List.getElem?_set] at e
    simp only [if_true] at e
    split at e
    · cases e; cases o
    · cases e
  refine ⟨by simp [r.len], r.keep.trans sub, fun j sl e => ?_, fun j k sl sl' a e o e' o' q q' => ?_⟩
  · by_cases hj : i = j
    · subst hj
      rw [List.getElem?_set] at e ⊢
      simp only [if_true] at e ⊢
      split at e
      · rename_i hl
        cases e
        rw [if_pos (by rw [← r.len]; exact hl)]
        exact ⟨v, rfl, h.mono sub⟩
      · cases e
    · rw [List.getElem?_set_ne hj] at e ⊢
      exact (r.at_ j sl e).mono (Same.refl _) sub
  · have nj := ne j sl e o
    have nk := ne k sl' e' o'
    rw [List.getElem?_set_ne nj] at e q
    rw [List.getElem?_set_ne nk] at e' q'
    exact r.inj j k sl sl' a e o e' o' q q'
theorem Rel.setOwn (r : Rel K C H0 ρ σ H) {i : Nat} {a : Addr} {vs : List V} {xs : List D} (hn : H a = none) (h : HasL K C (msk ρ σ H) vs xs) : Rel K C H0 (ρ.set i (some (.own xs))) (σ.set i (some (.ref a))) (upd H a (.lst vs)) := by
  have sub : Same (msk ρ σ H) (msk (ρ.set i (some (.own xs))) (σ.set i (some (.ref a))) (upd H a (.lst vs))) := fun b o e => by
    obtain ⟨h1, h2⟩ := msk_some.mp e
    have hb : b ≠ a := ne_of_none h2 hn
    refine msk_some.mpr ⟨fun z => ?_, by rw [upd_ne hb]; exact h2⟩
    rcases Own.set z with z | ⟨_, z⟩
    · exact h1 z
    · cases z; exact hb rfl
  have keepH : ∀ b o, H b = some o → upd H a (.lst vs) b = some o := same_upd hn
  have low : ∀ (j : Nat) sl, ρ[j]? = some (some sl) → isOwn sl = true → σ[j]? = some (some (.ref a)) → False := fun j sl e o q => r.ownAt ⟨j, sl, e, o, q⟩ hn
  refine ⟨by simp [r.len], r.keep.trans sub, fun j sl e => ?_, fun j k sl sl' c e o e' o' q q' => ?_⟩
  · by_cases hj : i = j
    · subst hj
      rw [List.getElem?_set] at e ⊢
      simp only [if_true] at e ⊢
      split at e
      · rename_i hl
        cases e
        rw [if_pos (by rw [← r.len]; exact hl)]
        exact ⟨a, vs, rfl, upd_same, h.mono sub⟩
      · cases e
    · rw [List.getElem?_set_ne hj] at e ⊢
      exact (r.at_ j sl e).mono keepH sub
  · by_cases hj : i = j
    · by_cases hk : i = k
      · exact hj.symm.trans hk
      · subst hj
        rw [List.getElem?_set_ne hk] at e' q'
        rw [List.getElem?_set] at q
        simp only [if_true] at q
        split at q
        · cases q; exact (low k sl' e' o' q').elim
        · cases q
    · rw [List.getElem?_set_ne hj] at e q
      by_cases hk : i = k
      · subst hk
        rw [List.getElem?_set] at q'
        simp only [if_true] at q'
        split at q'
        · cases q'; exact (low j sl e o q).elim
        · cases q'
      · rw [List.getElem?_set_ne hk] at e' q'
        exact r.inj j k sl sl' c e o e' o' q q'
theorem Rel.write (r : Rel K C H0 ρ σ H) {i : Nat} {a : Addr} {xs ys : List D} {ws : List V} (e : ρ[i]? = some (some (.own xs))) (q : σ[i]? = some (some (.ref a))) (h : HasL K C (msk ρ σ H) ws ys) :
    Rel K C H0 (ρ.set i (some (.own ys))) σ (upd H a (.lst ws)) := by
  have hl : i < ρ.length := (List.getElem?_eq_some_iff.mp e).1
  have ow : Own ρ σ a := ⟨i, _, e, rfl, q⟩
  have oi : ∀ b, Own (ρ.set i (some (.own ys))) σ b → Own ρ σ b := fun b zz0 => by
    obtain ⟨j, sl, e', o, q'⟩ := zz0
    by_cases hj : i = j
    · subst hj; rw [q] at q'; cases q'; exact ow
    · rw [List.getElem?_set_ne hj] at e'; exact ⟨j, sl, e', o, q'⟩
  have sub : Same (msk ρ σ H) (msk (ρ.set i (some (.own ys))) σ (upd H a (.lst ws))) := fun b o z => by
    obtain ⟨h1, h2⟩ := msk_some.mp z
    have hb : b ≠ a := fun z => h1 (z ▸ ow)
    exact msk_some.mpr ⟨fun z => h1 (oi b z), by rw [upd_ne hb]; exact h2⟩
  have own' : ∀ (j : Nat) sl, i ≠ j → (ρ.set i (some (.own ys)))[j]? = some (some sl) → ρ[j]? = some (some sl) := fun j sl hj e' => by rw [List.getElem?_set_ne hj] at e'; exact e'
  refine ⟨by simp [r.len], r.keep.trans sub, fun j sl e' => ?_, fun j k sl sl' c e1 o1 e2 o2 q1 q2 => ?_⟩
  · by_cases hj : i = j
    · subst hj
      rw [List.getElem?_set] at e'
      simp only [if_true, hl] at e'
      cases e'
      exact ⟨a, ws, q, upd_same, h.mono sub⟩
    · have e2 := own' j sl hj e'
      have z := r.at_ j sl e2
      cases sl with
      | shr d => obtain ⟨v, e3, h3⟩ := z; exact ⟨v, e3, h3.mono sub⟩
      | own zs =>
        obtain ⟨b, vs, e3, h3, h4⟩ := z
        have hb : b ≠ a := fun z => by subst z; exact hj (r.inj i j _ _ b e rfl e2 rfl q e3)
        exact ⟨b, vs, e3, by rw [upd_ne hb]; exact h3, h4.mono sub⟩
      | dic kvs =>
        obtain ⟨b, e3, h4⟩ := z
        have hb : b ≠ a := fun z => by subst z; exact hj (r.inj i j _ _ b e rfl e2 rfl q e3)
        exact ⟨b, e3, h4.mono (fun o q => by rw [upd_ne hb]; exact q) sub⟩
  · have bk : ∀ (j : Nat) sl, (ρ.set i (some (.own ys)))[j]? = some (some sl) → isOwn sl = true → ∃ sl2, ρ[j]? = some (some sl2) ∧ isOwn sl2 = true := fun j sl e' o => by
      by_cases hj : i = j
      · subst hj; exact ⟨_, e, rfl⟩
      · exact ⟨sl, own' j sl hj e', o⟩
    obtain ⟨s1, a1, b1⟩ := bk j sl e1 o1
    obtain ⟨s2, a2, b2⟩ := bk k sl' e2 o2
    exact r.inj j k s1 s2 c a1 b1 a2 b2 q1 q2
theorem Rel.freeze (r : Rel K C H0 ρ σ H) {i : Nat} {xs : List D} (e : ρ[i]? = some (some (.own xs))) : Rel K C H0 (ρ.set i (some (.shr (.lst xs)))) σ H := by
  have hl : i < ρ.length := (List.getElem?_eq_some_iff.mp e).1
  obtain ⟨a, vs, q, h1, h2⟩ := r.at_ i _ e
  have ne : ∀ (j : Nat) sl, (ρ.set i (some (.shr (.lst xs))))[j]? = some (some sl) → isOwn sl = true → i ≠ j := fun j sl e o hj => by
    subst hj
    rw [List.getElem?_set] at e
    simp only [if_true, hl] at e
    cases e; cases o
  have oi : ∀ b, Own (ρ.set i (some (.shr (.lst xs)))) σ b → Own ρ σ b ∧ b ≠ a := fun b zz1 => by
    obtain ⟨j, sl, e', o, q'⟩ := zz1
    have hj := ne j sl e' o
    rw [List.getElem?_set_ne hj] at e'
    exact ⟨⟨j, sl, e', o, q'⟩, fun z => by subst z; exact hj (r.inj i j _ _ b e rfl e' o q q')⟩
  have sub : Same (msk ρ σ H) (msk (ρ.set i (some (.shr (.lst xs)))) σ H) := fun b o z => by
    obtain ⟨h1, h2⟩ := msk_some.mp z
    exact msk_some.mpr ⟨fun z => h1 (oi b z).1, h2⟩
  refine ⟨by simp [r.len], r.keep.trans sub, fun j sl e' => ?_, fun j k sl sl' c e1 o1 e2 o2 q1 q2 => ?_⟩
  · by_cases hj : i = j
    · subst hj
      rw [List.getElem?_set] at e'
      simp only [if_true, hl] at e'
      cases e'
      exact ⟨.ref a, q, .lst (msk_some.mpr ⟨fun z => (oi a z).2 rfl, h1⟩) (h2.mono sub)⟩
    · rw [List.getElem?_set_ne hj] at e'
      exact (r.at_ j sl e').mono (Same.refl _) sub
  · have nj := ne j sl e1 o1
    have nk := ne k sl' e2 o2
    rw [List.getElem?_set_ne nj] at e1
    rw [List.getElem?_set_ne nk] at e2
    exact r.inj j k sl sl' c e1 o1 e2 o2 q1 q2
end
end DL

set_option Elab.async false
set_option linter.all false
set_option maxRecDepth 100000
set_option maxHeartbeats 1000000
namespace DL
open PySem PySem.Spec PyProof.Rows L2
set_option autoImplicit false
noncomputable def Fly (X : Cx) (pins : List (Addr × Obj)) (c : Nat) (H : Hp) (e : Value) (s : Shared) : Prop := ∃ ea Cc ch, e = .ref ea ∧ X.mg (exN c) = some (.ref Cc) ∧ ExcRec s.heap ea (.ref Cc) ch ∧ ∀ b ∈ ch, FxOk X pins H b
noncomputable def XE (X : Cx) (c : Nat) (σ : St) (H : Hp) : Prop := ∀ pins H' e s', Inv X pins σ H' s' → Same H H' → Fly X pins c H' e s' → X.xe e s'
noncomputable def XS (X : Cx) (c : Nat) (H0 : Hp) : Prop := ∀ pins σ' H' e s', Inv X pins σ' H' s' → Same H0 H' → Fly X pins c H' e s' → X.xe e s'
theorem XE.mono {X : Cx} {c : Nat} {σ : St} {H H' : Hp} (s : Same H H') (h : XE X c σ H) : XE X c σ H' := fun pins H2 e s' I s2 f => h pins H2 e s' I (s.trans s2) f
theorem XS.mono {X : Cx} {c : Nat} {H H' : Hp} (s : Same H H') (h : XS X c H) : XS X c H' := fun pins σ H2 e s' I s2 f => h pins σ H2 e s' I (s.trans s2) f
theorem XS.xe {X : Cx} {c : Nat} {σ : St} {H H' : Hp} (s : Same H H') (h : XS X c H) : XE X c σ H' := fun pins H2 e s' I s2 f => h pins σ H2 e s' I (s.trans s2) f
inductive Brw (K : PySem.W.Frag) (C : Addr) (M H : Hp) : V → D → Prop where
  | cl {v : V} {d : D} : Has K C M v d → Brw K C M H v d
  | own {a : Addr} {vs : List V} {xs : List D} : H a = some (.lst vs) → HasL K C M vs xs → Brw K C M H (.ref a) (.lst xs)
theorem Brw.mono {K : PySem.W.Frag} {C : Addr} {M M' H H' : Hp} {v : V} {d : D} (m : Same M M') (s : Same H H') (h : Brw K C M H v d) : Brw K C M' H' v d := by
  cases h with
  | cl h => exact .cl (h.mono m)
  | own e h => exact .own (s _ _ e) (h.mono m)
section
variable (C : Addr) (X : Cx)
noncomputable abbrev RelX (H0 : Hp) (ρ : Rho) (σ : St) (H : Hp) : Prop := Rel X.K C H0 ρ σ H
noncomputable abbrev HasX (ρ : Rho) (σ : St) (H : Hp) (v : V) (d : D) : Prop := Has X.K C (msk ρ σ H) v d
noncomputable abbrev HasLX (ρ : Rho) (σ : St) (H : Hp) (v : List V) (d : List D) : Prop := HasL X.K C (msk ρ σ H) v d
noncomputable abbrev BrwX (ρ : Rho) (σ : St) (H : Hp) (v : V) (d : D) : Prop := Brw X.K C (msk ρ σ H) H v d
noncomputable def pV (Rl : Hp → V → D → Prop) (r : R D) (σ : St) (H : Hp) (Q : VK) : Prop := match r with
  | .val d => ∀ v H', Same H H' → Rl H' v d → Q v H'
  | .exc c => XE X c σ H
  | .bad => False
noncomputable def pB (r : R Bool) (σ : St) (H : Hp) (Q : Bool → Hp → Prop) : Prop := match r with
  | .val b => ∀ H', Same H H' → Q b H'
  | .exc c => XE X c σ H
  | .bad => False
noncomputable def pL (Rl : Hp → List V → List D → Prop) (r : R (List D)) (σ : St) (H : Hp) (Q : List V → Hp → Prop) : Prop := match r with
  | .val d => ∀ v H', Same H H' → Rl H' v d → Q v H'
  | .exc c => XE X c σ H
  | .bad => False
noncomputable def teC (F : Rho → R D) : TE := fun σ H Q => ∃ ρ, (∃ H0, RelX C X H0 ρ σ H) ∧ pV X (HasX C X ρ σ) (F ρ) σ H Q
noncomputable def teB (F : Rho → R D) : TE := fun σ H Q => ∃ ρ, (∃ H0, RelX C X H0 ρ σ H) ∧ pV X (BrwX C X ρ σ) (F ρ) σ H Q
noncomputable def ttD (F : Rho → R Bool) : TT := fun σ H Q => ∃ ρ, (∃ H0, RelX C X H0 ρ σ H) ∧ pB X (F ρ) σ H Q
noncomputable def taD (F : Rho → R (List D)) : TA := fun σ H Q => ∃ ρ, (∃ H0, RelX C X H0 ρ σ H) ∧ pL X (HasLX C X ρ σ) (F ρ) σ H Q
noncomputable def ED (e : Expr) (F : Rho → R D) : Prop := PE X e (teC C X F)
noncomputable def EB (e : Expr) (F : Rho → R D) : Prop := PE X e (teB C X F)
noncomputable def TD (e : Expr) (F : Rho → R Bool) : Prop := PT X e (ttD C X F)
noncomputable def AD (es : List Expr) (F : Rho → R (List D)) : Prop := PA X es (taD C X F)
noncomputable def pS (o : R Out) (H0 : Hp) (Dn : Ends) : Prop := match o with
  | .val (.nx ρ') => ∀ σ' H', RelX C X H0 ρ' σ' H' → Dn.nx σ' H'
  | .val (.bk ρ') => ∀ σ' H', RelX C X H0 ρ' σ' H' → Dn.bk σ' H'
  | .val (.ct ρ') => ∀ σ' H', RelX C X H0 ρ' σ' H' → Dn.ct σ' H'
  | .val (.rt d) => ∀ v H', Same H0 H' → Has X.K C H' v d → Dn.rt v H'
  | .exc c => XS X c H0
  | .bad => False
noncomputable def tsD (F : Rho → R Out) : TS := fun Dn σ H => ∃ ρ H0, RelX C X H0 ρ σ H ∧ pS C X (F ρ) H0 Dn
noncomputable def SD (st : Stmt) (F : Rho → R Out) : Prop := PS X st (tsD C X F)
noncomputable def SDs (st : List Stmt) (F : Rho → R Out) : Prop := PSs X st (tsD C X F)
end
section
variable {C : Addr} {X : Cx} {ρ : Rho} {σ : St} {H H' : Hp}
theorem pe_weak {e : Expr} {t t' : TE} (h : PE X e t) (hw : ∀ σ H Q, t' σ H Q → t σ H Q) : PE X e t' := fun pins s σ H Q I q => h pins s σ H Q I (hw σ H Q q)
theorem pt_weak {e : Expr} {t t' : TT} (h : PT X e t) (hw : ∀ σ H Q, t' σ H Q → t σ H Q) : PT X e t' := fun pins s σ H Q I q => h pins s σ H Q I (hw σ H Q q)
theorem pa_weak {e : List Expr} {t t' : TA} (h : PA X e t) (hw : ∀ σ H Q, t' σ H Q → t σ H Q) : PA X e t' := fun pos pins s σ H Q I q => h pos pins s σ H Q I (hw σ H Q q)
theorem ps_weak {e : Stmt} {t t' : TS} (h : PS X e t) (hw : ∀ D σ H, t' D σ H → t D σ H) : PS X e t' := fun pins s σ H Q I q => h pins s σ H Q I (hw Q σ H q)
theorem pss_weak {e : List Stmt} {t t' : TS} (h : PSs X e t) (hw : ∀ D σ H, t' D σ H → t D σ H) : PSs X e t' := fun pins s σ H Q I q => h pins s σ H Q I (hw Q σ H q)
theorem pV.mono {Rl : Hp → V → D → Prop} {r : R D} {Q : VK} (s : Same H H') (h : pV X Rl r σ H Q) : pV X Rl r σ H' Q := by
  cases r with
  | val d => exact fun v H2 s2 q => h v H2 (s.trans s2) q
  | exc c => exact XE.mono s h
  | bad => exact h
theorem pB.mono {r : R Bool} {Q : Bool → Hp → Prop} (s : Same H H') (h : pB X r σ H Q) : pB X r σ H' Q := by
  cases r with
  | val d => exact fun H2 s2 => h H2 (s.trans s2)
  | exc c => exact XE.mono s h
  | bad => exact h
theorem pL.mono {Rl : Hp → List V → List D → Prop} {r : R (List D)} {Q : List V → Hp → Prop} (s : Same H H') (h : pL X Rl r σ H Q) : pL X Rl r σ H' Q := by
  cases r with
  | val d => exact fun v H2 s2 q => h v H2 (s.trans s2) q
  | exc c => exact XE.mono s h
  | bad => exact h
theorem pV_bind {α : Type} {Rl : Hp → V → D → Prop} {r : R D} {k : D → R α} {P : R α → Hp → Prop} {Q : VK} (hexc : ∀ c, P (.exc c) H → XE X c σ H) (hbad : P .bad H → False) (h : P (r.bind k) H)
    (hk : ∀ d v H1, Same H H1 → Rl H1 v d → P (k d) H → Q v H1) : pV X Rl r σ H Q := by
  cases r with
  | val d => exact fun v H1 s q => hk d v H1 s q h
  | exc c => exact hexc c h
  | bad => exact hbad h
theorem pB_bind {α : Type} {r : R Bool} {k : Bool → R α} {P : R α → Hp → Prop} {Q : Bool → Hp → Prop} (hexc : ∀ c, P (.exc c) H → XE X c σ H) (hbad : P .bad H → False) (h : P (r.bind k) H)
    (hk : ∀ d H1, Same H H1 → P (k d) H → Q d H1) : pB X r σ H Q := by
  cases r with
  | val d => exact fun H1 s => hk d H1 s h
  | exc c => exact hexc c h
  | bad => exact hbad h
theorem pL_bind {α : Type} {Rl : Hp → List V → List D → Prop} {r : R (List D)} {k : List D → R α} {P : R α → Hp → Prop} {Q : List V → Hp → Prop} (hexc : ∀ c, P (.exc c) H → XE X c σ H) (hbad : P .bad H → False) (h : P (r.bind k) H)
    (hk : ∀ d v H1, Same H H1 → Rl H1 v d → P (k d) H → Q v H1) : pL X Rl r σ H Q := by
  cases r with
  | val d => exact fun v H1 s q => hk d v H1 s q h
  | exc c => exact hexc c h
  | bad => exact hbad h
theorem EB.of {e : Expr} {F : Rho → R D} (h : ED C X e F) : EB C X e F := pe_weak h fun σ H Q yy0 => by
 obtain ⟨ρ, r, q⟩ := yy0
 exact ⟨ρ, r, by
  cases z : F ρ with
  | val d => rw [z] at q; exact fun v H' s h => q v H' s (.cl h)
  | exc c => rw [z] at q; exact q
  | bad => rw [z] at q; exact q⟩
noncomputable def vr (i : Nat) : Rho → R D := fun ρ => match ρ[i]? with
  | some (some (.shr d)) => .val d
  | _ => .bad
noncomputable def vb (i : Nat) : Rho → R D := fun ρ => match ρ[i]? with
  | some (some (.shr d)) => .val d
  | some (some (.own xs)) => .val (.lst xs)
  | _ => .bad
theorem ed_var {i : Nat} {x : Str} {pos : Pos} (h : PE X (.Name x pos) (tVar i)) : ED C X (.Name x pos) (vr i) := by
  refine pe_weak h fun σ H Q zz0 => ?_
  obtain ⟨ρ, ⟨H0, r⟩, q⟩ := zz0
  unfold vr at q
  split at q
  · rename_i d e
    obtain ⟨v, e1, h1⟩ := r.at_ i _ e
    exact ⟨v, e1, q v H (Same.refl _) h1⟩
  · exact q.elim
theorem eb_var {i : Nat} {x : Str} {pos : Pos} (h : PE X (.Name x pos) (tVar i)) : EB C X (.Name x pos) (vb i) := by
  refine pe_weak h fun σ H Q zz1 => ?_
  obtain ⟨ρ, ⟨H0, r⟩, q⟩ := zz1
  unfold vb at q
  split at q
  · rename_i d e
    obtain ⟨v, e1, h1⟩ := r.at_ i _ e
    exact ⟨v, e1, q v H (Same.refl _) (.cl h1)⟩
  · rename_i xs e
    obtain ⟨a, vs, e1, h1, h2⟩ := r.at_ i _ e
    exact ⟨_, e1, q _ H (Same.refl _) (.own h1 h2)⟩
  · exact q.elim
noncomputable def kd (d : D) : Rho → R D := fun _ => .val d
theorem ed_int {i j pos} : ED C X (.Constant (.int i) j pos) (kd (.int i)) := pe_weak pe_int fun σ H Q yy1 => by
 obtain ⟨ρ, r, q⟩ := yy1
 exact q _ H (Same.refl _) (.int i)
theorem ed_bl {i j pos} : ED C X (.Constant (.bool i) j pos) (kd (.bl i)) := pe_weak pe_bl fun σ H Q yy2 => by
 obtain ⟨ρ, r, q⟩ := yy2
 exact q _ H (Same.refl _) (.bl i)
theorem ed_non {j pos} : ED C X (.Constant .none j pos) (kd .non) := pe_weak pe_non fun σ H Q yy3 => by
 obtain ⟨ρ, r, q⟩ := yy3
 exact q _ H (Same.refl _) .non
theorem ed_globI {x : Str} {i : Int} {t : Tok} {pos : Pos} (hg : Gl X x) (hm : X.mg x = some (.int i t)) (hd : (x == ("__debug__" : Str)) = false := by decide) : ED C X (.Name x pos) (kd (.int i)) :=
  pe_weak (pe_glob (v := .int i) hg hm ⟨t, rfl⟩ hd) fun σ H Q yy4 => by
   obtain ⟨ρ, r, q⟩ := yy4
   exact q _ H (Same.refl _) (.int i)
noncomputable def bin (f : D → D → R D) (a b : Rho → R D) : Rho → R D := fun ρ => (a ρ).bind fun x => (b ρ).bind fun y => f x y
noncomputable def OpD (C : Addr) (X : Cx) (r : R2) (f : D → D → R D) : Prop := ∀ ρ σ H v w x y z (Q : VK), (∃ H0, RelX C X H0 ρ σ H) → BrwX C X ρ σ H v x → BrwX C X ρ σ H w y → f x y = .val z → (∀ u H', Same H H' → HasX C X ρ σ H' u z → Q u H') → r v w H Q
noncomputable def Pure2 (f : D → D → R D) : Prop := ∀ x y c, f x y ≠ .exc c
theorem tOp_of {r : R2} {f : D → D → R D} {Fa Fb : Rho → R D} (hf : Pure2 f) (ho : OpD C X r f) {σ : St} {H : Hp} {Q : VK} (h : teC C X (bin f Fa Fb) σ H Q) : tOp r (teB C X Fa) (teB C X Fb) σ H Q := by
  obtain ⟨ρ, ⟨H0, r0⟩, q⟩ := h
  refine ⟨ρ, ⟨H0, r0⟩, pV_bind (P := fun z H => pV X (HasX C X ρ σ) z σ H Q) (fun _ h => h) (fun h => h) q fun x v H1 s1 h1 q1 => ?_⟩
  refine ⟨ρ, ⟨H0, r0.mono s1⟩, pV_bind (P := fun z H => pV X (HasX C X ρ σ) z σ H Q) (fun _ h => h) (fun h => h) (q1.mono s1) fun y w H2 s2 h2 q2 => ?_⟩
  cases e : f x y with
  | val z =>
    rw [e] at q2
    exact ho ρ σ H2 v w x y z Q ⟨H0, (r0.mono s1).mono s2⟩ (h1.mono (msk_mono s2) s2) h2 e fun u H3 s3 h3 => q2 u H3 (s2.trans s3) h3
  | exc c => exact (hf x y c e).elim
  | bad => rw [e] at q2; exact q2.elim
theorem ed_op {a b : Expr} {op : Operator} {pos : Pos} {r : R2} {f : D → D → R D} {Fa Fb : Rho → R D} (h : OpR X (binaryOp op) r) (hf : Pure2 f) (ho : OpD C X r f) (ha : EB C X a Fa) (hb : EB C X b Fb) :
    ED C X (.BinOp a op b pos) (bin f Fa Fb) := pe_weak (pe_op h ha hb) fun σ H Q q => tOp_of hf ho q
theorem ed_cmp {a b : Expr} {op : CmpOp} {pos : Pos} {r : R2} {f : D → D → R D} {Fa Fb : Rho → R D} (h : OpR X (compareOp op) r) (hf : Pure2 f) (ho : OpD C X r f) (ha : EB C X a Fa) (hb : EB C X b Fb) (hm : behindInMarks op b = false) :
    ED C X (.Compare a [op] [b] pos) (bin f Fa Fb) := pe_weak (pe_cmpR h ha hb hm) fun σ H Q q => tOp_of hf ho q
theorem ed_ix {a b : Expr} {pos : Pos} {r : R2} {f : D → D → R D} {Fa Fb : Rho → R D} (h : IxR X r) (hf : Pure2 f) (ho : OpD C X r f) (ha : EB C X a Fa) (hb : EB C X b Fb) (hs : PlainIx b) :
    ED C X (.Subscript a b pos) (bin f Fa Fb) := pe_weak (pe_ix h ha hb hs) fun σ H Q q => tOp_of hf ho q
noncomputable def asB : D → R Bool
  | .bl b => .val b
  | _ => .bad
noncomputable def tst (F : Rho → R D) : Rho → R Bool := fun ρ => (F ρ).bind asB
theorem Brw.int {K : PySem.W.Frag} {M H : Hp} {v : V} {i : Int} (h : Brw K C M H v (.int i)) : v = .int i := by
  cases h with
  | cl h => cases h; rfl
theorem Brw.bl {K : PySem.W.Frag} {M H : Hp} {v : V} {i : Bool} (h : Brw K C M H v (.bl i)) : v = .bl i := by
  cases h with
  | cl h => cases h; rfl
theorem Has.bl' {K : PySem.W.Frag} {M : Hp} {v : V} {i : Bool} (h : Has K C M v (.bl i)) : v = .bl i := by cases h; rfl
theorem tB_of {F : Rho → R D} {σ : St} {H : Hp} {Q : Bool → Hp → Prop} (h : ttD C X (tst F) σ H Q) : teC C X F σ H fun x H1 => ∃ c, x = .bl c ∧ Q c H1 := by
  obtain ⟨ρ, ⟨H0, r0⟩, q⟩ := h
  refine ⟨ρ, ⟨H0, r0⟩, pV_bind (P := fun z H => pB X z σ H Q) (fun _ h => h) (fun h => h) q fun x v H1 s1 h1 q1 => ?_⟩
  cases x with
  | bl b => exact ⟨b, Has.bl' h1, q1 H1 s1⟩
  | _ => exact q1.elim
theorem td_val {e : Expr} {F : Rho → R D} (h : ED C X e F) (he : ∀ whole, isTrue e X.env whole = (do let v ← whole; standAt e.pos; holding [v] (truthy v)) := by intro _; rfl) : TD C X e (tst F) :=
  pt_weak (pt_val h he) fun σ H Q q => tB_of q
theorem td_cmp {a b : Expr} {op : CmpOp} {pos : Pos} {r : R2} {f : D → D → R D} {Fa Fb : Rho → R D} (h : OpR X (compareOp op) r) (hf : Pure2 f) (ho : OpD C X r f) (ha : EB C X a Fa) (hb : EB C X b Fb) (hm : behindInMarks op b = false) :
    TD C X (.Compare a [op] [b] pos) (tst (bin f Fa Fb)) := pt_weak (pt_cmpR h ha hb hm) fun σ H Q q => by
  obtain ⟨ρ, r0, q⟩ := q
  refine tOp_of hf ho ⟨ρ, r0, ?_⟩
  exact pV_bind (P := fun z H => pB X z σ H Q) (fun _ h => h) (fun h => h) q fun x v H1 s1 h1 q1 => by
    cases x with
    | bl b => exact ⟨b, Has.bl' h1, q1 H1 s1⟩
    | _ => exact q1.elim
noncomputable def andB (a b : Rho → R Bool) : Rho → R Bool := fun ρ => (a ρ).bind fun x => if x = true then b ρ else .val false
noncomputable def orB (a b : Rho → R Bool) : Rho → R Bool := fun ρ => (a ρ).bind fun x => if x = true then .val true else b ρ
noncomputable def notB (a : Rho → R Bool) : Rho → R Bool := fun ρ => (a ρ).bind fun x => .val (!x)
noncomputable def WD (C : Addr) (X : Cx) (e : Expr) (F : Rho → R Bool) : Prop := PW X e (ttD C X F)
theorem pw_weak {e : Expr} {t t' : TT} (h : PW X e t) (hw : ∀ σ H Q, t' σ H Q → t σ H Q) : PW X e t' := fun wh pins s σ H Q I q => h wh pins s σ H Q I (hw σ H Q q)
theorem wd_and1 {a : Expr} {pos : Pos} {F : Rho → R Bool} (h : TD C X a F) : WD C X (.BoolOp .And [a] pos) F := pw_and1 h
theorem wd_or1 {a : Expr} {pos : Pos} {F : Rho → R Bool} (h : TD C X a F) : WD C X (.BoolOp .Or [a] pos) F := pw_or1 h
theorem wd_and {a b : Expr} {rest : List Expr} {pos : Pos} {Fa Fb : Rho → R Bool} (ha : TD C X a Fa) (hb : WD C X (.BoolOp .And (b :: rest) pos) Fb) : WD C X (.BoolOp .And (a :: b :: rest) pos) (andB Fa Fb) :=
  pw_weak (pw_and ha hb) fun σ H Q yy5 => by
   obtain ⟨ρ, ⟨H0, r0⟩, q⟩ := yy5
   exact ⟨ρ, ⟨H0, r0⟩, pB_bind (P := fun z H => pB X z σ H Q) (fun _ h => h) (fun h => h) q fun x H1 s1 q1 => by
    cases x with
    | true => rw [if_pos rfl]; rw [if_pos rfl] at q1; exact ⟨ρ, ⟨H0, r0.mono s1⟩, q1.mono s1⟩
    | false => rw [if_neg Bool.false_ne_true]; rw [if_neg Bool.false_ne_true] at q1; exact q1 H1 s1⟩
theorem wd_or {a b : Expr} {rest : List Expr} {pos : Pos} {Fa Fb : Rho → R Bool} (ha : TD C X a Fa) (hb : WD C X (.BoolOp .Or (b :: rest) pos) Fb) : WD C X (.BoolOp .Or (a :: b :: rest) pos) (orB Fa Fb) :=
  pw_weak (pw_or ha hb) fun σ H Q yy6 => by
   obtain ⟨ρ, ⟨H0, r0⟩, q⟩ := yy6
   exact ⟨ρ, ⟨H0, r0⟩, pB_bind (P := fun z H => pB X z σ H Q) (fun _ h => h) (fun h => h) q fun x H1 s1 q1 => by
    cases x with
    | false => rw [if_neg Bool.false_ne_true]; rw [if_neg Bool.false_ne_true] at q1; exact ⟨ρ, ⟨H0, r0.mono s1⟩, q1.mono s1⟩
    | true => rw [if_pos rfl]; rw [if_pos rfl] at q1; exact q1 H1 s1⟩
theorem td_w {e : Expr} {F : Rho → R Bool} (h : WD C X e F) : TD C X e F := h.pt
theorem td_not {a : Expr} {pos : Pos} {F : Rho → R Bool} (h : TD C X a F) : TD C X (.UnaryOp .Not a pos) (notB F) :=
  pt_weak (pt_not h) fun σ H Q yy7 => by
   obtain ⟨ρ, r0, q⟩ := yy7
   exact ⟨ρ, r0, pB_bind (P := fun z H => pB X z σ H Q) (fun _ h => h) (fun h => h) q fun x H1 s1 q1 => q1 H1 s1⟩
noncomputable def andV (a b : Rho → R D) : Rho → R D := fun ρ => (a ρ).bind fun x => (asB x).bind fun c => if c = true then b ρ else .val (.bl false)
noncomputable def notV (a : Rho → R D) : Rho → R D := fun ρ => (a ρ).bind fun x => (asB x).bind fun c => .val (.bl (!c))
noncomputable def ifV (t : Rho → R Bool) (a b : Rho → R D) : Rho → R D := fun ρ => (t ρ).bind fun c => if c = true then a ρ else b ρ
theorem ed_one {a : Expr} {op} {pos : Pos} {F : Rho → R D} (h : ED C X a F) : ED C X (.BoolOp op [a] pos) F := pe_one h
theorem ed_and {a b : Expr} {rest : List Expr} {pos : Pos} {Fa Fb : Rho → R D} (ha : ED C X a Fa) (hb : ED C X (.BoolOp .And (b :: rest) pos) Fb) : ED C X (.BoolOp .And (a :: b :: rest) pos) (andV Fa Fb) :=
  pe_weak (pe_and ha hb) fun σ H Q yy8 => by
   obtain ⟨ρ, ⟨H0, r0⟩, q⟩ := yy8
   exact ⟨ρ, ⟨H0, r0⟩, pV_bind (P := fun z H => pV X (HasX C X ρ σ) z σ H Q) (fun _ h => h) (fun h => h) q fun x v H1 s1 h1 q1 => by
    cases x with
    | bl c =>
      refine ⟨c, Has.bl' h1, ?_⟩
      cases c with
      | true => exact iteT ⟨ρ, ⟨H0, r0.mono s1⟩, q1.mono s1⟩
      | false => exact iteF (q1 _ H1 s1 (.bl false))
    | _ => exact q1.elim⟩
theorem ed_not {a : Expr} {pos : Pos} {F : Rho → R D} (h : ED C X a F) : ED C X (.UnaryOp .Not a pos) (notV F) :=
  pe_weak (pe_not h) fun σ H Q yy10 => by
   obtain ⟨ρ, ⟨H0, r0⟩, q⟩ := yy10
   exact ⟨ρ, ⟨H0, r0⟩, pV_bind (P := fun z H => pV X (HasX C X ρ σ) z σ H Q) (fun _ h => h) (fun h => h) q fun x v H1 s1 h1 q1 => by
    cases x with
    | bl c => exact ⟨c, Has.bl' h1, q1 _ H1 s1 (.bl _)⟩
    | _ => exact q1.elim⟩
theorem ed_if {c a b : Expr} {pos : Pos} {Ft : Rho → R Bool} {Fa Fb : Rho → R D} (hc : TD C X c Ft) (ha : ED C X a Fa) (hb : ED C X b Fb) : ED C X (.IfExp c a b pos) (ifV Ft Fa Fb) :=
  pe_weak (pe_ifExp hc ha hb) fun σ H Q yy11 => by
   obtain ⟨ρ, ⟨H0, r0⟩, q⟩ := yy11
   exact ⟨ρ, ⟨H0, r0⟩, pB_bind (P := fun z H => pV X (HasX C X ρ σ) z σ H Q) (fun _ h => h) (fun h => h) q fun x H1 s1 q1 => by
    cases x with
    | true => exact iteT ⟨ρ, ⟨H0, r0.mono s1⟩, q1.mono s1⟩
    | false => exact iteF ⟨ρ, ⟨H0, r0.mono s1⟩, q1.mono s1⟩⟩
noncomputable def aN : Rho → R (List D) := fun _ => .val []
noncomputable def aC (a : Rho → R D) (r : Rho → R (List D)) : Rho → R (List D) := fun ρ => (a ρ).bind fun x => (r ρ).bind fun xs => .val (x :: xs)
theorem ad_nil : AD C X [] aN := pa_weak pa_nil fun σ H Q yy12 => by
 obtain ⟨ρ, r0, q⟩ := yy12
 exact q [] H (Same.refl _) .nil
theorem ad_cons {e : Expr} {es : List Expr} {Fa : Rho → R D} {Fr : Rho → R (List D)} (ha : ED C X e Fa) (hr : AD C X es Fr) (hs : starEach (e :: es) X.env = (false, eval e X.env) :: starEach es X.env := by rfl) : AD C X (e :: es) (aC Fa Fr) :=
  pa_weak (pa_cons ha hr hs) fun σ H Q yy13 => by
   obtain ⟨ρ, ⟨H0, r0⟩, q⟩ := yy13
   exact ⟨ρ, ⟨H0, r0⟩, pV_bind (P := fun z H => pL X (HasLX C X ρ σ) z σ H Q) (fun _ h => h) (fun h => h) q fun x v H1 s1 h1 q1 =>
    ⟨ρ, ⟨H0, r0.mono s1⟩, pL_bind (P := fun z H => pL X (HasLX C X ρ σ) z σ H Q) (fun _ h => h) (fun h => h) (q1.mono s1) fun xs vs H2 s2 h2 q2 => q2 _ H2 s2 (.cons (h1.mono (msk_mono s2)) h2)⟩⟩
noncomputable def LIM : Nat := 100000
theorem lim_le {n : Nat} (h : n ≤ LIM) : n ≤ sizeLine := Nat.le_trans h (by decide)
theorem lim_lt {n : Nat} (h : n ≤ LIM) : n < sizeLine := Nat.lt_of_le_of_lt h (by decide)
noncomputable def mkT (xs : List D) : R D := if xs.length ≤ LIM then .val (.tup xs) else .bad
noncomputable def mkL (xs : List D) : R D := if xs.length ≤ LIM then .val (.lst xs) else .bad
noncomputable def eT (a : Rho → R (List D)) : Rho → R D := fun ρ => (a ρ).bind mkT
noncomputable def eL (a : Rho → R (List D)) : Rho → R D := fun ρ => (a ρ).bind mkL
theorem ed_tup {es : List Expr} {x1} {pos : Pos} {F : Rho → R (List D)} (h : AD C X es F) : ED C X (.Tuple es x1 pos) (eT F) :=
  pe_weak (pe_tup h) fun σ H Q yy14 => by
   obtain ⟨ρ, ⟨H0, r0⟩, q⟩ := yy14
   exact ⟨ρ, ⟨H0, r0⟩, pL_bind (P := fun z H => pV X (HasX C X ρ σ) z σ H Q) (fun _ h => h) (fun h => h) q fun xs vs H1 s1 h1 q1 => by
    unfold mkT at q1
    split at q1
    · rename_i hl
      refine ⟨by rw [h1.len]; exact lim_le hl, fun p hp => q1 _ _ (s1.trans (same_upd hp)) ?_⟩
      exact .tup ((r0.mono s1).new hp) (h1.mono (msk_mono (same_upd hp)))
    · exact q1.elim⟩
theorem ed_lst {es : List Expr} {pos : Pos} {F : Rho → R (List D)} (h : AD C X es F) : ED C X (.List es pos) (eL F) :=
  pe_weak (pe_lst h) fun σ H Q yy15 => by
   obtain ⟨ρ, ⟨H0, r0⟩, q⟩ := yy15
   exact ⟨ρ, ⟨H0, r0⟩, pL_bind (P := fun z H => pV X (HasX C X ρ σ) z σ H Q) (fun _ h => h) (fun h => h) q fun xs vs H1 s1 h1 q1 => by
    unfold mkL at q1
    split at q1
    · rename_i hl
      refine ⟨by rw [h1.len]; exact lim_le hl, fun p hp => q1 _ _ (s1.trans (same_upd hp)) ?_⟩
      exact .lst ((r0.mono s1).new hp) (h1.mono (msk_mono (same_upd hp)))
    · exact q1.elim⟩
end
end DL

set_option Elab.async false
set_option linter.all false
set_option maxRecDepth 100000
set_option maxHeartbeats 1000000
namespace DL
open PySem PySem.Spec PyProof.Rows L2
set_option autoImplicit false
section
variable {C : Addr} {X : Cx} {ρ : Rho} {σ : St} {H H' : Hp}
noncomputable def iI (f : Int → Int → R D) : D → D → R D
  | .int i, .int j => f i j
  | _, _ => .bad
theorem pure_iI {f : Int → Int → R D} (h : ∀ i j c, f i j ≠ .exc c) : Pure2 (iI f) := by
  intro x y c
  cases x <;> cases y <;> simp [iI] <;> exact h _ _ c
theorem opd_I0 {g : Int → Int → V} {f : Int → Int → R D} (h : ∀ i j z, f i j = .val z → ∀ K C H, Has K C H (g i j) z) : OpD C X (rI0 g) (iI f) := by
  intro ρ σ H v w x y z Q r hx hy e k
  cases x with
  | int i =>
    cases y with
    | int j => exact ⟨i, j, hx.int, hy.int, k _ H (Same.refl _) (h i j z e _ _ _)⟩
    | _ => cases e
  | _ => cases e
theorem opd_I {P : Int → Int → Prop} {g : Int → Int → V} {f : Int → Int → R D} (h : ∀ i j z, f i j = .val z → P i j ∧ ∀ K C H, Has K C H (g i j) z) : OpD C X (rI P g) (iI f) := by
  intro ρ σ H v w x y z Q r hx hy e k
  cases x with
  | int i =>
    cases y with
    | int j => exact ⟨i, j, hx.int, hy.int, (h i j z e).1, k _ H (Same.refl _) ((h i j z e).2 _ _ _)⟩
    | _ => cases e
  | _ => cases e
noncomputable def fsub (i j : Int) : R D := .val (.int (i - j))
noncomputable def fmul (i j : Int) : R D := if (-(2 ^ 64) < i ∧ i < 2 ^ 64) ∨ (-(2 ^ 64) < j ∧ j < 2 ^ 64) then .val (.int (i * j)) else .bad
noncomputable def fmod (i j : Int) : R D := if 0 < j then .val (.int (i % j)) else .bad
noncomputable def fdiv (i j : Int) : R D := if 0 < j ∧ j < 1073741824 then .val (.int (i / j)) else .bad
noncomputable def fpow (i j : Int) : R D := if 0 ≤ j ∧ j ≤ 1000000 ∧ i.natAbs < 2 ^ 64 then .val (.int (i ^ j.toNat)) else .bad
noncomputable def flt (i j : Int) : R D := .val (.bl (decide (i < j)))
noncomputable def fgt (i j : Int) : R D := .val (.bl (decide (j < i)))
noncomputable def fge (i j : Int) : R D := .val (.bl (decide (j ≤ i)))
theorem opd_sub : OpD C X (rI0 fun i j => .int (i - j)) (iI fsub) := opd_I0 fun i j z e => by cases e; exact fun _ _ _ => .int _
theorem opd_mul : OpD C X (rI CMul fun i j => .int (i * j)) (iI fmul) := opd_I fun i j z e => by
  unfold fmul at e; split at e
  · cases e; exact ⟨‹_›, fun _ _ _ => .int _⟩
  · cases e
theorem opd_mod : OpD C X (rI (fun _ j => 0 < j) fun i j => .int (i % j)) (iI fmod) := opd_I fun i j z e => by
  unfold fmod at e; split at e
  · cases e; exact ⟨‹_›, fun _ _ _ => .int _⟩
  · cases e
theorem opd_div : OpD C X (rI CDiv fun i j => .int (i / j)) (iI fdiv) := opd_I fun i j z e => by
  unfold fdiv at e; split at e
  · cases e; exact ⟨‹_›, fun _ _ _ => .int _⟩
  · cases e
theorem opd_pow : OpD C X (rI CPow fun i j => .int (i ^ j.toNat)) (iI fpow) := opd_I fun i j z e => by
  unfold fpow at e; split at e
  · cases e; exact ⟨‹_›, fun _ _ _ => .int _⟩
  · cases e
theorem opd_lt : OpD C X (rI0 fun i j => .bl (decide (i < j))) (iI flt) := opd_I0 fun i j z e => by cases e; exact fun _ _ _ => .bl _
theorem opd_gt : OpD C X (rI0 fun i j => .bl (decide (j < i))) (iI fgt) := opd_I0 fun i j z e => by cases e; exact fun _ _ _ => .bl _
theorem opd_ge : OpD C X (rI0 fun i j => .bl (decide (j ≤ i))) (iI fge) := opd_I0 fun i j z e => by cases e; exact fun _ _ _ => .bl _
theorem pu_sub : Pure2 (iI fsub) := pure_iI fun i j c e => by cases e
theorem pu_mul : Pure2 (iI fmul) := pure_iI fun i j c e => by unfold fmul at e; split at e <;> cases e
theorem pu_mod : Pure2 (iI fmod) := pure_iI fun i j c e => by unfold fmod at e; split at e <;> cases e
theorem pu_div : Pure2 (iI fdiv) := pure_iI fun i j c e => by unfold fdiv at e; split at e <;> cases e
theorem pu_pow : Pure2 (iI fpow) := pure_iI fun i j c e => by unfold fpow at e; split at e <;> cases e
theorem pu_lt : Pure2 (iI flt) := pure_iI fun i j c e => by cases e
theorem pu_gt : Pure2 (iI fgt) := pure_iI fun i j c e => by cases e
theorem pu_ge : Pure2 (iI fge) := pure_iI fun i j c e => by cases e
noncomputable def fadd : D → D → R D
  | .int i, .int j => .val (.int (i + j))
  | .lst xs, .lst ys => if xs.length + ys.length ≤ LIM then .val (.lst (xs ++ ys)) else .bad
  | _, _ => .bad
theorem Brw.lst {K : PySem.W.Frag} {M H : Hp} {v : V} {xs : List D} (s : Same M H) (h : Brw K C M H v (.lst xs)) : ∃ a vs, v = .ref a ∧ H a = some (.lst vs) ∧ HasL K C M vs xs := by
  cases h with
  | cl h => cases h with
    | lst q h => exact ⟨_, _, rfl, s _ _ q, h⟩
  | own e h => exact ⟨_, _, rfl, e, h⟩
theorem Brw.tup {K : PySem.W.Frag} {M H : Hp} {v : V} {xs : List D} (s : Same M H) (h : Brw K C M H v (.tup xs)) : ∃ a vs, v = .ref a ∧ H a = some (.tup vs) ∧ HasL K C M vs xs := by
  cases h with
  | cl h => cases h with
    | tup q h => exact ⟨_, _, rfl, s _ _ q, h⟩
theorem Brw.scr {K : PySem.W.Frag} {M H : Hp} {v : V} {ns : List Int} (s : Same M H) (h : Brw K C M H v (.scr ns)) : ∃ a, v = .ref a ∧ SqL K H a (ns.map V.int) := by
  cases h with
  | cl h => cases h with
    | scr q => exact ⟨_, rfl, s.seq q⟩
theorem opd_add : OpD C X (fun x y H Q => rI0 (fun i j => .int (i + j)) x y H Q ∨ rCat x y H Q) fadd := by
  intro ρ σ H v w x y z Q r hx hy e k
  obtain ⟨H0, r⟩ := r
  cases x with
  | int i =>
    cases y with
    | int j => cases e; exact .inl ⟨i, j, hx.int, hy.int, k _ H (Same.refl _) (.int _)⟩
    | _ => cases e
  | lst xs =>
    cases y with
    | lst ys =>
      simp only [fadd] at e
      split at e
      · rename_i hl
        cases e
        obtain ⟨a, vs, rfl, q1, h1⟩ := hx.lst msk_sub
        obtain ⟨b, ws, rfl, q2, h2⟩ := hy.lst msk_sub
        refine .inr ⟨a, b, vs, ws, rfl, rfl, q1, q2, by rw [h1.len, h2.len]; exact lim_le hl, fun p hp => k _ _ (same_upd hp) ?_⟩
        exact .lst (r.new hp) ((h1.app h2).mono (msk_mono (same_upd hp)))
      · cases e
    | _ => cases e
  | _ => cases e
theorem pu_add : Pure2 fadd := by
  intro x y c e
  unfold fadd at e
  split at e
  · cases e
  · split at e <;> cases e
  · cases e
theorem opr_add : OpR X (binaryOp .Add) (fun x y H Q => rI0 (fun i j => .int (i + j)) x y H Q ∨ rCat x y H Q) := op_add.or op_cat
noncomputable def fix : D → D → R D
  | .lst xs, .int i => match atI xs i with
    | some d => .val d
    | none => .bad
  | .tup xs, .int i => match atI xs i with
    | some d => .val d
    | none => .bad
  | .scr ns, .int i => match atI ns i with
    | some d => .val (.int d)
    | none => .bad
  | _, _ => .bad
theorem pu_ix : Pure2 fix := by
  intro x y c e
  unfold fix at e
  split at e
  · split at e <;> cases e
  · split at e <;> cases e
  · split at e <;> cases e
  · cases e
theorem atI_map {α β : Type} (f : α → β) (xs : List α) (i : Int) : L2.atI (xs.map f) i = (L2.atI xs i).map f := by
  unfold L2.atI
  rw [List.length_map]
  cases ixN xs.length i with
  | none => rfl
  | some j => simp
theorem HasL.atI {K : PySem.W.Frag} {vs : List V} {xs : List D} {i : Int} {d : D} (h : HasL K C H vs xs) (e : atI xs i = some d) : ∃ v, L2.atI vs i = some v ∧ Has K C H v d := by
  unfold L2.atI at e ⊢
  rw [h.len]
  cases q : ixN xs.length i with
  | none => rw [q] at e; cases e
  | some j =>
    rw [q] at e
    exact h.get e
theorem opd_ix : OpD C X (rIx X.K) fix := by
  intro ρ σ H v w x y z Q r hx hy e k
  unfold fix at e
  split at e
  · rename_i xs i
    split at e
    · rename_i d q
      cases e
      obtain ⟨a, vs, rfl, q1, h1⟩ := hx.lst msk_sub
      obtain ⟨u, q2, h2⟩ := h1.atI q
      exact .inl ⟨a, vs, i, u, rfl, hy.int, SqL.of q1, q2, k _ H (Same.refl _) h2⟩
    · cases e
  · rename_i xs i
    split at e
    · rename_i d q
      cases e
      obtain ⟨a, vs, rfl, q1, h1⟩ := hx.tup msk_sub
      obtain ⟨u, q2, h2⟩ := h1.atI q
      exact .inr (.inl ⟨a, vs, i, u, rfl, hy.int, SqT.of q1, q2, k _ H (Same.refl _) h2⟩)
    · cases e
  · rename_i ns i
    split at e
    · rename_i d q
      cases e
      obtain ⟨a, rfl, q1⟩ := hx.scr msk_sub
      exact .inl ⟨a, _, i, .int d, rfl, hy.int, q1, by rw [atI_map, q]; rfl, k _ H (Same.refl _) (.int d)⟩
    · cases e
  · cases e
theorem ed_add {a b : Expr} {pos : Pos} {Fa Fb : Rho → R D} (ha : EB C X a Fa) (hb : EB C X b Fb) : ED C X (.BinOp a .Add b pos) (bin fadd Fa Fb) := ed_op opr_add pu_add opd_add ha hb
theorem ed_sub {a b : Expr} {pos : Pos} {Fa Fb : Rho → R D} (ha : EB C X a Fa) (hb : EB C X b Fb) : ED C X (.BinOp a .Sub b pos) (bin (iI fsub) Fa Fb) := ed_op op_sub pu_sub opd_sub ha hb
theorem ed_mul {a b : Expr} {pos : Pos} {Fa Fb : Rho → R D} (ha : EB C X a Fa) (hb : EB C X b Fb) : ED C X (.BinOp a .Mult b pos) (bin (iI fmul) Fa Fb) := ed_op op_mul pu_mul opd_mul ha hb
theorem ed_mod {a b : Expr} {pos : Pos} {Fa Fb : Rho → R D} (ha : EB C X a Fa) (hb : EB C X b Fb) : ED C X (.BinOp a .Mod b pos) (bin (iI fmod) Fa Fb) := ed_op op_mod pu_mod opd_mod ha hb
theorem ed_fdiv {a b : Expr} {pos : Pos} {Fa Fb : Rho → R D} (ha : EB C X a Fa) (hb : EB C X b Fb) : ED C X (.BinOp a .FloorDiv b pos) (bin (iI fdiv) Fa Fb) := ed_op op_fdiv pu_div opd_div ha hb
theorem ed_pow {a b : Expr} {pos : Pos} {Fa Fb : Rho → R D} (ha : EB C X a Fa) (hb : EB C X b Fb) : ED C X (.BinOp a .Pow b pos) (bin (iI fpow) Fa Fb) := ed_op op_pow pu_pow opd_pow ha hb
theorem td_lt {a b : Expr} {pos : Pos} {Fa Fb : Rho → R D} (ha : EB C X a Fa) (hb : EB C X b Fb) : TD C X (.Compare a [.Lt] [b] pos) (tst (bin (iI flt) Fa Fb)) := td_cmp op_lt pu_lt opd_lt ha hb (nomark _)
theorem td_gt {a b : Expr} {pos : Pos} {Fa Fb : Rho → R D} (ha : EB C X a Fa) (hb : EB C X b Fb) : TD C X (.Compare a [.Gt] [b] pos) (tst (bin (iI fgt) Fa Fb)) := td_cmp op_gt pu_gt opd_gt ha hb (nomark _)
theorem td_ge {a b : Expr} {pos : Pos} {Fa Fb : Rho → R D} (ha : EB C X a Fa) (hb : EB C X b Fb) : TD C X (.Compare a [.GtE] [b] pos) (tst (bin (iI fge) Fa Fb)) := td_cmp op_ge pu_ge opd_ge ha hb (nomark _)
theorem ed_at {a b : Expr} {pos : Pos} {Fa Fb : Rho → R D} (ha : EB C X a Fa) (hb : EB C X b Fb) (hs : PlainIx b := by exact fun _ _ => rfl) : ED C X (.Subscript a b pos) (bin fix Fa Fb) := ed_ix ix_seq pu_ix opd_ix ha hb hs
noncomputable def fneg : D → R D
  | .int i => .val (.int (-i))
  | _ => .bad
noncomputable def una (f : D → R D) (a : Rho → R D) : Rho → R D := fun ρ => (a ρ).bind f
theorem ed_neg {a : Expr} {pos : Pos} {F : Rho → R D} (h : EB C X a F) : ED C X (.UnaryOp .USub a pos) (una fneg F) :=
  pe_weak (pe_un un_neg h) fun σ H Q yy0 => by
   obtain ⟨ρ, r0, q⟩ := yy0
   exact ⟨ρ, r0, pV_bind (P := fun z H => pV X (HasX C X ρ σ) z σ H Q) (fun _ h => h) (fun h => h) q fun x v H1 s1 h1 q1 => by
    cases x with
    | int i => exact ⟨i, h1.int, q1 _ H1 s1 (.int _)⟩
    | _ => exact q1.elim⟩
noncomputable def fisN : D → D
  | .non => .bl true
  | _ => .bl false
noncomputable def fisNot : D → D
  | .non => .bl false
  | _ => .bl true
theorem Brw.isN {K : PySem.W.Frag} {M H : Hp} {v : V} {d : D} (h : Brw K C M H v d) : fisN d = .bl (decide (v = .non)) ∧ fisNot d = .bl (!decide (v = .non)) := by
  cases h with
  | cl h => cases h <;> simp [fisN, fisNot]
  | own e h => simp [fisN, fisNot]
theorem td_notN {a : Expr} {j pos pos'} {F : Rho → R D} (h : EB C X a F) : TD C X (.Compare a [.IsNot] [.Constant .none j pos'] pos) (tst (una (fun d => .val (fisNot d)) F)) :=
  pt_weak (pt_cmp (pc_notN h)) fun σ H Q zz1 => by
    obtain ⟨ρ, r0, q⟩ := zz1
    refine ⟨ρ, r0, ?_⟩
    cases e : F ρ with
    | val d =>
      intro v H1 s1 h1
      refine ⟨_, rfl, ?_⟩
      have z : tst (una (fun d => .val (fisNot d)) F) ρ = .val (!decide (v = .non)) := by
        unfold tst una
        rw [e]
        show asB (fisNot d) = _
        rw [(h1.isN).2]; rfl
      rw [z] at q
      exact q H1 s1
    | exc c =>
      have z : tst (una (fun d => .val (fisNot d)) F) ρ = .exc c := by unfold tst una; rw [e]; rfl
      rw [z] at q; exact q
    | bad =>
      have z : tst (una (fun d => .val (fisNot d)) F) ρ = .bad := by unfold tst una; rw [e]; rfl
      rw [z] at q; exact q
noncomputable def chn (f g : Int → Int → Bool) (a b c : Rho → R D) : Rho → R D := fun ρ => (a ρ).bind fun x => (b ρ).bind fun y => match x, y with
  | .int i, .int j => if f i j = true then (c ρ).bind fun z => match z with
      | .int k => .val (.bl (g j k))
      | _ => .bad
    else .val (.bl false)
  | _, _ => .bad
end
end DL

set_option Elab.async false
set_option linter.all false
set_option maxRecDepth 100000
set_option maxHeartbeats 1000000
namespace DL
open PySem PySem.Spec PyProof.Rows L2
set_option autoImplicit false
section
variable {C : Addr} {X : Cx} {ρ : Rho} {σ : St} {H H' : Hp}
theorem tChain_of {f g : Int → Int → Bool} {Fa Fb Fc : Rho → R D} {σ : St} {H : Hp} {Q : VK} (h : teC C X (chn f g Fa Fb Fc) σ H Q) :
    tChain (rI0 fun i j => .bl (f i j)) (rI0 fun i j => .bl (g i j)) (teB C X Fa) (teB C X Fb) (teB C X Fc) σ H Q := by
  obtain ⟨ρ, ⟨H0, r0⟩, q⟩ := h
  refine ⟨ρ, ⟨H0, r0⟩, pV_bind (P := fun z H => pV X (HasX C X ρ σ) z σ H Q) (fun _ h => h) (fun h => h) q fun x v H1 s1 h1 q1 => ?_⟩
  refine ⟨ρ, ⟨H0, r0.mono s1⟩, pV_bind (P := fun z H => pV X (HasX C X ρ σ) z σ H Q) (fun _ h => h) (fun h => h) (q1.mono s1) fun y w H2 s2 h2 q2 => ?_⟩
  cases x with
  | int i =>
    cases y with
    | int j =>
      refine ⟨i, j, h1.int, h2.int, f i j, rfl, ?_⟩
      cases e : f i j with
      | false =>
        simp only [e, Bool.false_eq_true, if_false] at q2 ⊢
        exact q2 _ H2 s2 (.bl false)
      | true =>
        simp only [e, if_true] at q2 ⊢
        refine ⟨ρ, ⟨H0, (r0.mono s1).mono s2⟩, pV_bind (P := fun z H => pV X (HasX C X ρ σ) z σ H Q) (fun _ h => h) (fun h => h) (q2.mono s2) fun z w' H3 s3 h3 q3 => ?_⟩
        cases z with
        | int k => exact ⟨j, k, h2.int, h3.int, q3 _ H3 s3 (.bl _)⟩
        | _ => exact q3.elim
    | _ => exact q2.elim
  | _ => exact q2.elim
theorem ed_chain {a b c : Expr} {op op' : CmpOp} {pos : Pos} {f g : Int → Int → Bool} {Fa Fb Fc : Rho → R D} (ho : OpR X (compareOp op) (rI0 fun i j => .bl (f i j))) (ho' : OpR X (compareOp op') (rI0 fun i j => .bl (g i j)))
    (ha : EB C X a Fa) (hb : EB C X b Fb) (hc : EB C X c Fc) (hm : lastMarks [op, op'] [b, c] = false := by with_unfolding_all rfl) : ED C X (.Compare a [op, op'] [b, c] pos) (chn f g Fa Fb Fc) :=
  pe_weak (pe_chain ho ho' ha hb hc hm) fun σ H Q q => tChain_of q
theorem td_chain {a b c : Expr} {op op' : CmpOp} {pos : Pos} {f g : Int → Int → Bool} {Fa Fb Fc : Rho → R D} (ho : OpR X (compareOp op) (rI0 fun i j => .bl (f i j))) (ho' : OpR X (compareOp op') (rI0 fun i j => .bl (g i j)))
    (ha : EB C X a Fa) (hb : EB C X b Fb) (hc : EB C X c Fc) (hm : lastMarks [op, op'] [b, c] = false := by with_unfolding_all rfl) : TD C X (.Compare a [op, op'] [b, c] pos) (tst (chn f g Fa Fb Fc)) :=
  pt_weak (pt_chain ho ho' ha hb hc hm) fun σ H Q q => by
    obtain ⟨ρ, r0, q⟩ := q
    refine tChain_of ⟨ρ, r0, ?_⟩
    exact pV_bind (P := fun z H => pB X z σ H Q) (fun _ h => h) (fun h => h) q fun x v H1 s1 h1 q1 => by
      cases x with
      | bl b => exact ⟨b, Has.bl' h1, q1 H1 s1⟩
      | _ => exact q1.elim
noncomputable def fldD (f : Nat) : D → R D
  | .ob e r t => match f with
    | 0 => .val e
    | 1 => .val r
    | _ => .val t
  | _ => .bad
theorem ed_fld {e : Expr} {f : Str} {k : Nat} {pos : Pos} {F : Rho → R D} (h : EB C X e F) (c : Cls X.K C) (n : NoAttr X.K C f) (hb : attributeBase e f X.env (eval e X.env) = eval e X.env)
    (hk : ∀ ve vr vt, (flds ve vr vt).lookup f = some (match k with | 0 => ve | 1 => vr | _ => vt)) : ED C X (.Attribute e f pos) (una (fldD k) F) :=
  pe_weak (pe_fld h hb) fun σ H Q yy0 => by
   obtain ⟨ρ, r0, q⟩ := yy0
   exact ⟨ρ, r0, pV_bind (P := fun z H => pV X (HasX C X ρ σ) z σ H Q) (fun _ h => h) (fun h => h) q fun x v H1 s1 h1 q1 => by
    cases x with
    | ob de dr dt =>
      cases h1 with
      | cl h1 =>
        cases h1 with
        | @ob a dx ve vr vt _ _ _ e1 g1 g2 g3 =>
          refine ⟨a, C, dx, _, _, rfl, msk_sub _ _ e1, c, n, hk ve vr vt, ?_⟩
          match k with
          | 0 => exact q1 _ H1 s1 g1
          | 1 => exact q1 _ H1 s1 g2
          | _ + 2 => exact q1 _ H1 s1 g3
    | _ => exact q1.elim⟩
noncomputable def flen : D → R D
  | .lst xs => .val (.int xs.length)
  | .tup xs => .val (.int xs.length)
  | .scr ns => .val (.int ns.length)
  | _ => .bad
theorem ed_len {e : Expr} {p pos : Pos} {F : Rho → R D} (h : EB C X e F) (hg : Gl X "len") (hm : X.mg "len" = none) (hst : starEach [e] X.env = (false, eval e X.env) :: starEach [] X.env := by rfl)
    (hs : ∀ t : TA, PA X [e] t → PE X (.Call (.Name "len" p) [e] [] pos) (tCB (fun xs H Q => ∃ p ys, xs = [.ref p] ∧ (SqL X.K H p ys ∨ SqT X.K H p ys) ∧ Q (.int ys.length) H) t) := by
      exact fun t ha => pe_callB call_len_seq (by assumption) (by assumption) PySem.boot_len ha) : ED C X (.Call (.Name "len" p) [e] [] pos) (una flen F) :=
  pe_weak (hs _ (pa_cons h pa_nil hst)) fun σ H Q yy1 => by
   obtain ⟨ρ, r0, q⟩ := yy1
   exact ⟨ρ, r0, pV_bind (P := fun z H => pV X (HasX C X ρ σ) z σ H Q) (fun _ h => h) (fun h => h) q fun x v H1 s1 h1 q1 => by
    cases x with
    | lst xs =>
      obtain ⟨a, vs, rfl, e1, h2⟩ := h1.lst msk_sub
      exact ⟨a, vs, rfl, .inl (SqL.of e1), q1 _ H1 s1 (by rw [h2.len]; exact .int _)⟩
    | tup xs =>
      obtain ⟨a, vs, rfl, e1, h2⟩ := h1.tup msk_sub
      exact ⟨a, vs, rfl, .inr (SqT.of e1), q1 _ H1 s1 (by rw [h2.len]; exact .int _)⟩
    | scr ns =>
      obtain ⟨a, rfl, e1⟩ := h1.scr msk_sub
      exact ⟨a, _, rfl, .inl e1, q1 _ H1 s1 (by rw [List.length_map]; exact .int _)⟩
    | _ => exact q1.elim⟩
noncomputable def fmax : List D → R D
  | [.int i, .int j] => .val (.int (if j > i then j else i))
  | _ => .bad
noncomputable def eMax (F : Rho → R (List D)) : Rho → R D := fun ρ => (F ρ).bind fmax
theorem ed_max {a b : Expr} {p pos : Pos} {F : Rho → R (List D)} (hc : X.calm = true) (h : AD C X [a, b] F) (hg : Gl X "max") (hm : X.mg "max" = none)
    (hs : ∀ t : TA, PA X [a, b] t → PE X (.Call (.Name "max" p) [a, b] [] pos) (tCB (fun xs H Q => ∃ i j, xs = [.int i, .int j] ∧ Q (.int (if j > i then j else i)) H) t) := by
      exact fun t ha => pe_callB (call_max2 (by assumption)) (by assumption) (by assumption) PySem.boot_max ha) : ED C X (.Call (.Name "max" p) [a, b] [] pos) (eMax F) :=
  pe_weak (hs _ h) fun σ H Q yy2 => by
   obtain ⟨ρ, r0, q⟩ := yy2
   exact ⟨ρ, r0, pL_bind (P := fun z H => pV X (HasX C X ρ σ) z σ H Q) (fun _ h => h) (fun h => h) q fun xs vs H1 s1 h1 q1 => by
    unfold fmax at q1
    split at q1
    · rename_i i j
      cases h1 with
      | cons a1 b1 => cases b1 with
        | cons a2 b2 => cases b2; cases a1; cases a2; exact ⟨i, j, rfl, q1 _ H1 s1 (.int _)⟩
    · exact q1.elim⟩
noncomputable def pF (Rl : Hp → List V → List D → Prop) (r : R (List D)) (σ : St) (H : Hp) (Q : VK) : Prop := match r with
  | .val xs => ∀ a vs H1, Same H H1 → H1 a = none → Rl H1 vs xs → Q (.ref a) (upd H1 a (.lst vs))
  | .exc c => XE X c σ H
  | .bad => False
variable (C X) in
noncomputable def teF (F : Rho → R (List D)) : TE := fun σ H Q => ∃ ρ, (∃ H0, RelX C X H0 ρ σ H) ∧ pF (X := X) (HasLX C X ρ σ) (F ρ) σ H Q
variable (C X) in
noncomputable def FD (e : Expr) (F : Rho → R (List D)) : Prop := PE X e (teF C X F)
noncomputable def lstR (r : R (List D)) : R D := r.bind fun xs => .val (.lst xs)
noncomputable def eLs (F : Rho → R (List D)) : Rho → R D := fun ρ => lstR (F ρ)
theorem ed_fd {e : Expr} {F : Rho → R (List D)} (h : FD C X e F) : ED C X e (eLs F) := pe_weak h fun σ H Q yy3 => by
 obtain ⟨ρ, ⟨H0, r0⟩, q⟩ := yy3
 exact ⟨ρ, ⟨H0, r0⟩, by
  unfold eLs at q
  cases e : F ρ with
  | val xs =>
    rw [e] at q
    exact fun a vs H1 s1 hn h1 => q _ _ (s1.trans (same_upd hn)) (.lst ((r0.mono s1).new hn) (h1.mono (msk_mono (same_upd hn))))
  | exc c => rw [e] at q; exact q
  | bad => rw [e] at q; exact q⟩
noncomputable def lim (r : R (List D)) : R (List D) := r.bind fun xs => if xs.length ≤ LIM then .val xs else .bad
noncomputable def fLim (F : Rho → R (List D)) : Rho → R (List D) := fun ρ => lim (F ρ)
theorem fd_lst {es : List Expr} {pos : Pos} {F : Rho → R (List D)} (h : AD C X es F) : FD C X (.List es pos) (fLim F) :=
  pe_weak (pe_lst h) fun σ H Q yy4 => by
   obtain ⟨ρ, ⟨H0, r0⟩, q⟩ := yy4
   exact ⟨ρ, ⟨H0, r0⟩, pL_bind (P := fun z H => pF (X := X) (HasLX C X ρ σ) z σ H Q) (fun _ h => h) (fun h => h) q fun xs vs H1 s1 h1 q1 => by
    split at q1
    · rename_i hl
      exact ⟨by rw [h1.len]; exact lim_le hl, fun p hp => q1 p vs H1 s1 hp h1⟩
    · exact q1.elim⟩
noncomputable def itD : D → R (List D)
  | .lst xs => .val xs
  | .tup xs => .val xs
  | .scr ns => .val (ns.map .int)
  | _ => .bad
noncomputable def fIt (F : Rho → R D) : Rho → R (List D) := fun ρ => (F ρ).bind itD
theorem fd_list {e : Expr} {p pos : Pos} {F : Rho → R D} (h : EB C X e F) (hg : Gl X "list") (hm : X.mg "list" = none) (hst : starEach [e] X.env = (false, eval e X.env) :: starEach [] X.env := by rfl)
    (hs : ∀ t : TA, PA X [e] t → PE X (.Call (.Name "list" p) [e] [] pos) (tCB (fun xs H Q => ∃ p ys, xs = [.ref p] ∧ (SqL X.K H p ys ∨ SqT X.K H p ys) ∧ ∀ l, H l = none → Q (.ref l) (upd H l (.lst ys))) t) := by
      exact fun t ha => pe_callTy call_list_of (by assumption) (by assumption) PySem.boot_list ha) : FD C X (.Call (.Name "list" p) [e] [] pos) (fIt F) :=
  pe_weak (hs _ (pa_cons h pa_nil hst)) fun σ H Q yy5 => by
   obtain ⟨ρ, r0, q⟩ := yy5
   exact ⟨ρ, r0, pV_bind (P := fun z H => pF (X := X) (HasLX C X ρ σ) z σ H Q) (fun _ h => h) (fun h => h) q fun x v H1 s1 h1 q1 => by
    cases x with
    | lst xs =>
      obtain ⟨a, vs, rfl, e1, h2⟩ := h1.lst msk_sub
      exact ⟨a, vs, rfl, .inl (SqL.of e1), fun l hl => q1 l vs H1 s1 hl h2⟩
    | tup xs =>
      obtain ⟨a, vs, rfl, e1, h2⟩ := h1.tup msk_sub
      exact ⟨a, vs, rfl, .inr (SqT.of e1), fun l hl => q1 l vs H1 s1 hl h2⟩
    | scr ns =>
      obtain ⟨a, rfl, e1⟩ := h1.scr msk_sub
      exact ⟨a, _, rfl, .inl e1, fun l hl => q1 l _ H1 s1 hl (HasL.ints ns)⟩
    | _ => exact q1.elim⟩
noncomputable def ftup : D → R D
  | .lst xs => .val (.tup xs)
  | .tup xs => .val (.tup xs)
  | _ => .bad
theorem ed_tuple {e : Expr} {p pos : Pos} {F : Rho → R D} (h : EB C X e F) (hg : Gl X "tuple") (hm : X.mg "tuple" = none) (hst : starEach [e] X.env = (false, eval e X.env) :: starEach [] X.env := by rfl)
    (hs : ∀ t : TA, PA X [e] t → PE X (.Call (.Name "tuple" p) [e] [] pos) (tCB (fun xs H Q => ∃ p ys, xs = [.ref p] ∧ ((SqL X.K H p ys ∧ ∀ l, H l = none → Q (.ref l) (upd H l (.tup ys))) ∨ (SqT X.K H p ys ∧ Q (.ref p) H))) t) := by
      exact fun t ha => pe_callTy call_tuple_of (by assumption) (by assumption) PySem.boot_tuple ha) : ED C X (.Call (.Name "tuple" p) [e] [] pos) (una ftup F) :=
  pe_weak (hs _ (pa_cons h pa_nil hst)) fun σ H Q yy6 => by
   obtain ⟨ρ, ⟨H0, r0⟩, q⟩ := yy6
   exact ⟨ρ, ⟨H0, r0⟩, pV_bind (P := fun z H => pV X (HasX C X ρ σ) z σ H Q) (fun _ h => h) (fun h => h) q fun x v H1 s1 h1 q1 => by
    cases x with
    | lst xs =>
      obtain ⟨a, vs, rfl, e1, h2⟩ := h1.lst msk_sub
      exact ⟨a, vs, rfl, .inl ⟨SqL.of e1, fun l hl => q1 _ _ (s1.trans (same_upd hl)) (.tup ((r0.mono s1).new hl) (h2.mono (msk_mono (same_upd hl))))⟩⟩
    | tup xs =>
      cases h1 with
      | cl h1 =>
        cases h1 with
        | tup e1 h2 => exact ⟨_, _, rfl, .inr ⟨SqT.of (msk_sub _ _ e1), q1 _ H1 s1 (.tup e1 h2)⟩⟩
    | _ => exact q1.elim⟩
noncomputable def sq (a b : Rho → R Out) : Rho → R Out := fun ρ => (a ρ).bind fun o => match o with
  | .nx ρ' => b ρ'
  | o => .val o
noncomputable def nxt : Rho → R Out := fun ρ => .val (.nx ρ)
noncomputable def asg (i : Nat) (e : Rho → R D) : Rho → R Out := fun ρ => (e ρ).bind fun d => .val (.nx (ρ.set i (some (.shr d))))
noncomputable def own (i : Nat) (e : Rho → R (List D)) : Rho → R Out := fun ρ => (e ρ).bind fun xs => .val (.nx (ρ.set i (some (.own xs))))
noncomputable def ret (e : Rho → R D) : Rho → R Out := fun ρ => (e ρ).bind fun d => .val (.rt d)
noncomputable def drp (e : Rho → R D) : Rho → R Out := fun ρ => (e ρ).bind fun _ => .val (.nx ρ)
noncomputable def iff (t : Rho → R Bool) (a b : Rho → R Out) : Rho → R Out := fun ρ => (t ρ).bind fun c => if c = true then a ρ else b ρ
noncomputable def bad : Rho → R Out := fun _ => .bad
theorem sds_nil : SDs C X [] nxt := pss_weak pss_nil fun D σ H yy7 => by
 obtain ⟨ρ, H0, r, q⟩ := yy7
 exact q σ H r
theorem sds_cons {st : Stmt} {rest : List Stmt} {F G : Rho → R Out} (h1 : SD C X st F) (h2 : SDs C X rest G) : SDs C X (st :: rest) (sq F G) :=
  pss_weak (pss_cons h1 h2) fun D σ H zz0 => by
    obtain ⟨ρ, H0, r, q⟩ := zz0
    refine ⟨ρ, H0, r, ?_⟩
    unfold sq at q
    cases e : F ρ with
    | val o =>
      rw [e] at q
      cases o with
      | nx ρ' => exact fun σ' H' r' => ⟨ρ', H0, r', q⟩
      | rt d => exact q
      | bk ρ' => exact q
      | ct ρ' => exact q
    | exc c => rw [e] at q; exact q
    | bad => rw [e] at q; exact q
theorem sds_one {st : Stmt} {F : Rho → R Out} (h : SD C X st F) : SDs C X [st] F := pss_one h
theorem pS_exc {H0 : Hp} {Dn : Ends} {c : Nat} {ρ : Rho} {σ : St} {H : Hp} (r : RelX C X H0 ρ σ H) (h : pS C X (.exc c) H0 Dn) : XE X c σ H := XS.xe (r.keep.trans msk_sub) h
theorem sd_set {i : Nat} {x : Str} {e : Expr} {pos pos' : Pos} {F : Rho → R D} (hN : X.N.Nodup) (hi : X.N[i]? = some x) (hx : Loc X.env.scope x) (he : ED C X e F) (hs : swapsWith e (some (.Name x pos')) pos.line X.env = pure false := by rfl)
    (hf : X.fn x = true ∨ X.env.scope.names.lookup x = some .local := by first | exact .inl rfl | exact .inr rfl | assumption) : SD C X (.Assign [.Name x pos'] e pos) (asg i F) :=
  ps_weak (ps_set hN hi hx he hs hf) fun D σ H yy8 => by
   obtain ⟨ρ, H0, r, q⟩ := yy8
   exact ⟨ρ, ⟨H0, r⟩, pV_bind (P := fun z _ => pS C X z H0 D) (fun c h => pS_exc r h) (fun h => h) q fun d v H1 s1 h1 q1 => q1 _ _ ((r.mono s1).setShr h1)⟩
theorem sd_own {i : Nat} {x : Str} {e : Expr} {pos pos' : Pos} {F : Rho → R (List D)} (hN : X.N.Nodup) (hi : X.N[i]? = some x) (hx : Loc X.env.scope x) (he : FD C X e F) (hs : swapsWith e (some (.Name x pos')) pos.line X.env = pure false := by rfl)
    (hf : X.fn x = true ∨ X.env.scope.names.lookup x = some .local := by first | exact .inl rfl | exact .inr rfl | assumption) : SD C X (.Assign [.Name x pos'] e pos) (own i F) :=
  ps_weak (ps_set hN hi hx he hs hf) fun D σ H yy9 => by
   obtain ⟨ρ, H0, r, q⟩ := yy9
   exact ⟨ρ, ⟨H0, r⟩, by
    unfold own at q
    cases e : F ρ with
    | val xs =>
      rw [e] at q
      exact fun a vs H1 s1 hn h1 => q _ _ ((r.mono s1).setOwn hn h1)
    | exc c => rw [e] at q; exact pS_exc r q
    | bad => rw [e] at q; exact q⟩
theorem sd_ret {e : Expr} {pos : Pos} {F : Rho → R D} (he : ED C X e F) : SD C X (.Return (some e) pos) (ret F) :=
  ps_weak (ps_ret he) fun D σ H yy10 => by
   obtain ⟨ρ, H0, r, q⟩ := yy10
   exact ⟨ρ, ⟨H0, r⟩, pV_bind (P := fun z _ => pS C X z H0 D) (fun c h => pS_exc r h) (fun h => h) q fun d v H1 s1 h1 q1 => q1 v H1 ((r.mono s1).keep.trans msk_sub) (h1.mono msk_sub)⟩
theorem sd_expr {e : Expr} {pos : Pos} {F : Rho → R D} (he : EB C X e F) (hs : swapsWith e none pos.line X.env = pure false := by rfl) : SD C X (.Expr e pos) (drp F) :=
  ps_weak (ps_expr he hs) fun D σ H yy11 => by
   obtain ⟨ρ, H0, r, q⟩ := yy11
   exact ⟨ρ, ⟨H0, r⟩, pV_bind (P := fun z _ => pS C X z H0 D) (fun c h => pS_exc r h) (fun h => h) q fun d v H1 s1 h1 q1 => q1 _ _ (r.mono s1)⟩
theorem sd_if {c : Expr} {a b : List Stmt} {pos : Pos} {Ft : Rho → R Bool} {Fa Fb : Rho → R Out} (hc : TD C X c Ft) (ha : SDs C X a Fa) (hb : SDs C X b Fb) : SD C X (.If c a b pos) (iff Ft Fa Fb) :=
  ps_weak (ps_if hc ha hb) fun D σ H yy12 => by
   obtain ⟨ρ, H0, r, q⟩ := yy12
   exact ⟨ρ, ⟨H0, r⟩, pB_bind (P := fun z _ => pS C X z H0 D) (fun c h => pS_exc r h) (fun h => h) q fun c H1 s1 q1 => by
    cases c with
    | true => exact iteT ⟨ρ, H0, r.mono s1, q1⟩
    | false => exact iteF ⟨ρ, H0, r.mono s1, q1⟩⟩
theorem sd_bad {st : Stmt} : SD C X st bad := ps_weak ps_never fun D σ H yy13 => by
 obtain ⟨ρ, H0, r, q⟩ := yy13
 exact q
noncomputable def frz (i : Nat) (ρ : Rho) : Rho := match ρ[i]? with
  | some (some (.own xs)) => ρ.set i (some (.shr (.lst xs)))
  | _ => ρ
theorem Rel.frz {K : PySem.W.Frag} {H0 : Hp} (r : Rel K C H0 ρ σ H) (i : Nat) : Rel K C H0 (DL.frz i ρ) σ H := by
  unfold DL.frz
  split
  · exact r.freeze ‹_›
  · exact r
theorem sds_frz {sts : List Stmt} {F : Rho → R Out} (i : Nat) (h : SDs C X sts F) : SDs C X sts (fun ρ => F (frz i ρ)) := pss_weak h fun D σ H yy16 => by
 obtain ⟨ρ, H0, r, q⟩ := yy16
 exact ⟨frz i ρ, H0, r.frz i, q⟩
noncomputable def app (i : Nat) (e : Rho → R D) : Rho → R Out := fun ρ => match ρ[i]? with
  | some (some (.own xs)) => (e ρ).bind fun d => if xs.length < LIM then .val (.nx (ρ.set i (some (.own (xs ++ [d]))))) else .bad
  | _ => .bad
theorem sd_app {i : Nat} {x : Str} {e : Expr} {p ap cp pos : Pos} {F : Rho → R D} (hv : PE X (.Name x p) (tVar i)) (he : ED C X e F)
    (hs : ∀ {to : TE} {t : TA}, PE X (.Name x p) to → PA X [e] t → PS X (.Expr (.Call (.Attribute (.Name x p) "append" ap) [e] [] cp) pos) (tDrop (tBM X.K "list" rAppend to t)) := by
      exact fun ho ha => ps_expr (pe_bm PySem.F.plainAttrs_list PySem.F.slot_list_append PySem.F.type_list_append mt_append ho ha))
    (hst : starEach [e] X.env = (false, eval e X.env) :: starEach [] X.env := by rfl) :
    SD C X (.Expr (.Call (.Attribute (.Name x p) "append" ap) [e] [] cp) pos) (app i F) :=
  ps_weak (hs hv (pa_cons he pa_nil hst)) fun D σ H zz1 => by
    obtain ⟨ρ, H0, r, q⟩ := zz1
    unfold app at q
    split at q
    · rename_i xs e0
      obtain ⟨a, vs, e1, h1, h2⟩ := r.at_ i _ e0
      refine ⟨_, e1, .inl ⟨rfl, _, SqL.of h1⟩, ρ, ⟨H0, r⟩, pV_bind (P := fun z _ => pS C X z H0 D) (fun c h => pS_exc r h) (fun h => h) q fun d v H1 s1 h3 q1 => ?_⟩
      split at q1
      · rename_i hl
        have h2' := h2.mono (msk_mono (ρ := ρ) (σ := σ) s1)
        refine ⟨a, vs, v, rfl, rfl, s1 _ _ h1, by rw [h2.len]; exact Nat.lt_of_lt_of_le hl (by decide), ?_⟩
        exact q1 _ _ ((r.mono s1).write e0 e1 (h2'.app (.cons h3 .nil)))
      · exact q1.elim
    · exact q.elim
end
end DL

set_option Elab.async false
set_option linter.all false
set_option maxRecDepth 100000
set_option maxHeartbeats 1000000
namespace DL
open PySem PySem.Spec PyProof.Rows L2
set_option autoImplicit false
noncomputable def hidK : HO → Bool
  | .lst _ => true
  | .ins _ _ _ => true
  | .own _ => true
  | .ext _ => true
  | _ => false
structure Hid (H : Hp) (h : Heap) (zs : List Addr) : Prop where
  kind : ∀ z ∈ zs, ∃ o, H z = some o ∧ hidK o = true
  insd : ∀ z ∈ zs, ∀ c dx fs, H z = some (.ins c dx fs) → dx ∈ zs
  own : ∀ z ∈ zs, ∀ a, H z = some (.own a) → a ∈ zs
  obj : ∀ z ∈ zs, ∃ o, h.get? z = some o ∧ ∀ v, o.data ≠ .cell v
noncomputable def cut (zs : List Addr) (H : Hp) : Hp := fun b => if b ∈ zs then none else H b
noncomputable def jn (zs : List Addr) (H M : Hp) : Hp := fun b => if b ∈ zs then H b else M b
theorem cut_some {zs : List Addr} {H : Hp} {b : Addr} {o : HO} : cut zs H b = some o ↔ b ∉ zs ∧ H b = some o := by
  unfold cut
  by_cases h : b ∈ zs
  · rw [if_pos h]; exact ⟨fun e => (by cases e), fun e => absurd h e.1⟩
  · rw [if_neg h]; exact ⟨fun e => ⟨h, e⟩, fun e => e.2⟩
theorem cut_in {zs : List Addr} {H : Hp} {b : Addr} (h : b ∈ zs) : cut zs H b = none := by unfold cut; rw [if_pos h]
theorem jn_in {zs : List Addr} {H M : Hp} {b : Addr} (h : b ∈ zs) : jn zs H M b = H b := by unfold jn; rw [if_pos h]
theorem jn_out {zs : List Addr} {H M : Hp} {b : Addr} (h : b ∉ zs) : jn zs H M b = M b := by unfold jn; rw [if_neg h]
section
variable {X : Cx} {pins : List (Addr × Obj)} {σ : St} {H M : Hp} {s s' : Shared} {zs : List Addr}
theorem _root_.L2.Inv.hide (I : Inv X pins σ H s) (Z : Hid H s.heap zs) : Inv X (pins ++ pinsAt zs s.heap) σ (cut zs H) s := by
  have nk : ∀ b o, H b = some o → hidK o = false → b ∉ zs := fun b o e k hb => by
    obtain ⟨o', e', k'⟩ := Z.kind b hb
    rw [e] at e'; cases e'; rw [k] at k'; cases k'
  have nz : ∀ b, H b = none → b ∉ zs := fun b e hb => by
    obtain ⟨o', e', k'⟩ := Z.kind b hb
    rw [e] at e'; cases e'
  have none' : ∀ b, H b = none → cut zs H b = none := fun b e => by unfold cut; split <;> first | rfl | exact e
  have I1 : Inv X pins σ (cut zs H) s := by
    refine ⟨I.ok, I.os, I.bare, ⟨I.base.keep, I.base.slot, fun b o q n hx => none' b (I.base.free b o q n hx), I.base.there, fun b xs e => ?_, fun b o u e => ?_, fun b ps e => ?_⟩, I.loc, I.cell, none' _ I.free, fun x c e => none' _ (I.freeC x c e), fun p hp => ?_, fun a o e => ?_, I.len⟩
    · have e1 := I.base.tups b xs e
      exact cut_some.mpr ⟨nk b _ e1 rfl, e1⟩
    · have e1 := I.base.frzs b o u e
      exact cut_some.mpr ⟨nk b _ e1 rfl, e1⟩
    · obtain ⟨more, e1⟩ := I.base.tbls b ps e
      exact ⟨more, cut_some.mpr ⟨nk b _ e1 rfl, e1⟩⟩
    · obtain ⟨h1, h2, h3⟩ := I.pin p hp
      exact ⟨h1, none' _ h2, h3⟩
    · obtain ⟨h1, h2⟩ := cut_some.mp e
      refine (I.hok a o h2).stay (fun b u _ q => q) (fun b q => cut_some.mpr ⟨fun hb => h1 (Z.own b hb a q), q⟩) fun b xs q => cut_some.mpr ⟨nk b _ q rfl, q⟩
  refine I1.pins_of fun p hp => ?_
  rcases List.mem_append.mp hp with hp | hp
  · exact I1.pin p (List.mem_append_right _ hp)
  · obtain ⟨h1, h2⟩ := of_pinsAt hp
    obtain ⟨o', e', k'⟩ := Z.kind p.1 h1
    obtain ⟨o, e, d⟩ := Z.obj p.1 h1
    rw [h2] at e; cases e
    refine ⟨h2, cut_in h1, fun z => ?_, fun z => ?_, d⟩
    · rw [z, I.free] at e'; cases e'
    · rw [I.frn _ z] at e'; cases e'
theorem _root_.L2.Inv.showG {σ' : St} {pins' pins'' : List (Addr × Obj)} (I : Inv X pins σ H s) (Z : Hid H s.heap zs) (J : Inv X pins' σ' M s') (h1 : ∀ p ∈ pinsAt zs s.heap, p ∈ pins') (h2 : ∀ p ∈ pins'', p ∈ pins' ∧ H p.1 = none) : Inv X pins'' σ' (jn zs H M) s' ∧ ∀ z ∈ zs, M z = none := by
  have nk : ∀ b o, H b = some o → hidK o = false → b ∉ zs := fun b o e k hb => by
    obtain ⟨o', e', k'⟩ := Z.kind b hb
    rw [e] at e'; cases e'; rw [k] at k'; cases k'
  have nz : ∀ b, H b = none → b ∉ zs := fun b e hb => by
    obtain ⟨o', e', k'⟩ := Z.kind b hb
    rw [e] at e'; cases e'
  have pin : ∀ z ∈ zs, ∀ o, s.heap.get? z = some o → s'.heap.get? z = some o ∧ M z = none := fun z hz o e => by
    have q := J.pin (z, o) (List.mem_append_right _ (h1 _ (mem_pinsAt hz e)))
    exact ⟨q.1, q.2.1⟩
  have mz : ∀ z ∈ zs, M z = none := fun z hz => by
    obtain ⟨o, e, _⟩ := Z.obj z hz
    exact (pin z hz o e).2
  have none' : ∀ b, H b = none → M b = none → jn zs H M b = none := fun b e e' => by rw [jn_out (nz b e)]; exact e'
  refine ⟨⟨J.ok, J.os, J.bare, ⟨J.base.keep, J.base.slot, fun b o q n hx => none' b (I.base.free b o q n hx) (J.base.free b o q n hx), J.base.there, fun b xs e => ?_, fun b o u e => ?_, fun b ps e => ?_⟩, J.loc, J.cell, none' _ I.free J.free, fun x c e => none' _ (I.freeC x c e) (J.freeC x c e), fun p hp => ?_, fun a o e => ?_, J.len⟩, mz⟩
  · rw [jn_out (nk b _ (I.base.tups b xs e) rfl)]; exact J.base.tups b xs e
  · rw [jn_out (nk b _ (I.base.frzs b o u e) rfl)]; exact J.base.frzs b o u e
  · obtain ⟨more, e1⟩ := I.base.tbls b ps e
    rw [jn_out (nk b _ e1 rfl)]; exact J.base.tbls b ps e
  · rcases List.mem_append.mp hp with hp | hp
    · obtain ⟨q1, q2, q3⟩ := J.pin p (List.mem_append_left _ hp)
      exact ⟨q1, none' _ (I.pin p (List.mem_append_left _ hp)).2.1 q2, q3⟩
    · obtain ⟨q1, q2, q3⟩ := J.pin p (List.mem_append_right _ (h2 p hp).1)
      exact ⟨q1, none' _ (h2 p hp).2 q2, q3⟩
  · by_cases ha : a ∈ zs
    · rw [jn_in ha] at e
      obtain ⟨o', e', k'⟩ := Z.kind a ha
      rw [e] at e'; cases e'
      have ok := I.hok a o e
      have same : ∀ u, s.heap.get? a = some u → s'.heap.get? a = some u := fun u q => (pin a ha u q).1
      cases o with
      | lst xs => obtain ⟨z, its, n, r, e1⟩ := ok; exact ⟨z, its, n, r, same _ e1⟩
      | own y => obtain ⟨u, e1⟩ := ok; exact ⟨u, same _ e1⟩
      | ext φ => obtain ⟨p, ⟨u, e1⟩, st⟩ := ok; exact ⟨st _ _ p fun o q => same o q, ⟨u, same _ e1⟩, st⟩
      | ins c dx fs =>
        obtain ⟨d, z, ne, e1, mA, ⟨od, es, ep, e2, rest⟩, r⟩ := ok
        have hd : dx ∈ zs := Z.insd a ha c dx fs e
        exact ⟨by rw [jn_in hd]; exact d, z, ne, same _ e1, mA, ⟨od, es, ep, (pin dx hd _ e2).1, rest⟩, r⟩
      | _ => cases k'
    · rw [jn_out ha] at e
      refine (J.hok a o e).stay (fun b u _ q => q) (fun b q => ?_) fun b xs q => ?_
      · rw [jn_out fun hb => by rw [mz b hb] at q; cases q]; exact q
      · rw [jn_out fun hb => by rw [mz b hb] at q; cases q]; exact q
theorem _root_.L2.Inv.show' (I : Inv X pins σ H s) (Z : Hid H s.heap zs) (J : Inv X (pins ++ pinsAt zs s.heap) σ M s') : Inv X pins σ (jn zs H M) s' ∧ ∀ z ∈ zs, M z = none :=
  I.showG Z J (fun p hp => List.mem_append_right _ hp) fun p hp => ⟨List.mem_append_left _ hp, (I.pin p (List.mem_append_right _ hp)).2.1⟩
end
noncomputable def owns (ρ : Rho) (σ : St) : List Addr := (List.range ρ.length).filterMap fun (i : Nat) => match ρ[i]?, σ[i]? with
  | some (some sl), some (some (V.ref b)) => if isOwn sl = true then some b else none
  | _, _ => none
theorem mem_owns {ρ : Rho} {σ : St} {b : Addr} : b ∈ owns ρ σ ↔ Own ρ σ b := by
  unfold owns
  rw [List.mem_filterMap]
  constructor
  · rintro ⟨i, _, e⟩
    split at e
    · rename_i sl c e1 e2
      split at e
      · cases e; exact ⟨i, sl, e1, ‹_›, e2⟩
      · cases e
    · cases e
  · rintro ⟨i, sl, e1, o, e2⟩
    refine ⟨i, List.mem_range.mpr (List.getElem?_eq_some_iff.mp e1).1, ?_⟩
    rw [e1, e2]
    show (if isOwn sl = true then some b else none) = some b
    rw [if_pos o]
theorem msk_cut {ρ : Rho} {σ : St} {H : Hp} : msk ρ σ H = cut (owns ρ σ) H := by
  funext b
  unfold msk cut
  by_cases h : Own ρ σ b
  · rw [if_pos h, if_pos (mem_owns.mpr h)]
  · rw [if_neg h, if_neg fun z => h (mem_owns.mp z)]
theorem Rel.hid {X : Cx} {C : Addr} {pins : List (Addr × Obj)} {σ : St} {H H0 : Hp} {s : Shared} {ρ : Rho} (r : RelX C X H0 ρ σ H) (I : Inv X pins σ H s) : Hid H s.heap (owns ρ σ) := by
  have key : ∀ z ∈ owns ρ σ, (∃ vs, H z = some (.lst vs)) ∨ ∃ xs, H z = some (dObj z xs) := fun z hz => by
    obtain ⟨i, sl, e1, o, e2⟩ := mem_owns.mp hz
    have q := r.at_ i sl e1
    cases sl with
    | shr d => cases o
    | own xs => obtain ⟨a, vs, e3, h1, _⟩ := q; rw [e2] at e3; cases e3; exact .inl ⟨vs, h1⟩
    | dic kvs => obtain ⟨a, e3, ⟨xs, h1, _⟩⟩ := q; rw [e2] at e3; cases e3; exact .inr ⟨xs, h1⟩
  refine ⟨fun z hz => ?_, fun z hz c dx fs e => ?_, fun z hz a e => ?_, fun z hz => ?_⟩
  · rcases key z hz with ⟨vs, e⟩ | ⟨vs, e⟩ <;> exact ⟨_, e, rfl⟩
  · rcases key z hz with ⟨vs, e'⟩ | ⟨vs, e'⟩ <;> (rw [e] at e'; cases e')
  · rcases key z hz with ⟨vs, e'⟩ | ⟨vs, e'⟩ <;> (rw [e] at e'; cases e')
  · rcases key z hz with ⟨vs, e'⟩ | ⟨vs, e'⟩
    · obtain ⟨_, its, n, _, e1⟩ := I.hok z _ e'
      exact ⟨_, e1, fun v q => by cases q⟩
    · obtain ⟨⟨_, _, o, es, ep, e1, _, e2, _⟩, _⟩ := I.hok z _ e'
      exact ⟨o, e1, fun v q => by rw [e2] at q; cases q⟩
noncomputable def spD (K : PySem.W.Frag) (C : Addr) (n : Nat) (den : List D → R D) : Sp := fun vs H Q _ => vs.length = n ∧ ∃ ds, HasL K C H vs ds ∧ match den ds with
  | .val d => ∀ v H', Same H H' → Has K C H' v d → Q v H'
  | _ => False
section
variable {C : Addr} {X : Cx}
noncomputable def noex : R D → R D
  | .val d => .val d
  | _ => .bad
noncomputable def cal (n : Nat) (den : List D → R D) (a : Rho → R (List D)) : Rho → R D := fun ρ => (a ρ).bind fun ds => if ds.length = n then noex (den ds) else .bad
theorem ed_call {CX : CXT} {k n : Nat} {f : Addr} {fd : FuncData} {ps : List Str} {den : List D → R D} {x : Str} {p pos : Pos} {e : Expr} {es : List Expr} {Fa : Rho → R (List D)}
    (F : FnOk X.prog X.w X.K X.mg X.base CX k f fd ps (spD X.K C n den)) (hr : Room k X.A) (hg : Gl X x) (hm : X.mg x = some (.ref f)) (hk : PySem.W.keepIn X.K (.ref f) = true) (hb : Binds X.K fd ps []) (hx : Passes CX X E0)
    (ha : AD C X (e :: es) Fa) (hdb : (x == ("__debug__" : Str)) = false := by decide) (he : starEach (e :: es) X.env = (false, eval e X.env) :: starEach es X.env := by rfl) (hpl : (backTo pos (starEach es X.env)).any (·.1) = false := by rfl) :
    ED C X (.Call (.Name x p) (e :: es) [] pos) (cal n den Fa) := by
  rintro pins s σ H Q I ⟨ρ, ⟨H0, r0⟩, q⟩
  refine wpAny_Call_Name_kw (ld_glob I hg hm ?_ hdb)
  refine PySem.W.callWith_K (h₀ := X.base) I.ok.mod.kin hk (thn (ha pos pins s σ H (fun vs H1 => ∃ ds d, ds.length = n ∧ Same H H1 ∧ HasLX C X ρ σ H1 vs ds ∧ den ds = .val d ∧ ∀ v H', Same H H' → HasX C X ρ σ H' v d → Q v H') I
    ⟨ρ, ⟨H0, r0⟩, pL_bind (P := fun z H => pV X (HasX C X ρ σ) z σ H Q) (fun _ h => h) (fun h => h) q fun ds vs H1 s1 h1 q1 => ?_⟩) fun us s1 ⟨vs, H1, I1, rv, ds, d, hl, s1', h1, e1, q1⟩ => ⟨I1.kIn, ?_⟩) he hpl
  · split at q1
    · rename_i hl
      cases e1 : den ds with
      | val d => rw [e1] at q1; exact ⟨ds, d, hl, s1, h1, e1, q1⟩
      | exc c => rw [e1] at q1; exact q1.elim
      | bad => rw [e1] at q1; exact q1.elim
    · exact q1.elim
  · have r1 := r0.mono s1'
    have Z := Rel.hid r1 I1
    have J := I1.hide Z
    refine thn (run_fn (E := E0) (Q := fun v M' => Same (cut (owns ρ σ) H1) M' ∧ Has X.K C M' v d) F hr hb .nil hx J rv ?_) fun u s2 ⟨v, M', J2, ru, sm, hv⟩ => ?_
    · rw [List.append_nil]
      refine ⟨h1.len.trans hl, ds, by rw [← msk_cut]; exact h1, ?_⟩
      rw [e1]
      exact fun v H' s2 h2 => ⟨s2, h2⟩
    · obtain ⟨I2, mz⟩ := I1.show' Z J2
      have sj : Same H1 (jn (owns ρ σ) H1 M') := fun b o eb => by
        by_cases hb : b ∈ owns ρ σ
        · rw [jn_in hb]; exact eb
        · rw [jn_out hb]; exact sm b o (cut_some.mpr ⟨hb, eb⟩)
      have em : msk ρ σ (jn (owns ρ σ) H1 M') = M' := by
        rw [msk_cut]
        funext b
        by_cases hb : b ∈ owns ρ σ
        · rw [cut_in hb, mz b hb]
        · unfold cut; rw [if_neg hb, jn_out hb]
      exact ⟨v, _, I2, ru, q1 v _ (s1'.trans sj) (by show Has _ _ (msk ρ σ _) v d; rw [em]; exact hv)⟩
end
end DL

set_option Elab.async false
set_option linter.all false
set_option maxRecDepth 100000
set_option maxHeartbeats 1000000
namespace DL
open PySem PySem.Spec PyProof.Rows L2
set_option autoImplicit false
noncomputable def tgN (i : Nat) : D → Rho → Option Rho := fun x ρ => some (ρ.set i (some (.shr x)))
noncomputable def tg2 (i j : Nat) : D → Rho → Option Rho := fun x ρ => match x with
  | .tup [a, b] => some ((ρ.set i (some (.shr a))).set j (some (.shr b)))
  | _ => none
section
variable {C : Addr} {X : Cx}
variable (C X) in
noncomputable def gtD (ix : List Nat) (T : D → Rho → Option Rho) : TG := fun v σ H Q => ∃ ρ H0 x ρ', RelX C X H0 ρ σ H ∧ HasX C X ρ σ H v x ∧ T x ρ = some ρ' ∧ ∀ σ', RelX C X H0 ρ' σ' H → (∀ j : Nat, j ∉ ix → σ'[j]? = σ[j]?) → Q σ' H
variable (C X) in
noncomputable def GD (tg : Expr) (ix : List Nat) (T : D → Rho → Option Rho) : Prop := PG X tg (gtD C X ix T)
theorem pg_weak {tg : Expr} {t t' : TG} (h : PG X tg t) (hw : ∀ v σ H Q, t' v σ H Q → t v σ H Q) : PG X tg t' := fun pins s σ H v u Q I r q => h pins s σ H v u Q I r (hw v σ H Q q)
theorem gd_name {i : Nat} {x : Str} {pos : Pos} (hN : X.N.Nodup) (hi : X.N[i]? = some x) (hx : Loc X.env.scope x) (hf : X.fn x = true ∨ X.env.scope.names.lookup x = some .local := by first | exact .inl rfl | exact .inr rfl | assumption) :
    GD C X (.Name x pos) [i] (tgN i) := pg_weak (pg_name hN hi hx hf) fun v σ H Q zz0 => by
  obtain ⟨ρ, H0, x, ρ', r, h, e, k⟩ := zz0
  cases e
  exact k _ (r.setShr h) fun j hj => List.getElem?_set_ne fun z => hj (by simp [z])
theorem gd_two {i j : Nat} {x y : Str} {px py pos : Pos} {n : Nat} (hc : X.calm = true) (h1 : PG X (.Name x px) (gName i)) (h2 : PG X (.Name y py) (gName j))
    (hs1 : (assignEach [.Name x px, .Name y py] X.env).map (·.2) = assign (.Name x px) X.env :: (assignEach [.Name y py] X.env).map (·.2) := by rfl)
    (hs2 : (assignEach [.Name y py] X.env).map (·.2) = assign (.Name y py) X.env :: (assignEach [] X.env).map (·.2) := by rfl)
    (hn : (assignEach [.Name x px, .Name y py] X.env).length = 2 := by rfl) (hst : (assignEach [.Name x px, .Name y py] X.env).findIdx? (·.1) = none := by rfl) :
    GD C X (.Tuple [.Name x px, .Name y py] n pos) [i, j] (tg2 i j) := pg_weak (pg_tup hc (pgs_cons h1 (pgs_cons h2 pgs_nil hs2) hs1) hn hst) fun v σ H Q zz1 => by
  obtain ⟨ρ, H0, d, ρ', r, h, e, k⟩ := zz1
  unfold tg2 at e
  split at e
  · rename_i a b
    cases e
    cases h with
    | tup q hl =>
      cases hl with
      | @cons va _ _ _ ha hl =>
        cases hl with
        | @cons vb _ _ _ hb hl =>
          cases hl
          refine ⟨_, _, rfl, SqT.of (msk_sub _ _ q), rfl, va, _, rfl, vb, _, rfl, rfl, ?_⟩
          have r1 := r.setShr (i := i) ha
          refine k _ (r1.setShr (i := j) (hb.mono fun b o eb => ?_)) fun m hm => ?_
          · obtain ⟨h1, h2⟩ := msk_some.mp eb
            refine msk_some.mpr ⟨fun z => ?_, h2⟩
            rcases Own.set z with z | ⟨z, _⟩
            · exact h1 z
            · cases z
          · rw [List.getElem?_set_ne fun z => hm (by simp [z]), List.getElem?_set_ne fun z => hm (by simp [z])]
  · cases e
theorem msk_set {ρ : Rho} {σ : St} {H : Hp} {i : Nat} {v : V} {d : D} : Same (msk ρ σ H) (msk (ρ.set i (some (.shr d))) (σ.set i (some v)) H) := fun b o eb => by
  obtain ⟨h1, h2⟩ := msk_some.mp eb
  refine msk_some.mpr ⟨fun z => ?_, h2⟩
  rcases Own.set z with z | ⟨z, _⟩
  · exact h1 z
  · cases z
noncomputable def par (i j : Nat) (a : Rho → R (List D)) : Rho → R Out := fun ρ => (a ρ).bind fun ds => match ds with
  | [x, y] => .val (.nx ((ρ.set i (some (.shr x))).set j (some (.shr y))))
  | _ => .bad
theorem sd_par {i j : Nat} {st : Stmt} {es : List Expr} {F : Rho → R (List D)} (ha : AD C X es F) (h : ∀ {t : TA}, PA X es t → PS X st (tPar i j t)) : SD C X st (par i j F) :=
  ps_weak (h ha) fun D σ H yy1 => by
   obtain ⟨ρ, H0, r, q⟩ := yy1
   exact ⟨ρ, ⟨H0, r⟩, pL_bind (P := fun z _ => pS C X z H0 D) (fun c h => pS_exc r h) (fun h => h) q fun ds vs H1 s1 h1 q1 => by
    split at q1
    · rename_i x y
      cases h1 with
      | @cons va _ _ _ ha hl =>
        cases hl with
        | @cons vb _ _ _ hb hl =>
          cases hl
          refine ⟨va, vb, rfl, q1 _ _ ?_⟩
          exact ((r.mono s1).setShr (i := i) ha).setShr (i := j) (hb.mono msk_set)
    · exact q1.elim⟩
structure Walk (K : PySem.W.Frag) (C : Addr) (J : It) (xs : List D) (M : Hp) : Prop where
  go : ∀ (i : Nat) x H2, Same M H2 → xs[i]? = some x → J.go i H2 ∧ ∀ v H3, J.yld i H2 v H3 → Same H2 H3 ∧ ∀ ρ σ, (∀ b, Own ρ σ b → H2 b ≠ none) → Same M (msk ρ σ H2) → Has K C (msk ρ σ H3) v x
  stop : ∀ H2, Same M H2 → J.stop xs.length H2
variable (C X) in
noncomputable def itI (F : Rho → R (List D)) : TI := fun σ H Rk => ∃ ρ, (∃ H0, RelX C X H0 ρ σ H) ∧ match F ρ with
  | .val xs => ∀ J H', Same H H' → Walk X.K C J xs (msk ρ σ H') → Rk J H'
  | .exc c => XE X c σ H
  | .bad => False
variable (C X) in
noncomputable def ID (tg iter : Expr) (F : Rho → R (List D)) : Prop := PI X tg iter (itI C X F)
theorem pi_weak {tg e : Expr} {t t' : TI} (h : PI X tg e t) (hw : ∀ σ H Q, t' σ H Q → t σ H Q) : PI X tg e t' := fun pins s σ H R I q => h pins s σ H R I (hw σ H R q)
theorem walk_list {K : PySem.W.Frag} {a : Addr} {vs : List V} {xs : List D} {M : Hp} (e : M a = some (.lst vs)) (h : HasL K C M vs xs) : Walk K C (Itl K a) xs M where
  go := fun i x H2 s hx => by
    obtain ⟨v, e1, h1⟩ := h.get hx
    refine ⟨⟨vs, v, SqL.of (s _ _ e), e1⟩, fun v' H3 y => ?_⟩
    obtain ⟨rfl, y⟩ := y
    have e2 := y vs (SqL.of (s _ _ e))
    rw [e1] at e2; cases e2
    exact ⟨Same.refl _, fun ρ σ _ m => h1.mono m⟩
  stop := fun H2 s => ⟨vs, SqL.of (s _ _ e), by rw [h.len]; exact Nat.le_refl _⟩
theorem walk_tup {K : PySem.W.Frag} {a : Addr} {vs : List V} {xs : List D} {M : Hp} (e : M a = some (.tup vs)) (h : HasL K C M vs xs) : Walk K C (Itt K a) xs M where
  go := fun i x H2 s hx => by
    obtain ⟨v, e1, h1⟩ := h.get hx
    refine ⟨⟨vs, v, SqT.of (s _ _ e), e1⟩, fun v' H3 y => ?_⟩
    obtain ⟨rfl, y⟩ := y
    have e2 := y vs (SqT.of (s _ _ e))
    rw [e1] at e2; cases e2
    exact ⟨Same.refl _, fun ρ σ _ m => h1.mono m⟩
  stop := fun H2 s => ⟨vs, SqT.of (s _ _ e), by rw [h.len]; exact Nat.le_refl _⟩
theorem walk_scr {K : PySem.W.Frag} {a : Addr} {ns : List Int} {M : Hp} (e : SqL K M a (ns.map V.int)) : Walk K C (Itl K a) (ns.map D.int) M where
  go := fun i x H2 s hx => by
    obtain ⟨v, e1, h1⟩ := (HasL.ints (K := K) (C := C) (H := M) ns).get hx
    refine ⟨⟨_, v, s.seq e, e1⟩, fun v' H3 y => ?_⟩
    obtain ⟨rfl, y⟩ := y
    have e2 := y _ (s.seq e)
    rw [e1] at e2; cases e2
    exact ⟨Same.refl _, fun ρ σ _ m => h1.mono m⟩
  stop := fun H2 s => ⟨_, s.seq e, by simp⟩
noncomputable def rng (lo : Int) (n : Nat) : List D := (List.range n).map fun (k : Nat) => D.int (lo + (k : Int))
theorem walk_rng {K : PySem.W.Frag} {lo : Int} {n : Nat} {M : Hp} : Walk K C (Itr lo n) (rng lo n) M where
  go := fun i x H2 s hx => by
    have hi : i < n := by have := (List.getElem?_eq_some_iff.mp hx).1; simpa [rng] using this
    refine ⟨hi, fun v H3 y => ?_⟩
    obtain ⟨rfl, rfl⟩ := y
    refine ⟨Same.refl _, fun ρ σ _ m => ?_⟩
    have : x = .int (lo + (i : Int)) := by
      unfold rng at hx
      rw [List.getElem?_map, List.getElem?_range hi] at hx
      exact (Option.some.inj hx).symm
    rw [this]; exact .int _
  stop := fun H2 s => by simp [rng, Itr]
theorem pi_seq {tg l : Expr} {tl : TE} (hl : PE X l tl) : PI X tg l (fun σ H R => tl σ H fun x H1 => ∃ a, x = .ref a ∧ (((∃ xs, SqL X.K H1 a xs) ∧ R (Itl X.K a) H1) ∨ ((∃ xs, SqT X.K H1 a xs) ∧ R (Itt X.K a) H1))) := by
  intro pins s σ H R I h
  refine thn (hl pins s σ H _ I h) fun v s1 zz3 => ?_
  obtain ⟨x, H1, I1, r1, q1⟩ := zz3
  obtain ⟨a, e, q1⟩ := q1
  subst e
  cases r1
  rcases q1 with ⟨⟨xs, hq⟩, q⟩ | ⟨⟨xs, hq⟩, q⟩
  · obtain ⟨its, rv, p, hz⟩ := I1.list hq
    refine wpAny_pyIter_list p.isList ?_
    refine ⟨s1.heap.objs.size, [s1.heap.objs.size], _, _, H1, rfl, I1.kept (t' := s1.toks) fun b o e => Heap.get?_push_of_some _ e, turn_list a _, ⟨_, Heap.get?_push_size _ rfl, rfl, rfl⟩, fun b hb => ?_, q⟩
    have e : b = s1.heap.objs.size := by simpa using hb
    subst e
    exact I1.fpOk (Nat.le_refl _) (I1.hok.fresh (Nat.le_refl _))
  · obtain ⟨its, rv, p, hz⟩ := I1.tuple hq
    refine wpAny_pyIter_tuple (show s1.heap.IsTuple a its.toArray from p) ?_
    refine ⟨s1.heap.objs.size, [s1.heap.objs.size], _, _, H1, rfl, I1.kept (t' := s1.toks) fun b o e => Heap.get?_push_of_some _ e, turn_tuple a _, ⟨_, Heap.get?_push_size _ rfl, rfl, rfl⟩, fun b hb => ?_, q⟩
    have e : b = s1.heap.objs.size := by simpa using hb
    subst e
    exact I1.fpOk (Nat.le_refl _) (I1.hok.fresh (Nat.le_refl _))
theorem id_seq {tg e : Expr} {F : Rho → R D} (h : ED C X e F) : ID C X tg e (fIt F) := pi_weak (pi_seq h) fun σ H R yy2 => by
 obtain ⟨ρ, ⟨H0, r⟩, q⟩ := yy2
 exact ⟨ρ, ⟨H0, r⟩, by
  unfold fIt at q
  cases e : F ρ with
  | val d =>
    rw [e] at q
    intro v H1 s1 h1
    cases h1 with
    | lst e1 h1 => exact ⟨_, rfl, .inl ⟨⟨_, SqL.of (msk_sub _ _ e1)⟩, q _ H1 s1 (walk_list e1 h1)⟩⟩
    | tup e1 h1 => exact ⟨_, rfl, .inr ⟨⟨_, SqT.of (msk_sub _ _ e1)⟩, q _ H1 s1 (walk_tup e1 h1)⟩⟩
    | scr e1 => exact ⟨_, rfl, .inl ⟨⟨_, msk_sub.seq e1⟩, q _ H1 s1 (walk_scr e1)⟩⟩
    | _ => exact q.elim
  | exc c => rw [e] at q; exact q
  | bad => rw [e] at q; exact q⟩
noncomputable def rngD : List D → R (List D)
  | [.int j] => if -(2 ^ 62) ≤ j ∧ j < 2 ^ 62 then .val (rng 0 j.toNat) else .bad
  | _ => .bad
noncomputable def fRng (F : Rho → R (List D)) : Rho → R (List D) := fun ρ => (F ρ).bind rngD
theorem id_range {tg a : Expr} {p pos : Pos} {F : Rho → R (List D)} (hg : Gl X "range") (hm : X.mg "range" = none) (ha : AD C X [a] F) (hs : starEach [a] X.env = [(false, eval a X.env)] := by rfl) :
    ID C X tg (.Call (.Name "range" p) [a] [] pos) (fRng F) := pi_weak (pi_range1 hg hm ha hs) fun σ H R yy3 => by
     obtain ⟨ρ, ⟨H0, r⟩, q⟩ := yy3
     exact ⟨ρ, ⟨H0, r⟩, by
  unfold fRng at q
  cases e : F ρ with
  | val ds =>
    rw [e] at q
    dsimp only [DL.R.bind] at q
    intro vs H1 s1 h1
    unfold rngD at q
    split at q
    · rename_i e0
      split at e0
      · rename_i j
        split at e0
        · rename_i hj
          cases e0
          cases h1 with
          | cons a b => cases a; cases b; exact ⟨j, rfl, hj.1, hj.2, q _ H1 s1 walk_rng⟩
        · cases e0
      · cases e0
    · rename_i e0
      split at e0
      · split at e0 <;> cases e0
      · cases e0
    · exact q.elim
  | exc c => rw [e] at q; exact q
  | bad => rw [e] at q; exact q⟩
noncomputable def loopD (T : D → Rho → Option Rho) (F : Rho → R Out) : List D → Rho → R Out
  | [], ρ => .val (.nx ρ)
  | x :: xs, ρ => match T x ρ with
    | some ρ1 => (F ρ1).bind fun o => match o with
      | .nx ρ2 => loopD T F xs ρ2
      | .ct ρ2 => loopD T F xs ρ2
      | .bk ρ2 => .val (.nx ρ2)
      | .rt d => .val (.rt d)
    | none => .bad
noncomputable def forS (src : Rho → R (List D)) (T : D → Rho → Option Rho) (F : Rho → R Out) : Rho → R Out := fun ρ => (src ρ).bind fun xs => loopD T F xs ρ
theorem sd_for {tg iter : Expr} {body : List Stmt} {pos : Pos} {ix : List Nat} {src : Rho → R (List D)} {T : D → Rho → Option Rho} {F : Rho → R Out} (hp : PassesOwn (model X.prog X.w) X.A X.env X.xe) (hc : X.calm = true) (hi : ID C X tg iter src) (hg : GD C X tg ix T) (hb : SDs C X body F)
    (hs : ∀ x, foldedSetIterable iter X.env x = pure x := by intro _; rfl) : SD C X (.For tg iter body [] pos) (forS src T F) :=
  ps_weak (ps_for hp hc hi hg hb hs) fun D σ H yy4 => by
   obtain ⟨ρ, H0, r, q⟩ := yy4
   exact ⟨ρ, ⟨H0, r⟩, by
    unfold forS at q
    cases e : src ρ with
    | exc c => rw [e] at q; exact pS_exc r q
    | bad => rw [e] at q; exact q
    | val xs =>
      rw [e] at q
      intro J H1 s1 wk
      have r1 := r.mono s1
      have hM : Same H0 (msk ρ σ H1) := r1.keep
      refine ⟨fun i m σ' H' => m = xs.length - i ∧ i ≤ xs.length ∧ ∃ ρ', RelX C X (msk ρ σ H1) ρ' σ' H' ∧ pS C X (loopD T F (xs.drop i) ρ') H0 D, ⟨xs.length, rfl, Nat.zero_le _, ρ, r1.rebase, q⟩, ?_⟩
      rintro i m σ' H' ⟨rfl, hi, ρ', r', q'⟩
      have sm : Same (msk ρ σ H1) H' := r'.keep.trans msk_sub
      by_cases hlt : i < xs.length
      · have ex : xs[i]? = some xs[i] := by simp [hlt]
        have ed : xs.drop i = xs[i] :: xs.drop (i + 1) := List.drop_eq_getElem_cons hlt
        rw [ed] at q'
        obtain ⟨go, yld⟩ := wk.go i _ H' sm ex
        refine .inr ⟨go, fun σ2 H2 => ∃ ρ2, RelX C X (msk ρ σ H1) ρ2 σ2 H2 ∧ pS C X (loopD T F (xs.drop (i + 1)) ρ2) H0 D, fun σ2 H2 ⟨ρ2, r2, q2⟩ => ⟨xs.length - (i + 1), by omega, rfl, hlt, ρ2, r2, q2⟩, fun v H3 y => ?_⟩
        obtain ⟨s3, hv⟩ := yld v H3 y
        have hv' := hv ρ' σ' (fun b ob => r'.ownAt ob) r'.keep
        unfold loopD at q'
        split at q'
        · rename_i ρ1 e1
          refine ⟨ρ', _, xs[i], ρ1, r'.mono s3, hv', e1, fun σ2 r2 _ => ⟨ρ1, _, r2, ?_⟩⟩
          cases eF : F ρ1 with
          | val o =>
            rw [eF] at q'
            cases o with
            | nx ρ2 => exact fun σ4 H4 r4 => ⟨ρ2, r4, q'⟩
            | ct ρ2 => exact fun σ4 H4 r4 => ⟨ρ2, r4, q'⟩
            | bk ρ2 => exact fun σ4 H4 r4 => q' σ4 H4 (r4.base hM)
            | rt d => exact fun v4 H4 s4 h4 => q' v4 H4 (hM.trans s4) h4
          | exc c => rw [eF] at q'; exact XS.mono hM q'
          | bad => rw [eF] at q'; exact q'
        · exact q'.elim
      · have ei : i = xs.length := by omega
        subst ei
        rw [List.drop_length] at q'
        exact .inl ⟨wk.stop H' sm, q' σ' H' (r'.base hM)⟩⟩
end
noncomputable def st0 (N : List Str) (ds : List D) : Rho := ds.map (fun d => some (.shr d)) ++ List.replicate (N.length - ds.length) none
noncomputable def fin : R Out → R D
  | .val (.nx _) => .val .non
  | .val (.rt d) => .val d
  | .val _ => .bad
  | .exc c => .exc c
  | .bad => .bad
theorem st0_own {N : List Str} {ds : List D} {i : Nat} {sl : Slt} (h : (st0 N ds)[i]? = some (some sl)) : ∃ d, sl = .shr d ∧ ds[i]? = some d := by
  unfold st0 at h
  by_cases hi : i < ds.length
  · rw [List.getElem?_append_left (by simpa using hi), List.getElem?_map] at h
    cases e : ds[i]? with
    | none => rw [e] at h; cases h
    | some d => rw [e] at h; cases h; exact ⟨d, rfl, rfl⟩
  · rw [List.getElem?_append_right (by simpa using hi), List.getElem?_replicate] at h
    split at h <;> cases h
theorem rel_start {K : PySem.W.Frag} {C : Addr} {H : Hp} {N : List Str} {vs : List V} {ds : List D} (h : HasL K C H vs ds) : Rel K C H (st0 N ds) (L2.start N vs) H := by
  have no : ∀ b, ¬ Own (st0 N ds) (L2.start N vs) b := fun b zz4 => by
    obtain ⟨i, sl, e, o, _⟩ := zz4
    obtain ⟨d, rfl, _⟩ := st0_own e
    cases o
  have sub : Same H (msk (st0 N ds) (L2.start N vs) H) := fun b o e => msk_some.mpr ⟨no b, e⟩
  refine ⟨?_, sub, fun i sl e => ?_, fun i j sl sl' a e o => ?_⟩
  · unfold st0 L2.start
    simp [h.len]
  · obtain ⟨d, rfl, e1⟩ := st0_own e
    obtain ⟨v, e2, h2⟩ := h.get e1
    refine ⟨v, ?_, h2.mono sub⟩
    have hi : i < vs.length := (List.getElem?_eq_some_iff.mp e2).1
    unfold L2.start
    rw [List.getElem?_append_left (by simpa using hi), List.getElem?_map, e2]
    rfl
  · obtain ⟨d, rfl, _⟩ := st0_own e
    cases o
section
variable {P : Program} {w : World} {K : PySem.W.Frag} {mg : Str → Option Value} {base : Heap} {C : Addr}
theorem def_ok {x qual : Str} {st : Stmt} {f : Addr} {fd : FuncData} {N ps : List Str} {k : Nat} {den : Rho → R Out} (F : Fun K x qual st f fd) (sc : FnScope N ps (defScope st))
    (hb : ∀ (cdv : Value) (A : Around) (outer : List Env) (s : Shared) (H : Hp) (E : XK), Room k (A.deeper (envOfC qual (defScope st) s.heap.objs.size f cdv)) →
      SDs C (cxOf CX0 P w K mg base N qual (defScope st) f cdv A outer s H E).nox (defBody st) den) :
    FnOk P w K mg base CX0 (k + 1) f fd ps (spD K C ps.length fun ds => fin (den (st0 N ds))) := by
  refine F.ok sc (fun vs H Q E h => h.1) (fun cdv A outer s H vs Q E hr h => ⟨_, hb cdv A outer s H E hr, ?_⟩)
  obtain ⟨_, ds, h, q⟩ := h
  refine ⟨st0 N ds, H, rel_start h, ?_⟩
  dsimp only at q
  cases e : den (st0 N ds) with
  | val o =>
    rw [e] at q
    cases o with
    | nx ρ' => exact fun σ' H' r => q _ H' (r.keep.trans msk_sub) .non
    | rt d => exact fun v H' s' h' => q v H' s' h'
    | bk ρ' => exact q.elim
    | ct ρ' => exact q.elim
  | exc c => rw [e] at q; exact q.elim
  | bad => rw [e] at q; exact q.elim
end
end DL

set_option Elab.async false
set_option linter.all false
set_option maxRecDepth 100000
set_option maxHeartbeats 2000000
namespace DL
open PySem PySem.Spec PyProof.Rows L2
set_option autoImplicit false
noncomputable def envC (scope : Scope) (env : Env) (L : Addr) (cs : List (Str × Addr)) : Env :=
  { scope := relabel scope env, locals := L, globals := env.globals, cells := cs, qual := env.qual, func := none, code := env.code, frame := env.frame, builtins := env.builtins }
noncomputable def isCl (o : Option NameKind) : Bool := match o with
  | some .cell => true
  | _ => false
noncomputable def kc (o : Option NameKind) : Bool := match o with
  | some .cell => true
  | some .free => true
  | _ => false
noncomputable def cxC (X : Cx) (N' : List Str) (scope : Scope) (L : Addr) (cs : List (Str × Addr)) (s : Shared) (H : Hp) (fp : List Addr) : Cx :=
  { prog := X.prog, w := X.w, K := X.K, mg := X.mg, base := X.base, A := X.A, N := N', s₀ := s, H₀ := H, env := envC scope X.env L cs, outer := X.stack, stack := X.stack, ex := fp,
    fn := fun x => isCl (scope.names.lookup x), calm := X.calm, pn := [], xe := fun _ _ => False }
noncomputable def chkI (N : List Str) (env : Env) (sc : Scope) : List Str → Nat → Bool
  | [], _ => true
  | x :: r, i => (match sc.names.lookup x with
      | some .free => (match N[i]? with | some y => y == x | none => false) && kc (env.kindOf x)
      | some .local => Nat.ble N.length i
      | some .cell => Nat.ble N.length i
      | _ => true) && chkI N env sc r (i + 1)
noncomputable def fK (env : Env) (x : Str) (k : NameKind) : Bool := match k with
  | .free => kc (env.kindOf x)
  | _ => true
noncomputable def chkF (env : Env) : List (Str × NameKind) → Bool
  | [] => true
  | p :: r => fK env p.1 p.2 && chkF env r
noncomputable def lK (k : NameKind) (o : Option NameKind) : Bool := match k, o with
  | .local, some .local => true
  | .local, _ => false
  | .free, some .free => true
  | .free, _ => false
  | .cell, some .cell => true
  | .cell, _ => false
  | _, _ => true
noncomputable def chkL (names : List (Str × NameKind)) : List (Str × NameKind) → Bool
  | [] => true
  | p :: r => lK p.2 (names.lookup p.1) && chkL names r
theorem lK_eq {k : NameKind} {o : Option NameKind} (h : lK k o = true) (hk : k = .local ∨ k = .free ∨ k = .cell) : o = some k := by
  rcases hk with rfl | rfl | rfl
  · cases o with
    | none => cases h
    | some j => cases j <;> first | rfl | cases h
  · cases o with
    | none => cases h
    | some j => cases j <;> first | rfl | cases h
  · cases o with
    | none => cases h
    | some j => cases j <;> first | rfl | cases h
noncomputable def chkC (N N' : List Str) (env : Env) (sc : Scope) : Bool := chkI N env sc N' 0 && (chkF env sc.names && (chkL sc.names sc.names && (Nat.ble N.length N'.length && (match sc.kind with | .function => true | _ => false))))
theorem kc_iff {o : Option NameKind} (h : kc o = true) : o = some .cell ∨ o = some .free := by
  unfold kc at h
  split at h <;> simp_all
theorem chkI_at {N : List Str} {env : Env} {sc : Scope} : ∀ {l : List Str} {k i : Nat} {x : Str}, chkI N env sc l k = true → l[i]? = some x →
    (sc.names.lookup x = some .free → N[k + i]? = some x ∧ kc (env.kindOf x) = true) ∧ ((sc.names.lookup x = some .local ∨ sc.names.lookup x = some .cell) → N.length ≤ k + i)
  | [], _, _, _, _, e => by simp at e
  | y :: r, k, 0, x, h, e => by
    simp at e; subst e
    rw [chkI, Bool.and_eq_true] at h
    obtain ⟨h, _⟩ := h
    refine ⟨fun z => ?_, fun z => ?_⟩
    · rw [z] at h
      simp only [Bool.and_eq_true] at h
      obtain ⟨h1, h2⟩ := h
      refine ⟨?_, h2⟩
      split at h1
      · rename_i w e1
        rw [Nat.add_zero, e1, beq_iff_eq.mp h1]
      · cases h1
    · rcases z with z | z <;> (rw [z] at h; exact Nat.le_of_ble_eq_true h)
  | y :: r, k, i + 1, x, h, e => by
    rw [chkI, Bool.and_eq_true] at h
    have q := chkI_at (k := k + 1) (i := i) (x := x) h.2 (by simpa using e)
    rw [show k + (i + 1) = k + 1 + i by omega]
    exact q
theorem chkF_at {env : Env} : ∀ {l : List (Str × NameKind)} {x : Str}, chkF env l = true → (x, NameKind.free) ∈ l → kc (env.kindOf x) = true
  | [], _, _, h => by cases h
  | p :: r, x, h, m => by
    have h : fK env p.1 p.2 = true ∧ chkF env r = true := Bool.and_eq_true_iff.mp h
    rcases List.mem_cons.mp m with e | m
    · subst e; exact h.1
    · exact chkF_at h.2 m
theorem chkL_at {names : List (Str × NameKind)} : ∀ {l : List (Str × NameKind)} {x : Str} {k : NameKind}, chkL names l = true → (x, k) ∈ l → (k = .local ∨ k = .free ∨ k = .cell) → names.lookup x = some k
  | [], _, _, _, h, _ => by cases h
  | p :: r, x, k, h, m, hk => by
    have h : lK p.2 (names.lookup p.1) = true ∧ chkL names r = true := Bool.and_eq_true_iff.mp h
    rcases List.mem_cons.mp m with e | m
    · subst e; exact lK_eq h.1 hk
    · exact chkL_at h.2 m hk
noncomputable def cSt (x : Str) (k : NameKind) (o : Option Addr) (acc : List (Str × Addr)) : List (Str × Addr) := match k, o with
  | .free, some c => (x, c) :: acc
  | _, _ => acc
noncomputable def closL (env : Env) : List (Str × NameKind) → List (Str × Addr) → List (Str × Addr)
  | [], acc => acc
  | p :: r, acc => closL env r (cSt p.1 p.2 (env.cells.lookup p.1) acc)
theorem cSt_no {x : Str} {k : NameKind} {o : Option Addr} {acc : List (Str × Addr)} (h : k ≠ .free) : cSt x k o acc = acc := by
  cases k with
  | free => exact absurd rfl h
  | _ => rfl
theorem cSt_none {x : Str} {k : NameKind} {acc : List (Str × Addr)} : cSt x k none acc = acc := by cases k <;> rfl
theorem clos_eq {env : Env} {scope : Scope} (h : ∀ x, (x, NameKind.free) ∈ scope.names → ∃ c, env.cells.lookup x = some c) : closureFor scope env = pure (closL env scope.names []) := by
  unfold closureFor
  have gen : ∀ (l : List (Str × NameKind)) (acc : List (Str × Addr)) (f : Str × NameKind → List (Str × Addr) → Sem (ForInStep (List (Str × Addr)))), (∀ x, (x, NameKind.free) ∈ l → ∃ c, env.cells.lookup x = some c) →
      (∀ n k cs, f (n, k) cs = if (k == NameKind.free) = true then (do let a ← cellOf env n; pure (ForInStep.yield ((n, a) :: cs))) else pure (ForInStep.yield cs)) → forIn l acc f = pure (closL env l acc) := by
    intro l
    induction l with
    | nil => intro acc f _ _; rfl
    | cons y r ih =>
      intro acc f hc hf
      obtain ⟨n, k⟩ := y
      rw [List.forIn_cons, hf]
      have ih' := fun acc => ih acc f (fun x hx => hc x (List.mem_cons_of_mem _ hx)) hf
      by_cases hk : k = .free
      · subst hk
        obtain ⟨c, e⟩ := hc n List.mem_cons_self
        rw [if_pos (by rfl)]
        unfold cellOf
        rw [e]
        simp only [pure_bind]
        rw [ih']
        show pure (closL env r ((n, c) :: acc)) = pure (closL env r (cSt n .free (env.cells.lookup n) acc))
        rw [e]; rfl
      · have hb : (k == NameKind.free) = false := by simpa using hk
        rw [hb, if_neg Bool.false_ne_true, pure_bind]
        show forIn r acc f = _
        rw [ih']
        show _ = pure (closL env r (cSt n k (env.cells.lookup n) acc))
        rw [cSt_no hk]
  dsimp only
  rw [gen scope.names [] _ h]
  · rfl
  · intro n k cs
    cases hb : k == NameKind.free <;> simp [hb]
theorem closL_look {env : Env} : ∀ {l : List (Str × NameKind)} {acc : List (Str × Addr)} {x : Str} {c : Addr}, (closL env l acc).lookup x = some c → (∀ c', acc.lookup x = some c' → env.cells.lookup x = some c') → env.cells.lookup x = some c
  | [], acc, x, c, e, h => h c e
  | (y, k) :: r, acc, x, c, e, h => by
    have e : (closL env r (cSt y k (env.cells.lookup y) acc)).lookup x = some c := e
    refine closL_look e fun c' e' => ?_
    by_cases hk : k = .free
    · subst hk
      cases e0 : env.cells.lookup y with
      | none => rw [e0, cSt_none] at e'; exact h c' e'
      | some c0 =>
        rw [e0] at e'
        have e' : ((y, c0) :: acc).lookup x = some c' := e'
        rw [List.lookup_cons] at e'
        cases hb : x == y with
        | true => rw [hb] at e'; cases e'; rw [beq_iff_eq.mp hb]; exact e0
        | false => rw [hb] at e'; exact h c' e'
    · rw [cSt_no hk] at e'; exact h c' e'
theorem closL_has {env : Env} {x : Str} {c : Addr} (hc : env.cells.lookup x = some c) : ∀ {l : List (Str × NameKind)} {acc : List (Str × Addr)}, ((x, NameKind.free) ∈ l ∨ acc.lookup x = some c) → (closL env l acc).lookup x = some c
  | [], acc, h => h.elim (fun z => by cases z) id
  | (y, k) :: r, acc, h => by
    show (closL env r (cSt y k (env.cells.lookup y) acc)).lookup x = some c
    refine closL_has hc ?_
    rcases h with h | h
    · rcases List.mem_cons.mp h with e | h
      · cases e
        right
        rw [hc]
        show ((x, c) :: acc).lookup x = some c
        rw [List.lookup_cons, beq_self_eq_true]
      · exact .inl h
    · right
      by_cases hk : k = .free
      · subst hk
        cases e0 : env.cells.lookup y with
        | none => rw [cSt_none]; exact h
        | some c0 =>
          show ((y, c0) :: acc).lookup x = some c
          rw [List.lookup_cons]
          cases hb : x == y with
          | true => rw [← beq_iff_eq.mp hb, hc] at e0; exact e0.symm
          | false => exact h
      · rw [cSt_no hk]; exact h
theorem cf_look : ∀ {names : List (Str × NameKind)} {n : Nat} {acc : List (Str × Addr)} {x : Str} {c : Addr}, (cellsFrom n names acc).lookup x = some c → acc.lookup x = some c ∨ (n ≤ c ∧ (x, NameKind.cell) ∈ names)
  | [], _, _, _, _, e => .inl e
  | (y, k) :: r, n, acc, x, c, e => by
    unfold cellsFrom at e
    split at e
    · rename_i hk
      rcases cf_look e with q | ⟨q, m⟩
      · rw [List.lookup_cons] at q
        cases hb : x == y with
        | true => rw [hb] at q; cases q; rw [beq_iff_eq.mp hb, beq_iff_eq.mp hk]; exact .inr ⟨Nat.le_refl _, List.mem_cons_self⟩
        | false => rw [hb] at q; exact .inl q
      · exact .inr ⟨Nat.le_of_succ_le q, List.mem_cons_of_mem _ m⟩
    · rcases cf_look e with q | ⟨q, m⟩
      · exact .inl q
      · exact .inr ⟨q, List.mem_cons_of_mem _ m⟩
theorem cf_keep : ∀ {names : List (Str × NameKind)} {n : Nat} {acc : List (Str × Addr)} {x : Str}, (x, NameKind.cell) ∉ names → (cellsFrom n names acc).lookup x = acc.lookup x
  | [], _, _, _, _ => rfl
  | (y, k) :: r, n, acc, x, h => by
    unfold cellsFrom
    split
    · rename_i hk
      rw [cf_keep fun m => h (List.mem_cons_of_mem _ m), List.lookup_cons]
      cases hb : x == y with
      | true => exact absurd (by rw [beq_iff_eq.mp hb, beq_iff_eq.mp hk]; exact List.mem_cons_self) h
      | false => rfl
    · exact cf_keep fun m => h (List.mem_cons_of_mem _ m)
theorem wp_newC {M : Model} {A : Around} {E : Value → Shared → Prop} {s : Shared} {scope : Scope} {cl : List (Str × Addr)} {env : Env} {Q : Env → Shared → Prop}
    (h : Q { scope := scope, locals := s.heap.objs.size, globals := env.globals, cells := cellsFrom (s.heap.objs.size + 1) scope.names cl, qual := env.qual, func := none, code := env.code, frame := env.frame, builtins := env.builtins }
      { s with heap := pushCells (s.heap.push { cls := .type "dict", data := .dict #[] }) scope.names }) : wpAny M A (newFunctionEnv scope env.globals cl [] env.qual none .none (some env)) Q E s := by
  simp only [newFunctionEnv, Option.isSome_some, if_true]
  refine wpAny_bind (wpAny_alloc ?_)
  refine wpAny_bind (wpAny_layCells _ (fun name kind cells => by cases hkc : kind == NameKind.cell <;> simp [hkc]) _ _ _ _ ?_)
  rw [show ({ s with heap := s.heap.push { cls := .type "dict", data := .dict #[] } } : Shared).heap.objs.size = s.heap.objs.size + 1 from Heap.size_push ..]
  exact wpAny_pure h
end DL

set_option Elab.async false
set_option linter.all false
set_option maxRecDepth 100000
set_option maxHeartbeats 2000000
namespace DL
open PySem PySem.Spec PyProof.Rows L2
set_option autoImplicit false
structure TgOk (ix : List Nat) (T : D → Rho → Option Rho) : Prop where
  len : ∀ x ρ ρ', T x ρ = some ρ' → ρ'.length = ρ.length
  out : ∀ x ρ ρ', T x ρ = some ρ' → ∀ j : Nat, j ∉ ix → ρ'[j]? = ρ[j]?
  shr : ∀ x ρ ρ', T x ρ = some ρ' → ∀ (j : Nat) sl, j ∈ ix → ρ'[j]? = some (some sl) → isOwn sl = false
theorem tgok_N {i : Nat} : TgOk [i] (tgN i) where
  len := fun x ρ ρ' e => by cases e; simp
  out := fun x ρ ρ' e j hj => by cases e; exact List.getElem?_set_ne fun z => hj (by simp [z])
  shr := fun x ρ ρ' e j sl hj h => by
    cases e
    have : j = i := by simpa using hj
    subst this
    rw [List.getElem?_set] at h
    simp only [if_true] at h
    split at h <;> cases h
    rfl
theorem shr_set {ρ : Rho} {i j : Nat} {d : D} {sl : Slt} (h : (ρ.set i (some (.shr d)))[j]? = some (some sl)) (hn : i ≠ j → isOwn sl = false) : isOwn sl = false := by
  by_cases hj : i = j
  · subst hj
    rw [List.getElem?_set] at h
    simp only [if_true] at h
    split at h <;> cases h
    rfl
  · exact hn hj
theorem tgok_2 {i j : Nat} : TgOk [i, j] (tg2 i j) where
  len := fun x ρ ρ' e => by
    unfold tg2 at e; split at e
    · cases e; simp
    · cases e
  out := fun x ρ ρ' e k hk => by
    unfold tg2 at e; split at e
    · cases e
      rw [List.getElem?_set_ne fun z => hk (by simp [z]), List.getElem?_set_ne fun z => hk (by simp [z])]
    · cases e
  shr := fun x ρ ρ' e k sl hk h => by
    unfold tg2 at e; split at e
    · cases e
      refine shr_set h fun hj => ?_
      rw [List.getElem?_set_ne hj] at h
      refine shr_set h fun hi => ?_
      simp at hk
      rcases hk with rfl | rfl
      · exact absurd rfl hi
      · exact absurd rfl hj
    · cases e
noncomputable def noE {α : Type} : R α → R α
  | .val a => .val a
  | _ => .bad
noncomputable def cmpD (T : D → Rho → Option Rho) (t : Rho → R Bool) (e : Rho → R D) : List D → Rho → R (List D)
  | [], _ => .val []
  | x :: xs, ρ => match T x ρ with
    | some ρ1 => (noE (t ρ1)).bind fun b => if b = true then (noE (e ρ1)).bind fun d => (cmpD T t e xs ρ).bind fun ds => .val (d :: ds) else cmpD T t e xs ρ
    | none => .bad
variable {C : Addr} {X : Cx}
variable (C X) in
noncomputable def IfsD (ifs : List Expr) (t : Rho → R Bool) : Prop := ∀ (pins : List (Addr × Obj)) (s : Shared) (σ : St) (H : Hp) (Q : Bool → Hp → Prop), Inv X pins σ H s → ttD C X t σ H Q →
  wpAny (model X.prog X.w) X.A (forIn ifs true fun c r => if r = true then do let ok ← isTrue c X.env (eval c X.env); pure (ForInStep.yield ok) else pure (ForInStep.yield r)) (TP X pins σ Q) X.xe s
noncomputable def tT : Rho → R Bool := fun _ => .val true
theorem ifs_nil : IfsD C X [] tT := fun pins s σ H Q I zz0 => by
  obtain ⟨ρ, r, q⟩ := zz0
  rw [List.forIn_nil]
  exact wpAny_pure ⟨H, I, q H (Same.refl _)⟩
theorem ifs_one {c : Expr} {t : Rho → R Bool} (h : TD C X c t) : IfsD C X [c] t := fun pins s σ H Q I q => by
  rw [List.forIn_cons, if_pos rfl]
  refine wpAny_bind (wpAny_bind (thn (h pins s σ H Q I q) fun b s1 z => wpAny_pure ?_))
  show wpAny _ _ (forIn [] b _) _ _ s1
  rw [List.forIn_nil]
  exact wpAny_pure z
theorem rel_ext {K : PySem.W.Frag} {H0 H : Hp} {ρ : Rho} {σ σ' : St} {m : Nat} (r : Rel K C H0 ρ σ H) (hl : σ'.length = ρ.length + m) (hp : ∀ j : Nat, j < ρ.length → σ'[j]? = σ[j]?) :
    Rel K C H0 (ρ ++ List.replicate m none) σ' H ∧ msk (ρ ++ List.replicate m none) σ' = msk ρ σ := by
  have at' : ∀ (i : Nat) sl, (ρ ++ List.replicate m none)[i]? = some (some sl) → ρ[i]? = some (some sl) ∧ i < ρ.length := fun i sl e => by
    by_cases hi : i < ρ.length
    · rw [List.getElem?_append_left hi] at e; exact ⟨e, hi⟩
    · rw [List.getElem?_append_right (by omega), List.getElem?_replicate] at e
      split at e <;> cases e
  have ow : ∀ b, Own (ρ ++ List.replicate m none) σ' b ↔ Own ρ σ b := fun b => by
    constructor
    · rintro ⟨i, sl, e, o, q⟩
      obtain ⟨e1, hi⟩ := at' i sl e
      exact ⟨i, sl, e1, o, by rw [← hp i hi]; exact q⟩
    · rintro ⟨i, sl, e, o, q⟩
      have hi : i < ρ.length := (List.getElem?_eq_some_iff.mp e).1
      exact ⟨i, sl, by rw [List.getElem?_append_left hi]; exact e, o, by rw [hp i hi]; exact q⟩
  have em : msk (ρ ++ List.replicate m none) σ' = msk ρ σ := by
    funext G b
    unfold msk
    by_cases h : Own ρ σ b
    · rw [if_pos h, if_pos ((ow b).mpr h)]
    · rw [if_neg h, if_neg fun z => h ((ow b).mp z)]
  refine ⟨⟨by simp [hl], by rw [em]; exact r.keep, fun i sl e => ?_, fun i j sl sl' a e o e' o' q q' => ?_⟩, em⟩
  · obtain ⟨e1, hi⟩ := at' i sl e
    rw [em, hp i hi]; exact r.at_ i sl e1
  · obtain ⟨e1, hi⟩ := at' i sl e
    obtain ⟨e2, hj⟩ := at' j sl' e'
    rw [hp i hi] at q; rw [hp j hj] at q'
    exact r.inj i j sl sl' a e1 o e2 o' q q'
theorem msk_tg {ρ ρ1 : Rho} {σ σ1 : St} {ix : List Nat} {T : D → Rho → Option Rho} {x : D} (t : TgOk ix T) (e : T x ρ = some ρ1) (hs : ∀ j : Nat, j ∉ ix → σ1[j]? = σ[j]?) (hix : ∀ j sl, j ∈ ix → ρ[j]? = some (some sl) → isOwn sl = false) : msk ρ1 σ1 = msk ρ σ := by
  have ow : ∀ b, Own ρ1 σ1 b ↔ Own ρ σ b := fun b => by
    constructor
    · rintro ⟨i, sl, e1, o, q⟩
      have hi : i ∉ ix := fun hi => by have := t.shr x ρ ρ1 e i sl hi e1; rw [this] at o; cases o
      rw [t.out x ρ ρ1 e i hi] at e1
      rw [hs i hi] at q
      exact ⟨i, sl, e1, o, q⟩
    · rintro ⟨i, sl, e1, o, q⟩
      have hi : i ∉ ix := fun hi => by have := hix i sl hi e1; rw [this] at o; cases o
      exact ⟨i, sl, by rw [t.out x ρ ρ1 e i hi]; exact e1, o, by rw [hs i hi]; exact q⟩
  funext G b
  unfold msk
  by_cases h : Own ρ σ b
  · rw [if_pos h, if_pos ((ow b).mpr h)]
  · rw [if_neg h, if_neg fun z => h ((ow b).mp z)]
end DL

set_option Elab.async false
set_option linter.all false
set_option maxRecDepth 100000
set_option maxHeartbeats 4000000
namespace DL
open PySem PySem.Spec PyProof.Rows L2
set_option autoImplicit false
theorem compLoop_any {prog : Program} {w : World} {A : Around} {R : Result → Shared → Prop} {s : Shared} {elt target iter : Expr} {ifs : List Expr} {scope : Scope} {pos : Pos} {it acc : Value} {env : Env} (I : Nat → Shared → Prop)
    (turn : ∀ n s, I n s → wpAny (model prog w) A (pyNext it) (fun r s₁ => match r with
      | none => R (.ok .next) s₁
      | some v => wpAny (model prog w) A (letOwnedTupleGo target it v) (fun _ s₀ => wpAny (model prog w) A (assign target env v) (fun _ s₂ =>
          wpAny (model prog w) A (forIn ifs true fun c r => if r = true then do let ok ← isTrue c env (eval c env); pure (ForInStep.yield ok) else pure (ForInStep.yield r)) (fun ok s₃ =>
            if ok = true then wpAny (model prog w) A (eval elt env) (fun x s₄ =>
              wpAny (model prog w) A (call (.builtin "list.append") [acc, x]) (fun _ s₅ => ∃ m, m < n ∧ I m s₅) (fun _ _ => False) s₄) (fun _ _ => False) s₃
            else ∃ m, m < n ∧ I m s₃) (fun _ _ => False) s₂) (fun _ _ => False) s₀) (fun _ _ => False) s₁) (fun _ _ => False) s)
    (n : Nat) (h : I n s) : codeAny (model prog w) A (.compLoop (.ListComp elt [⟨target, iter, ifs, 0⟩] scope pos) 0 it acc env) R s := by
  refine codeAny_loop rfl I (fun n s hI => ?_) n h
  show wpAny _ A ((compTurn (.ListComp elt [⟨target, iter, ifs, 0⟩] scope pos) 0 it acc env).onRaise (fun x => do noteFrame x env; theTreesLotGoes x)) _ _ s
  refine wpAny_noted ?_
  rw [compTurn_list]
  refine wpAny_bind (wpAny_standAt (wpAny_bind (wpAny_mono (turn n s hI) (fun r s₁ h₁ => ?_) fun _ _ h' => h'.elim)))
  cases r with
  | none => exact wpAny_pure h₁
  | some v =>
    refine wpAny_bind (wpAny_mono h₁ (fun _ s₀ h₀ => ?_) fun _ _ h' => h'.elim)
    refine wpAny_bind (wpAny_mono h₀ (fun _ s₂ h₂ => wpAny_bind (wpAny_mono h₂ (fun ok s₃ h₃ => ?_) fun _ _ h' => h'.elim)) fun _ _ h' => h'.elim)
    cases ok with
    | false => exact wpAny_pure ⟨rfl, h₃⟩
    | true =>
      exact wpAny_bind (wpAny_bind (wpAny_mono h₃ (fun x s₄ h₄ => wpAny_bind (wpAny_mono h₄ (fun _ s₅ h₅ => wpAny_pure (wpAny_pure ⟨rfl, h₅⟩)) fun _ _ h' => h'.elim)) fun _ _ h' => h'.elim))
theorem cf_inj : ∀ {names : List (Str × NameKind)} {n : Nat} {acc : List (Str × Addr)}, (∀ x y c, acc.lookup x = some c → acc.lookup y = some c → x = y) → (∀ x c, acc.lookup x = some c → c < n) →
    ∀ x y c, (cellsFrom n names acc).lookup x = some c → (cellsFrom n names acc).lookup y = some c → x = y
  | [], _, _, h, _ => h
  | (z, k) :: r, n, acc, h, hb => by
    unfold cellsFrom
    split
    · refine cf_inj (fun x y c e1 e2 => ?_) (fun x c e => ?_)
      · rw [List.lookup_cons] at e1 e2
        cases b1 : x == z with
        | true =>
          rw [b1] at e1; cases e1
          cases b2 : y == z with
          | true => rw [beq_iff_eq.mp b1, beq_iff_eq.mp b2]
          | false => rw [b2] at e2; exact absurd (hb y _ e2) (Nat.lt_irrefl _)
        | false =>
          rw [b1] at e1
          cases b2 : y == z with
          | true => rw [b2] at e2; cases e2; exact absurd (hb x _ e1) (Nat.lt_irrefl _)
          | false => rw [b2] at e2; exact h x y c e1 e2
      · rw [List.lookup_cons] at e
        cases b1 : x == z with
        | true => rw [b1] at e; cases e; exact Nat.lt_succ_self _
        | false => rw [b1] at e; exact Nat.lt_succ_of_lt (hb x c e)
    · exact cf_inj h hb
theorem cf_cell : ∀ {names : List (Str × NameKind)} {h : Heap} {acc : List (Str × Addr)} {x : Str} {c : Addr}, (cellsFrom h.objs.size names acc).lookup x = some c → acc.lookup x = some c ∨ (pushCells h names).IsCell c none
  | [], _, _, _, _, e => .inl e
  | (y, k) :: r, h, acc, x, c, e => by
    unfold cellsFrom at e
    unfold pushCells
    split at e
    · rename_i hk
      rw [if_pos hk]
      have e' : (cellsFrom (h.push { cls := .type "cell", data := .cell none }).objs.size r ((y, h.objs.size) :: acc)).lookup x = some c := by rw [Heap.size_push]; exact e
      rcases cf_cell e' with q | q
      · rw [List.lookup_cons] at q
        cases b1 : x == y with
        | true =>
          rw [b1] at q; cases q
          exact .inr ⟨_, pushCells_keeps r _ _ _ (Heap.get?_push_size _ rfl), rfl⟩
        | false => rw [b1] at q; exact .inl q
      · exact .inr q
    · rename_i hk
      rw [if_neg hk]
      exact cf_cell e
theorem closL_mem {env : Env} : ∀ {l : List (Str × NameKind)} {acc : List (Str × Addr)} {x : Str} {c : Addr}, (closL env l acc).lookup x = some c → acc.lookup x = some c ∨ (x, NameKind.free) ∈ l
  | [], acc, x, c, e => .inl e
  | (y, k) :: r, acc, x, c, e => by
    have e : (closL env r (cSt y k (env.cells.lookup y) acc)).lookup x = some c := e
    rcases closL_mem e with q | q
    · by_cases hk : k = .free
      · subst hk
        cases e0 : env.cells.lookup y with
        | none => rw [e0, cSt_none] at q; exact .inl q
        | some c0 =>
          rw [e0] at q
          have q : ((y, c0) :: acc).lookup x = some c := q
          rw [List.lookup_cons] at q
          cases hb : x == y with
          | true => rw [beq_iff_eq.mp hb]; exact .inr List.mem_cons_self
          | false => rw [hb] at q; exact .inl q
      · rw [cSt_no hk] at q; exact .inl q
    · exact .inr (List.mem_cons_of_mem _ q)
noncomputable def reK (env : Env) (n : Str) (k : NameKind) : NameKind := if (k == .free && env.scope.kind == .function && env.kindOf n == some .cell) = true then .cell else k
theorem re_look {env : Env} : ∀ {names : List (Str × NameKind)} {x : Str},
    (names.map fun (p : Str × NameKind) => if (p.2 == .free && env.scope.kind == .function && env.kindOf p.1 == some .cell) = true then (p.1, NameKind.cell) else (p.1, p.2)).lookup x = (names.lookup x).map (reK env x)
  | [], _ => rfl
  | (n, k) :: r, x => by
    have ih := re_look (env := env) (names := r) (x := x)
    rw [List.map_cons]
    have e : (if (k == .free && env.scope.kind == .function && env.kindOf n == some .cell) = true then (n, NameKind.cell) else (n, k)) = (n, reK env n k) := by
      unfold reK; split <;> rfl
    show List.lookup x ((if (k == .free && env.scope.kind == .function && env.kindOf n == some .cell) = true then (n, NameKind.cell) else (n, k)) :: _) = _
    rw [e, List.lookup_cons, List.lookup_cons]
    cases hb : x == n with
    | true => rw [beq_iff_eq.mp hb]; rfl
    | false => exact ih
theorem relabel_look {scope : Scope} {env : Env} {x : Str} : (relabel scope env).names.lookup x = (scope.names.lookup x).map (reK env x) := re_look
theorem reK_cases {env : Env} {x : Str} {k : NameKind} : (k = .free ∧ (reK env x k = .free ∨ reK env x k = .cell)) ∨ (k ≠ .free ∧ reK env x k = k) := by
  unfold reK
  by_cases hk : k = .free
  · subst hk; left; refine ⟨rfl, ?_⟩; split <;> simp
  · right; refine ⟨hk, ?_⟩
    have : (k == NameKind.free) = false := by simpa using hk
    rw [this]; rfl
end DL

set_option Elab.async false
set_option linter.all false
set_option maxRecDepth 100000
set_option maxHeartbeats 4000000
namespace DL
open PySem PySem.Spec PyProof.Rows L2
set_option autoImplicit false
variable {C : Addr} {X : Cx}
theorem cut_upd {a : Addr} {H : Hp} {o : HO} (h : H a = none) : cut [a] (upd H a o) = H := by
  funext b
  unfold cut
  by_cases hb : b = a
  · rw [if_pos (by simp [hb]), hb, h]
  · rw [if_neg (by simp [hb]), upd_ne hb]
theorem cut_jn {a : Addr} {H M : Hp} {o : HO} (h : M a = none) : cut [a] (upd (jn [a] H M) a o) = M := by
  funext b
  unfold cut
  by_cases hb : b = a
  · rw [if_pos (by simp [hb]), hb, h]
  · rw [if_neg (by simp [hb]), upd_ne hb, jn_out (by simp [hb])]
theorem cut_jn0 {a : Addr} {H M : Hp} (h : M a = none) : cut [a] (jn [a] H M) = M := by
  funext b
  unfold cut
  by_cases hb : b = a
  · rw [if_pos (by simp [hb]), hb, h]
  · rw [if_neg (by simp [hb]), jn_out (by simp [hb])]
theorem upd_cut {a : Addr} {H : Hp} {o : HO} (h : H a = some o) : upd (cut [a] H) a o = H := by
  funext b
  by_cases hb : b = a
  · rw [hb, upd_same, h]
  · rw [upd_ne hb]; unfold cut; rw [if_neg (by simp [hb])]
theorem comp_start {N' : List Str} {scope : Scope} {n : Nat} (hchk : chkC X.N N' X.env scope = true) (hN : N'.length = X.N.length + n)
    {pins : List (Addr × Obj)} {σ : St} {H3 : Hp} {s3 : Shared} {fp : List Addr} (I3 : Inv X pins σ H3 s3) (hfp : ∀ b ∈ fp, b < s3.heap.objs.size) (f3 : ∀ b ∈ fp, FpOk X pins H3 b) :
    Inv (cxC X N' scope s3.heap.objs.size (cellsFrom (s3.heap.objs.size + 1) scope.names (closL X.env scope.names [])) s3 H3 fp) [] (σ ++ List.replicate n none) H3
      { s3 with heap := pushCells (s3.heap.push { cls := .type "dict", data := .dict #[] }) scope.names } := by
  obtain ⟨c1, hchk⟩ := Bool.and_eq_true_iff.mp hchk
  obtain ⟨c2, hchk⟩ := Bool.and_eq_true_iff.mp hchk
  obtain ⟨c3, hchk⟩ := Bool.and_eq_true_iff.mp hchk
  obtain ⟨c4, c5⟩ := Bool.and_eq_true_iff.mp hchk
  have hkind : scope.kind = .function := by
    revert c5
    cases scope.kind <;> simp
  have keep : ∀ b o, s3.heap.get? b = some o → (pushCells (s3.heap.push { cls := .type "dict", data := .dict #[] }) scope.names).get? b = some o := fun b o e => pushCells_keeps _ _ b o (Heap.get?_push_of_some _ e)
  have I4 : Inv X pins σ H3 { s3 with heap := pushCells (s3.heap.push { cls := .type "dict", data := .dict #[] }) scope.names } := I3.kept (t' := s3.toks) keep
  have sz : (s3.heap.push { cls := .type "dict", data := .dict #[] }).objs.size = s3.heap.objs.size + 1 := Heap.size_push ..
  have fr : ∀ x, (x, NameKind.free) ∈ scope.names → ∃ c, X.env.cells.lookup x = some c := fun x hx => I3.ok.has x (kc_iff (chkF_at c2 hx))
  have cl_old : ∀ x c, (closL X.env scope.names []).lookup x = some c → X.env.cells.lookup x = some c := fun x c e => closL_look e fun c' e' => by cases e'
  have cl_lt : ∀ x c, (closL X.env scope.names []).lookup x = some c → c < s3.heap.objs.size := fun x c e => by
    obtain ⟨v, q⟩ := I3.cell x c (cl_old x c e)
    exact q.lt
  have look : ∀ x c, (cellsFrom (s3.heap.objs.size + 1) scope.names (closL X.env scope.names [])).lookup x = some c →
      X.env.cells.lookup x = some c ∨ (s3.heap.objs.size + 1 ≤ c ∧ (x, NameKind.cell) ∈ scope.names ∧ (pushCells (s3.heap.push { cls := .type "dict", data := .dict #[] }) scope.names).IsCell c none) := fun x c e => by
    rcases cf_look e with q | ⟨q, m⟩
    · exact .inl (cl_old x c q)
    · rcases cf_cell (h := s3.heap.push { cls := .type "dict", data := .dict #[] }) (by rw [sz]; exact e) with z | z
      · exact absurd (Nat.lt_of_lt_of_le (cl_lt x c z) (Nat.le_of_succ_le q)) (Nat.lt_irrefl _)
      · exact .inr ⟨q, m, z⟩
  have ok : (cxC X N' scope s3.heap.objs.size (cellsFrom (s3.heap.objs.size + 1) scope.names (closL X.env scope.names [])) s3 H3 fp).Ok := by
    refine ⟨I3.ok.mod, hkind, I3.ok.glob, I3.ok.blt, Nat.le_refl _, fun x y c e1 e2 => ?_, fun x hx => ?_, fun x c hf e => ?_, I3.ok.hd, I3.ok.frames, .inl rfl, fun b hb => ⟨?_, fun x c e => ?_⟩, I3.bs, Nat.le_trans I3.ok.bsz I3.sz, fun b o e hb => ?_, fun b hb hz => ?_, I3.stack, I3.stkFree⟩
    · exact cf_inj (fun x y c e1 e2 => I3.ok.inj x y c (cl_old x c e1) (cl_old y c e2)) (fun x c e => Nat.lt_succ_of_lt (cl_lt x c e)) x y c e1 e2
    · have hx : (relabel scope X.env).names.lookup x = some .cell ∨ (relabel scope X.env).names.lookup x = some .free := hx
      rw [relabel_look] at hx
      cases e : scope.names.lookup x with
      | none => rw [e] at hx; rcases hx with z | z <;> cases z
      | some k =>
        rw [e] at hx
        have : k = .cell ∨ k = .free := by
          rcases reK_cases (env := X.env) (x := x) (k := k) with ⟨z, _⟩ | ⟨_, z⟩
          · exact .inr z
          · rcases hx with y | y
            · left; have := Option.some.inj y; rw [z] at this; exact this
            · right; have := Option.some.inj y; rw [z] at this; exact this
        refine Option.isSome_iff_exists.mp (PySem.W.cellsFrom_some _ _ _ ?_)
        rcases this with rfl | rfl
        · exact .inl e
        · obtain ⟨c, ec⟩ := fr x (PySem.mem_of_lookup e)
          right
          rw [closL_has ec (.inl (PySem.mem_of_lookup e))]
          rfl
    · have hf : isCl (scope.names.lookup x) = true := hf
      have e0 : scope.names.lookup x = some .cell := by
        unfold isCl at hf
        split at hf
        · assumption
        · cases hf
      rcases cf_look e with q | ⟨q, m⟩
      · rcases closL_mem q with z | z
        · cases z
        · have := chkL_at c3 z (.inr (.inl rfl)); rw [e0] at this; cases this
      · exact Nat.le_of_succ_le q
    · exact Nat.ne_of_lt (hfp b hb)
    · rcases look x c e with q | ⟨q, _, _⟩
      · exact (f3 b hb).2.2.2.2.1 x c q
      · exact fun z => absurd (Nat.lt_of_lt_of_le (z ▸ hfp b hb) (Nat.le_of_succ_le q)) (Nat.lt_irrefl _)
    · rcases (f3 b hb).2.2.2.1 with z | z
      · exact I3.ok.noex b o e z
      · exact absurd (Nat.lt_of_lt_of_le (Nat.lt_of_lt_of_le (Heap.lt_size e) I3.ok.bsz) z) (Nat.lt_irrefl _)
    · have := I3.stkSub b hz
      rcases List.mem_cons.mp this with z | z
      · exact (f3 b hb).2.1 z
      · exact (f3 b hb).2.2.1 z
  refine ⟨ok, rfl, I3.bare, Un.kept keep, ⟨fun _ => none, (Heap.Ns.new s3.heap (.type "dict")).keeps (pushCells_keeps _ _), fun i x v h1 h2 h3 => ?_⟩, fun x c e => ?_, I3.hok.fresh (Nat.le_refl _), fun x c e => ?_, fun p hp => absurd (show p ∈ ([] : List (Addr × Obj)) from hp) (by simp), I4.hok, ?_⟩
  · have hl := I3.len
    have hi : i < σ.length := by
      by_cases hi : i < σ.length
      · exact hi
      · rw [List.getElem?_append_right (by omega), List.getElem?_replicate] at h2
        split at h2 <;> cases h2
    rw [List.getElem?_append_left hi] at h2
    have h3 : Vis (relabel scope X.env) x := h3
    obtain ⟨g1, g2⟩ := chkI_at c1 h1
    rw [Nat.zero_add] at g1 g2
    have e0 : scope.names.lookup x = some .free := by
      unfold Vis at h3
      rw [relabel_look] at h3
      cases e : scope.names.lookup x with
      | none => rw [e] at h3; rcases h3 with z | z | z <;> cases z
      | some k =>
        rw [e] at h3
        rcases reK_cases (env := X.env) (x := x) (k := k) with ⟨z, _⟩ | ⟨z0, z⟩
        · rw [z]
        · exfalso
          have h3 : some k = some NameKind.local ∨ some k = some NameKind.cell ∨ some k = some NameKind.free := by
            have h4 : some (reK X.env x k) = some NameKind.local ∨ some (reK X.env x k) = some NameKind.cell ∨ some (reK X.env x k) = some NameKind.free := h3
            rw [z] at h4; exact h4
          rcases h3 with y | y | y
          · have := g2 (.inl (e.trans y)); omega
          · have := g2 (.inr (e.trans y)); omega
          · exact z0 (Option.some.inj y)
    obtain ⟨e1, hk⟩ := g1 e0
    have hk := kc_iff hk
    obtain ⟨m0, hn0, hl0⟩ := I4.loc
    obtain ⟨u, ru, lk⟩ := hl0 i x v e1 h2 (.inr hk)
    refine ⟨u, ru, .inr ⟨?_, ?_⟩⟩
    · have : (relabel scope X.env).names.lookup x = some (reK X.env x .free) := by rw [relabel_look, e0]; rfl
      rcases reK_cases (env := X.env) (x := x) (k := .free) with ⟨_, z | z⟩ | ⟨z, _⟩
      · rw [z] at this; exact .inr this
      · rw [z] at this; exact .inl this
      · exact absurd rfl z
    · rcases lk with ⟨z, _⟩ | ⟨_, c, ec, q⟩
      · rcases hk with y | y <;> (rw [z] at y; cases y)
      · refine ⟨c, ?_, q⟩
        show (cellsFrom _ scope.names _).lookup x = some c
        rw [cf_keep fun m => by have := chkL_at c3 m (.inr (.inr rfl)); rw [e0] at this; cases this]
        exact closL_has ec (.inl (PySem.mem_of_lookup e0))
  · rcases look x c e with q | ⟨_, _, q⟩
    · exact I4.cell x c q
    · exact ⟨_, q⟩
  · rcases look x c e with q | ⟨q, _, _⟩
    · exact I3.freeC x c q
    · exact I3.hok.fresh (by omega)
  · show _ = N'.length
    rw [List.length_append, List.length_replicate, hN, I3.len]
noncomputable abbrev cxA (X : Cx) (N' : List Str) (scope : Scope) (a : Addr) (H2 : Hp) (s3 : Shared) (fp : List Addr) : Cx := cxC X N' scope s3.heap.objs.size (cellsFrom (s3.heap.objs.size + 1) scope.names (closL X.env scope.names [])) s3 (upd H2 a (.lst [])) fp
noncomputable def compI (C : Addr) (X Y : Cx) (T : D → Rho → Option Rho) (t : Rho → R Bool) (e : Rho → R D) (n : Nat) (a : Addr) (H2 : Hp) (σ : St) (ρ : Rho) (fp : List Addr) (tn : Nat → Heap → Prop) (xs ds : List D) (k : Nat) (s : Shared) : Prop :=
  ∃ (i : Nat) (σ' : St) (H' : Hp) (vs : List V) (ds1 ds2 : List D), k = xs.length + 1 - i ∧ i ≤ xs.length ∧
      Inv Y [] σ' H' s ∧ tn i s.heap ∧ (∀ b ∈ fp, H' b = none) ∧
      (∀ j : Nat, j < ρ.length → σ'[j]? = σ[j]?) ∧ H' a = some (.lst vs) ∧ Same H2 (cut [a] H') ∧ HasL X.K C (msk ρ σ (cut [a] H')) vs ds1 ∧
      cmpD T t e (xs.drop i) (ρ ++ List.replicate n none) = .val ds2 ∧ ds1 ++ ds2 = ds ∧ vs.length ≤ i
theorem comp_core {tg elt iter : Expr} {ifs : List Expr} {scope : Scope} {pos : Pos} {N' : List Str} {ix : List Nat} {T : D → Rho → Option Rho} {t : Rho → R Bool} {e : Rho → R D} {n : Nat}
    (hcalm : X.calm = true) (hchk : chkC X.N N' X.env scope = true) (hN : N'.length = X.N.length + n) (hix : ∀ j ∈ ix, X.N.length ≤ j) (tk : TgOk ix T)
    (hg : ∀ L cs s H fp, GD C (cxC X N' scope L cs s H fp) tg ix T) (ht : ∀ L cs s H fp, IfsD C (cxC X N' scope L cs s H fp) ifs t) (he : ∀ L cs s H fp, ED C (cxC X N' scope L cs s H fp) elt e)
    {pins : List (Addr × Obj)} {σ : St} {H2 H0 : Hp} {s2 : Shared} {ρ : Rho} {J : It} {fp : List Addr} {it : Addr} {tn : Nat → Heap → Prop} {xs ds : List D}
    (I2 : Inv X pins σ H2 s2) (r2 : RelX C X H0 ρ σ H2) (TT : Turn X.prog X.w X.K tg J fp it tn) (t0 : tn 0 s2.heap) (f2 : ∀ b ∈ fp, FpOk X pins H2 b) (wk : Walk X.K C J xs (msk ρ σ H2)) (hlen : xs.length ≤ LIM)
    (hd : cmpD T t e xs (ρ ++ List.replicate n none) = .val ds) {R : Value → Addr → Result → Shared → Prop} {E : Value → Shared → Prop}
    (hR : ∀ a L vs Mf s1, Same H2 Mf → Mf a = none → HasL X.K C (msk ρ σ Mf) vs ds → Inv X pins σ (upd Mf a (.lst vs)) s1 → (upd Mf a (.lst vs)) L = none → L ≠ X.env.locals → X.s₀.heap.objs.size ≤ L →
      (∀ x c, X.env.cells.lookup x = some c → c ≠ L) → (∀ p ∈ X.pn ++ pins, p.1 ≠ L) → (∃ m, s1.heap.Ns L m) → R (.ref a) L (.ok .next) s1) :
    wpAny (model X.prog X.w) X.A (newList []) (fun acc s₃ => wpAny (model X.prog X.w) X.A (newFunctionEnv scope X.env.globals (closL X.env scope.names []) [] X.env.qual none .none (some X.env)) (fun cenv s₄ =>
      codeAny (model X.prog X.w) X.A (.compStart (.ListComp elt [⟨tg, iter, ifs, 0⟩] scope pos) 0 (.ref it) acc { cenv with scope := relabel scope X.env }) (R acc cenv.locals) s₄) E s₃) E s2 := by
  refine wpAny_newObj_type (wp_newC ?_)
  have hfr2 : H2 s2.heap.objs.size = none := I2.fresh
  have I3 := I2.lnew (its := []) (ys := []) (t' := s2.toks) .nil (Nat.zero_le _)
  have hfp : ∀ b ∈ fp, b < s2.heap.objs.size := fun b hb => by
    obtain ⟨o, eo, _⟩ := TT.obj 0 _ t0 b hb
    exact Heap.lt_size eo
  have sz3 : (s2.heap.push { cls := .type "list", data := .seq ([] : List Value).toArray }).objs.size = s2.heap.objs.size + 1 := Heap.size_push ..
  have f3 : ∀ b ∈ fp, FpOk X pins (upd H2 s2.heap.objs.size (.lst [])) b := fun b hb => ⟨by rw [upd_ne (Nat.ne_of_lt (hfp b hb))]; exact (f2 b hb).1, (f2 b hb).2⟩
  have I4 := comp_start (n := n) hchk hN I3 (fun b hb => by rw [sz3]; exact Nat.lt_succ_of_lt (hfp b hb)) f3
  have keep : ∀ b o, s2.heap.get? b = some o → (pushCells ((s2.heap.push { cls := .type "list", data := .seq ([] : List Value).toArray }).push { cls := .type "dict", data := .dict #[] }) scope.names).get? b = some o := fun b o e =>
    pushCells_keeps _ _ b o (Heap.get?_push_of_some _ (Heap.get?_push_of_some _ e))
  have t4 : tn 0 (pushCells ((s2.heap.push { cls := .type "list", data := .seq ([] : List Value).toArray }).push { cls := .type "dict", data := .dict #[] }) scope.names) := TT.keep 0 _ _ t0 fun b hb o e => keep b o e
  generalize hs3 : ({ s2 with heap := s2.heap.push { cls := .type "list", data := .seq ([] : List Value).toArray }, toks := s2.toks } : Shared) = s3 at I3 I4
  have hH3 : ({ s2 with heap := s2.heap.push { cls := .type "list", data := .seq ([] : List Value).toArray }, toks := s2.toks } : Shared).heap = s3.heap := by rw [hs3]
  have t4' : tn 0 (pushCells (s3.heap.push { cls := .type "dict", data := .dict #[] }) scope.names) := by rw [← hH3]; exact t4
  have szL : s3.heap.objs.size = s2.heap.objs.size + 1 := by rw [← hH3]; exact sz3
  have hrl : ρ.length = X.N.length := r2.len.trans I2.len
  have loop : ∀ s4 : Shared, s4 = { s3 with heap := pushCells (s3.heap.push { cls := .type "dict", data := .dict #[] }) scope.names } →
      codeAny (model X.prog X.w) X.A (.compLoop (.ListComp elt [⟨tg, iter, ifs, 0⟩] scope pos) 0 (.ref it) (.ref s2.heap.objs.size) (envC scope X.env s3.heap.objs.size (cellsFrom (s3.heap.objs.size + 1) scope.names (closL X.env scope.names []))))
        (R (.ref s2.heap.objs.size) s3.heap.objs.size) s4 := by
    rintro s4 rfl
    refine compLoop_any (compI C X (cxA X N' scope s2.heap.objs.size H2 s3 fp) T t e n s2.heap.objs.size H2 σ ρ fp tn xs ds) ?_ (xs.length + 1)
      ⟨0, _, _, [], [], ds, rfl, Nat.zero_le _, I4, t4', fun b hb => (f3 b hb).1, fun j hj => by rw [List.getElem?_append_left (by rw [← r2.len]; exact hj)], upd_same, by rw [cut_upd hfr2]; exact Same.refl _, .nil, hd, rfl, Nat.le_refl _⟩
    rintro k s ⟨i, σ', H', vs, ds1, ds2, rfl, hi, I, tni, hfn, hpre, ha, sm, hv, hc, hds, hvl⟩
    have Z : Hid H' s.heap [s2.heap.objs.size] := by
      have one : ∀ z, z ∈ [s2.heap.objs.size] → z = s2.heap.objs.size := fun z hz => by simpa using hz
      refine ⟨fun z hz => ?_, fun z hz c dx fs q => ?_, fun z hz b q => ?_, fun z hz => ?_⟩
      · rw [one z hz]; exact ⟨_, ha, rfl⟩
      · rw [one z hz, ha] at q; cases q
      · rw [one z hz, ha] at q; cases q
      · rw [one z hz]
        obtain ⟨_, its, m, _, e1⟩ := I.hok _ _ ha
        exact ⟨_, e1, fun v q => by cases q⟩
    have J0 := I.hide Z
    have hM : ∀ b, H' b = none → cut [s2.heap.objs.size] H' b = none := fun b q => by unfold cut; split <;> first | rfl | exact q
    have stat : ∀ {pn : List (Addr × Obj)} {G : Hp}, (∀ b ∈ fp, G b = none) → (∀ p ∈ pn, ∀ b ∈ fp, p.1 ≠ b) → ∀ b ∈ fp, FpOk (cxA X N' scope s2.heap.objs.size H2 s3 fp) pn G b := fun {pn G} h1 h2 b hb =>
      ⟨h1 b hb, (I.ok.exf b hb).1, I.ok.exfs b hb, .inl hb, (I.ok.exf b hb).2, fun p hp => h2 p hp b hb⟩
    have pna : ∀ p ∈ ([] : List (Addr × Obj)) ++ pinsAt [s2.heap.objs.size] s.heap, ∀ b ∈ fp, p.1 ≠ b := fun p hp b hb z => by
      obtain ⟨q1, _⟩ := of_pinsAt (show p ∈ pinsAt [s2.heap.objs.size] s.heap from hp)
      have q2 : p.1 = s2.heap.objs.size := by simpa using q1
      rw [← q2, z, hfn b hb] at ha; cases ha
    have sM : Same (msk ρ σ H2) (cut [s2.heap.objs.size] H') := msk_sub.trans sm
    by_cases hlt : i < xs.length
    · have ex : xs[i]? = some xs[i] := by simp [hlt]
      have ed : xs.drop i = xs[i] :: xs.drop (i + 1) := List.drop_eq_getElem_cons hlt
      obtain ⟨go, yld⟩ := wk.go i _ _ sM ex
      refine wpAny_mono (TT.item (cxA X N' scope s2.heap.objs.size H2 s3 fp) rfl rfl rfl hcalm i _ s σ' _ (fun _ _ => False) J0 (stat (fun b hb => hM b (hfn b hb)) pna) tni go) (fun r s1 zz0 => ?_) fun _ _ z => z
      obtain ⟨u, hr, h1⟩ := zz0
      subst hr
      refine thn h1 fun _ s5 zz1 => ?_
      obtain ⟨x, H5, I5, r5, y5, t5, n5⟩ := zz1
      obtain ⟨s5', hx⟩ := yld x H5 y5
      have hx5 : Has X.K C (msk ρ σ H5) x xs[i] := hx ρ σ (fun b ob q => by
        have h2 := r2.ownAt ob
        cases q2 : H2 b with
        | none => exact h2 q2
        | some o => rw [sm b o q2] at q; cases q) (msk_mono sm)
      have r5' := r2.mono (sm.trans s5')
      obtain ⟨re5, em5⟩ := rel_ext (m := n) r5' (σ' := σ') (by have q := I5.len; rw [hrl]; exact q.trans hN) hpre
      have I5p := I5.pinned (stat n5 pna) (TT.obj _ _ t5)
      rw [ed] at hc
      unfold cmpD at hc
      split at hc
      · rename_i ρ1 eT
        have ix0 : ∀ (j : Nat) sl, j ∈ ix → (ρ ++ List.replicate n none)[j]? = some (some sl) → isOwn sl = false := fun j sl hj q => by
          have := hix j hj
          rw [List.getElem?_append_right (by omega), List.getElem?_replicate] at q
          split at q <;> cases q
        refine thn (hg _ _ _ _ _ _ s5 σ' H5 x u (fun σ6 H6 => H6 = H5 ∧ RelX C X H0 ρ1 σ6 H5 ∧ ∀ j : Nat, j ∉ ix → σ6[j]? = σ'[j]?) I5p r5 ⟨_, H0, xs[i], ρ1, re5, by show Has _ _ (msk _ _ _) x _; rw [em5]; exact hx5, eT, fun σ6 q1 q2 => ⟨rfl, q1, q2⟩⟩) fun _ s6 zz2 => ?_
        obtain ⟨σ6, H6, I6, eH, r6, p6⟩ := zz2
        subst eH
        have em6 : msk ρ1 σ6 = msk ρ σ := (msk_tg tk eT p6 ix0).trans em5
        have pre6 : ∀ j : Nat, j < ρ.length → σ6[j]? = σ[j]? := fun j hj => by
          rw [p6 j fun z => by have := hix j z; omega]; exact hpre j hj
        cases et : t ρ1 with
        | exc c => rw [et] at hc; cases hc
        | bad => rw [et] at hc; cases hc
        | val b =>
          rw [et] at hc
          refine thn (ht _ _ _ _ _ _ s6 σ6 H6 (fun b' H7 => b' = b ∧ Same H6 H7) I6 ⟨ρ1, ⟨H0, r6⟩, by rw [et]; exact fun H7 q => ⟨rfl, q⟩⟩) fun b' s7 zz3 => ?_
          obtain ⟨H7, I7, eb, s67⟩ := zz3
          subst eb
          have fin : ∀ {s9 : Shared} {H8 H9 : Hp} {vs' : List V} {ds1' ds2' : List D}, Inv (cxA X N' scope s2.heap.objs.size H2 s3 fp) (pinsAt fp s5.heap) σ6 H9 s9 →
              H9 s2.heap.objs.size = some (.lst vs') → cut [s2.heap.objs.size] H9 = H8 → Same H2 H8 → HasL X.K C (msk ρ σ H8) vs' ds1' → cmpD T t e (xs.drop (i + 1)) (ρ ++ List.replicate n none) = .val ds2' → ds1' ++ ds2' = ds → vs'.length ≤ i + 1 →
              ∃ m, m < xs.length + 1 - i ∧ compI C X (cxA X N' scope s2.heap.objs.size H2 s3 fp) T t e n s2.heap.objs.size H2 σ ρ fp tn xs ds m s9 := fun {s9 H8 H9 vs' ds1' ds2'} I9 g1 g2 g3 g4 g5 g6 g7 => by
            refine ⟨xs.length + 1 - (i + 1), by omega, i + 1, σ6, H9, vs', ds1', ds2', rfl, hlt, I9.pins_of fun p hp => absurd hp (by simp), TT.keep _ _ _ t5 fun b hb o eo => (I9.pin (b, o) (List.mem_append_right _ (mem_pinsAt hb eo))).1, fun b hb => ?_, pre6, g1, by rw [g2]; exact g3, by rw [g2]; exact g4, g5, g6, g7⟩
            obtain ⟨o, eo, _⟩ := TT.obj _ _ t5 b hb
            exact (I9.pin (b, o) (List.mem_append_right _ (mem_pinsAt hb eo))).2.1
          have h1pins : ∀ p ∈ pinsAt [s2.heap.objs.size] s.heap, p ∈ (([] : List (Addr × Obj)) ++ pinsAt [s2.heap.objs.size] s.heap) ++ pinsAt fp s5.heap := fun p hp => List.mem_append_left _ hp
          have h2pins : ∀ p ∈ pinsAt fp s5.heap, p ∈ (([] : List (Addr × Obj)) ++ pinsAt [s2.heap.objs.size] s.heap) ++ pinsAt fp s5.heap ∧ H' p.1 = none := fun p hp => ⟨List.mem_append_right _ hp, hfn _ (of_pinsAt hp).1⟩
          have s27 : Same H2 H7 := (sm.trans s5').trans s67
          cases b' with
          | false =>
            rw [if_neg Bool.false_ne_true]
            obtain ⟨I8, mz⟩ := I.showG Z I7 h1pins h2pins
            have hz := mz s2.heap.objs.size (by simp)
            exact fin (H8 := H7) I8 (by rw [jn_in (by simp)]; exact ha) (cut_jn0 hz) s27 (hv.mono (msk_mono (s5'.trans s67))) hc hds (Nat.le_succ_of_le hvl)
          | true =>
            rw [if_pos rfl]
            cases ee : e ρ1 with
            | exc c => rw [ee] at hc; cases hc
            | bad => rw [ee] at hc; cases hc
            | val d =>
              rw [ee] at hc
              refine thn (he _ _ _ _ _ _ s7 σ6 H7 (fun y H8 => Same H7 H8 ∧ Has X.K C (msk ρ σ H8) y d) I7 ⟨ρ1, ⟨H0, r6.mono s67⟩, by rw [ee]; exact fun y H8 q1 q2 => ⟨q1, by rw [← em6]; exact q2⟩⟩) fun yv s8 zz4 => ?_
              obtain ⟨y, H8, I8, ry, s78, hy⟩ := zz4
              obtain ⟨I9, mz⟩ := I.showG Z I8 h1pins h2pins
              have hz := mz s2.heap.objs.size (by simp)
              cases ec : cmpD T t e (xs.drop (i + 1)) (ρ ++ List.replicate n none) with
              | exc c => simp only [noE, DL.R.bind, ec, if_true] at hc; cases hc
              | bad => simp only [noE, DL.R.bind, ec, if_true] at hc; cases hc
              | val ds3 =>
                simp only [noE, DL.R.bind, ec, if_true] at hc
                cases hc
                refine thn (mt_append _ s8 σ6 _ (.ref s2.heap.objs.size) [y] (.ref s2.heap.objs.size) [yv] (fun _ H9 => H9 = upd (jn [s2.heap.objs.size] H' H8) s2.heap.objs.size (.lst (vs ++ [y]))) I9 rfl (.cons ry .nil)
                  ⟨_, vs, y, rfl, rfl, by rw [jn_in (by simp)]; exact ha, lim_lt (by omega), rfl⟩) fun _ s9 ⟨_, H9, I10, _, eH9⟩ => ?_
                subst eH9
                exact fin (H8 := H8) (ds2' := ds3) I10 upd_same (cut_jn hz) (s27.trans s78) ((hv.mono (msk_mono ((s5'.trans s67).trans s78))).app (.cons hy .nil)) ec (by rw [← hds]; simp) (by rw [List.length_append, List.length_singleton]; omega)
      · cases hc
    · have ei : i = xs.length := by omega
      subst ei
      rw [List.drop_length] at hc
      cases hc
      rw [List.append_nil] at hds
      subst hds
      refine wpAny_mono (TT.done (cxA X N' scope s2.heap.objs.size H2 s3 fp) rfl rfl rfl hcalm xs.length _ s σ' _ (fun _ _ => False) J0 (stat (fun b hb => hM b (hfn b hb)) pna) tni (wk.stop _ sM)) (fun r s1 zz5 => ?_) fun _ _ z => z
      obtain ⟨hr, I1⟩ := zz5
      subst hr
      obtain ⟨Ie, _⟩ := I.show' Z I1
      have eH : jn [s2.heap.objs.size] H' (cut [s2.heap.objs.size] H') = H' := by
        funext b
        by_cases hb : b ∈ [s2.heap.objs.size]
        · rw [jn_in hb]
        · rw [jn_out hb]; unfold cut; rw [if_neg hb]
      rw [eH] at Ie
      have IX : Inv X pins σ H' s1 := I3.call' Ie.os Ie.base Ie.hok Ie.bare fun b hb => ⟨(f3 b hb).2.2.2.1, (f3 b hb).2.1, (f3 b hb).2.2.2.2.1, (f3 b hb).2.2.2.2.2⟩
      obtain ⟨m, hm, _⟩ := Ie.loc
      have eU := upd_cut ha
      refine hR _ _ vs (cut [s2.heap.objs.size] H') s1 sm (cut_in (by simp)) hv (by rw [eU]; exact IX) (by rw [eU]; exact Ie.free) (Nat.ne_of_gt I3.lt) I3.sz (fun x c q z => ?_) (fun p hp z => ?_) ⟨m, hm⟩
      · obtain ⟨v, q⟩ := I3.cell x c q
        exact absurd (z ▸ q.lt) (Nat.lt_irrefl _)
      · exact absurd (z ▸ Heap.lt_size (I3.pin p hp).1) (Nat.lt_irrefl _)
  exact codeAny_compStart_list (loop _ rfl) (TT.self X.A 0 _ _ _ t4' (loop _ rfl))
end DL

set_option Elab.async false
set_option linter.all false
set_option maxRecDepth 100000
set_option maxHeartbeats 4000000
namespace DL
open PySem PySem.Spec PyProof.Rows L2
set_option autoImplicit false
variable {C : Addr} {X : Cx}
noncomputable def fCmp (src : Rho → R (List D)) (n : Nat) (T : D → Rho → Option Rho) (t : Rho → R Bool) (e : Rho → R D) : Rho → R (List D) := fun ρ => (src ρ).bind fun xs => if xs.length ≤ LIM then noE (cmpD T t e xs (ρ ++ List.replicate n none)) else .bad
theorem comp_src {src : Rho → R (List D)} {n : Nat} {T : D → Rho → Option Rho} {t : Rho → R Bool} {e : Rho → R D} {σ : St} {H : Hp} {Q : VK} {ρ : Rho} {H0 : Hp} (r : RelX C X H0 ρ σ H) (q : pF (X := X) (HasLX C X ρ σ) (fCmp src n T t e ρ) σ H Q) :
    itI C X src σ H fun J H2 => ∃ xs ds, Same H H2 ∧ RelX C X H0 ρ σ H2 ∧ Walk X.K C J xs (msk ρ σ H2) ∧ xs.length ≤ LIM ∧ cmpD T t e xs (ρ ++ List.replicate n none) = .val ds ∧ ∀ a vs H1, Same H2 H1 → H1 a = none → HasLX C X ρ σ H1 vs ds → Q (.ref a) (upd H1 a (.lst vs)) := by
  refine ⟨ρ, ⟨H0, r⟩, ?_⟩
  unfold fCmp at q
  cases es : src ρ with
  | exc c => rw [es] at q; exact q
  | bad => rw [es] at q; exact q
  | val xs =>
    rw [es] at q
    intro J H2 s2 wk
    simp only [DL.R.bind] at q
    split at q
    · rename_i hl
      cases ec : cmpD T t e xs (ρ ++ List.replicate n none) with
      | val ds => rw [ec] at q; exact ⟨xs, ds, s2, r.mono s2, wk, hl, ec, fun a vs H1 s1 h1 h2 => q a vs H1 (s2.trans s1) h1 h2⟩
      | exc c => rw [ec] at q; exact q.elim
      | bad => rw [ec] at q; exact q.elim
    · exact q.elim
section
variable {tg elt iter : Expr} {ifs : List Expr} {scope : Scope} {pos : Pos} {N' : List Str} {ix : List Nat} {T : D → Rho → Option Rho} {t : Rho → R Bool} {e : Rho → R D} {n : Nat} {src : Rho → R (List D)}
theorem chk_parts (hchk : chkC X.N N' X.env scope = true) : (∀ x, (x, NameKind.free) ∈ scope.names → kc (X.env.kindOf x) = true) ∧ scope.kind = .function ∧ ∀ x ∈ scope.names, x.2 = .local → scope.names.lookup x.1 = some .local := by
  obtain ⟨c1, hchk⟩ := Bool.and_eq_true_iff.mp hchk
  obtain ⟨c2, hchk⟩ := Bool.and_eq_true_iff.mp hchk
  obtain ⟨c3, hchk⟩ := Bool.and_eq_true_iff.mp hchk
  obtain ⟨c4, c5⟩ := Bool.and_eq_true_iff.mp hchk
  refine ⟨fun x hx => chkF_at c2 hx, ?_, fun x hx hl => ?_⟩
  · revert c5
    cases scope.kind <;> simp
  · obtain ⟨n, k⟩ := x
    have hl : k = .local := hl
    subst hl
    exact chkL_at c3 hx (.inl rfl)
theorem fd_comp (hcalm : X.calm = true) (hchk : chkC X.N N' X.env scope = true) (hN : N'.length = X.N.length + n) (hix : ∀ j ∈ ix, X.N.length ≤ j) (tk : TgOk ix T) (hi : ID C X tg iter src)
    (hg : ∀ L cs s H fp, GD C (cxC X N' scope L cs s H fp) tg ix T) (ht : ∀ L cs s H fp, IfsD C (cxC X N' scope L cs s H fp) ifs t) (he : ∀ L cs s H fp, ED C (cxC X N' scope L cs s H fp) elt e)
    (hs : ∀ x, foldedSetIterable iter X.env x = pure x := by intro _; rfl) : FD C X (.ListComp elt [⟨tg, iter, ifs, 0⟩] scope pos) (fCmp src n T t e) := by
  rintro pins s σ H Q I ⟨ρ, ⟨H0, r⟩, q⟩
  obtain ⟨c2, hkind, hnames⟩ := chk_parts hchk
  rw [eval_ListComp]
  refine wpAny_comprehension_free (use := none) rfl hs (clos_eq fun x hx => I.ok.has x (kc_iff (c2 x hx))) hkind hnames ?_
  show wpAny _ _ (eval iter X.env) _ _ s
  refine thn (hi pins s σ H _ I (comp_src r q)) fun v s1 h1 => thn h1 fun itv s2 zz0 => ?_
  obtain ⟨it, fp, tn, J, H2, ei, I2, TT, t0, f2, xs, ds, s2', r2, wk, hl, hd, hq⟩ := zz0
  subst ei
  refine comp_core (R := fun acc L => compPost (model X.prog X.w) X.A X.xe none (EP X pins σ Q) acc L) hcalm hchk hN hix tk hg ht he I2 r2 TT t0 f2 wk hl hd ?_
  rintro a L vs Mf s1 sf ma hv IX uL lne lsz lc lp ⟨m, hm⟩
  refine ⟨m, hm, fun h' hs' => ⟨.ref a, _, IX.turned (t' := s1.toks) (fun b o hb eo => (hs'.2 b hb).trans eo) uL lne (.inr lsz) lc lp, rfl, hq a vs Mf sf ma hv⟩⟩
theorem ps_setComp {i : Nat} {y : Str} {py spos : Pos} (hy : PG X (.Name y py) (gName i)) (hcalm : X.calm = true) (hchk : chkC X.N N' X.env scope = true) (hN : N'.length = X.N.length + n) (hix : ∀ j ∈ ix, X.N.length ≤ j) (tk : TgOk ix T) (hi : ID C X tg iter src)
    (hg : ∀ L cs s H fp, GD C (cxC X N' scope L cs s H fp) tg ix T) (ht : ∀ L cs s H fp, IfsD C (cxC X N' scope L cs s H fp) ifs t) (he : ∀ L cs s H fp, ED C (cxC X N' scope L cs s H fp) elt e)
    (hsw : swapsWith (.ListComp elt [⟨tg, iter, ifs, 0⟩] scope pos) (some (.Name y py)) spos.line X.env = pure true)
    (hs : ∀ x, foldedSetIterable iter X.env x = pure x := by intro _; rfl) : PS X (.Assign [.Name y py] (.ListComp elt [⟨tg, iter, ifs, 0⟩] scope pos) spos) (tAsg (teF C X (fCmp src n T t e)) (gName i)) := by
  rintro pins s σ H Dn I ⟨ρ, ⟨H0, r⟩, q⟩
  obtain ⟨c2, hkind, hnames⟩ := chk_parts hchk
  rw [exec_Assign_Name_used _ _ _ _ hsw]
  refine wpAny_bind (wpAny_standAt (wpAny_bind ?_))
  show wpAny _ _ (do let _ ← comprehension (.ListComp elt [⟨tg, iter, ifs, 0⟩] scope pos) scope X.env _ (newList []) false (eval iter X.env) (some (assign (.Name y py) X.env))) _ _ s
  refine wpAny_bind (wpAny_mono (wpAny_comprehension_free (use := some (assign (.Name y py) X.env)) (Q := fun _ s' => SP X pins Dn .next s') rfl hs (clos_eq fun x hx => I.ok.has x (kc_iff (c2 x hx))) hkind hnames ?_) (fun _ s' hq => wpAny_pure (wpAny_pure hq)) fun _ _ z => z)
  refine thn (hi pins s σ H _ I (comp_src r q)) fun v s1 h1 => thn h1 fun itv s2 zz1 => ?_
  obtain ⟨it, fp, tn, J, H2, ei, I2, TT, t0, f2, xs, ds, s2', r2, wk, hl, hd, hq⟩ := zz1
  subst ei
  refine comp_core (R := fun acc L => compPost (model X.prog X.w) X.A X.xe (some (assign (.Name y py) X.env)) (fun _ s' => SP X pins Dn .next s') acc L) hcalm hchk hN hix tk hg ht he I2 r2 TT t0 f2 wk hl hd ?_
  rintro a L vs Mf s1 sf ma hv IX uL lne lsz lc lp ⟨m, hm⟩
  obtain ⟨oL, esL, epL, eoL, edL, restL⟩ := id hm
  have nfs : L ∉ X.fs := fun z => by
    obtain ⟨_, o, ho, _⟩ := I.ok.funs.mem z
    exact absurd (Nat.lt_of_lt_of_le (Heap.lt_size ho) lsz) (Nat.lt_irrefl _)
  have IP : Inv X (pins ++ [(L, oL)]) σ (upd Mf a (.lst vs)) s1 := IX.pins_of fun p hp => by
    rcases List.mem_append.mp hp with hp | hp
    · exact IX.pin p (List.mem_append_right _ hp)
    · have : p = (L, oL) := by simpa using hp
      subst this
      exact ⟨eoL, uL, lne, nfs, fun v z => by rw [edL] at z; cases z⟩
  show wpAny _ _ (assign (.Name y py) X.env (.ref a)) _ _ s1
  refine thn (hy _ s1 σ _ (.ref a) (.ref a) Dn.nx IP rfl (hq a vs Mf sf ma hv)) fun _ s2 zz2 => ?_
  obtain ⟨σ', H', I', qn⟩ := zz2
  have pL := I'.pin (L, oL) (List.mem_append_right _ (List.mem_append_right _ (by simp)))
  have I'' : Inv X pins σ' H' s2 := I'.unpinned
  refine ⟨m, ⟨oL, esL, epL, pL.1, edL, restL⟩, fun h' hs' => ⟨σ', H', I''.turned (t' := s2.toks) (fun b o hb eo => (hs'.2 b hb).trans eo) pL.2.1 lne (.inr lsz) lc lp, qn⟩⟩
theorem sd_setC {i : Nat} {st : Stmt} {F : Rho → R (List D)} (h : PS X st (tAsg (teF C X F) (gName i))) : SD C X st (asg i (eLs F)) :=
  ps_weak h fun D σ H yy0 => by
   obtain ⟨ρ, H0, r, q⟩ := yy0
   exact ⟨ρ, ⟨H0, r⟩, by
    unfold asg eLs lstR at q
    cases e : F ρ with
    | val xs =>
      rw [e] at q
      exact fun a vs H1 s1 hn h1 => q _ _ ((r.mono (s1.trans (same_upd hn))).setShr (.lst ((r.mono s1).new hn) (h1.mono (msk_mono (same_upd hn)))))
    | exc c => rw [e] at q; exact pS_exc r q
    | bad => rw [e] at q; exact q⟩
theorem sd_ownC {i : Nat} {st : Stmt} {F : Rho → R (List D)} (h : PS X st (tAsg (teF C X F) (gName i))) : SD C X st (own i F) :=
  ps_weak h fun D σ H yy1 => by
   obtain ⟨ρ, H0, r, q⟩ := yy1
   exact ⟨ρ, ⟨H0, r⟩, by
    unfold own at q
    cases e : F ρ with
    | val xs =>
      rw [e] at q
      exact fun a vs H1 s1 hn h1 => q _ _ ((r.mono s1).setOwn hn h1)
    | exc c => rw [e] at q; exact pS_exc r q
    | bad => rw [e] at q; exact q⟩
end
end DL

set_option Elab.async false
set_option linter.all false
set_option maxRecDepth 100000
set_option maxHeartbeats 4000000
namespace DL
open PySem PySem.Spec PyProof.Rows L2
set_option autoImplicit false
noncomputable def eqb : Nat → D → Bool
  | _, .non => true
  | _, .bl _ => true
  | _, .int _ => true
  | n + 1, .lst xs => xs.all (eqb n)
  | n + 1, .tup xs => xs.all (eqb n)
  | _, _ => false
noncomputable def pyq : Nat → D → D → Bool
  | _, .non, .non => true
  | _, .bl a, .bl b => a == b
  | _, .bl a, .int b => (if a then 1 else 0) == b
  | _, .int a, .bl b => a == (if b then 1 else 0)
  | _, .int a, .int b => a == b
  | n + 1, .lst xs, .lst ys => decide (xs.length = ys.length) && (List.range xs.length).all fun j => pyq n (xs.getD j .non) (ys.getD j .non)
  | n + 1, .tup xs, .tup ys => decide (xs.length = ys.length) && (List.range xs.length).all fun j => pyq n (xs.getD j .non) (ys.getD j .non)
  | _, _, _ => false
theorem pyq_ll (n : Nat) (xs ys : List D) : pyq (n + 1) (.lst xs) (.lst ys) = (decide (xs.length = ys.length) && (List.range xs.length).all fun j => pyq n (xs.getD j .non) (ys.getD j .non)) := rfl
theorem pyq_tt (n : Nat) (xs ys : List D) : pyq (n + 1) (.tup xs) (.tup ys) = (decide (xs.length = ys.length) && (List.range xs.length).all fun j => pyq n (xs.getD j .non) (ys.getD j .non)) := rfl
section
variable {K : PySem.W.Frag} {C : Addr} {H : Hp}
theorem HasL.inj {n : Nat} (ih : ∀ {v : V} {x y : D}, eqb n x = true → eqb n y = true → Has K C H v x → Has K C H v y → x = y) : ∀ {vs : List V} {xs ys : List D}, xs.all (eqb n) = true → ys.all (eqb n) = true → HasL K C H vs xs → HasL K C H vs ys → xs = ys
  | _, _, _, _, _, .nil, .nil => rfl
  | _, _, _, h1, h2, .cons a b, .cons c d => by
    rw [List.all_cons, Bool.and_eq_true] at h1 h2
    rw [ih h1.1 h2.1 a c, HasL.inj ih h1.2 h2.2 b d]
theorem Has.inj : ∀ {n : Nat} {v : V} {x y : D}, eqb n x = true → eqb n y = true → Has K C H v x → Has K C H v y → x = y := by
  intro n
  induction n with
  | zero =>
    intro v x y h1 h2 a b
    cases a <;> cases b <;> first | rfl | cases h1 | cases h2
  | succ n ih =>
    intro v x y h1 h2 a b
    cases a with
    | non => cases b; rfl
    | bl _ => cases b; rfl
    | int _ => cases b; rfl
    | lst e1 g1 =>
      cases b with
      | lst e2 g2 => rw [e1] at e2; cases e2; rw [HasL.inj ih h1 h2 g1 g2]
      | tup e2 g2 => rw [e1] at e2; cases e2
      | ob _ _ _ _ => cases h2
      | scr _ => cases h2
      | exn _ => cases h2
    | tup e1 g1 =>
      cases b with
      | tup e2 g2 => rw [e1] at e2; cases e2; rw [HasL.inj ih h1 h2 g1 g2]
      | lst e2 g2 => rw [e1] at e2; cases e2
      | ob _ _ _ _ => cases h2
      | scr _ => cases h2
      | exn _ => cases h2
    | ob _ _ _ _ => cases h1
    | scr _ => cases h1
    | exn _ => cases h1
theorem pyq_refl : ∀ {n : Nat} {x : D}, eqb n x = true → pyq n x x = true := by
  intro n
  induction n with
  | zero =>
    intro x h
    cases x with
    | non => rfl
    | bl b => exact beq_self_eq_true _
    | int b => exact beq_self_eq_true _
    | _ => cases h
  | succ n ih =>
    intro x h
    cases x with
    | non => rfl
    | bl b => exact beq_self_eq_true _
    | int b => exact beq_self_eq_true _
    | lst xs =>
      rw [pyq_ll]
      simp only [decide_true, Bool.true_and, List.all_eq_true, List.mem_range]
      intro j hj
      have h : xs.all (eqb n) = true := h
      rw [List.all_eq_true] at h
      have e : xs.getD j .non = xs[j] := by simp [List.getD, List.getElem?_eq_getElem hj]
      rw [e]
      exact ih (h _ (List.getElem_mem hj))
    | tup xs =>
      rw [pyq_tt]
      simp only [decide_true, Bool.true_and, List.all_eq_true, List.mem_range]
      intro j hj
      have h : xs.all (eqb n) = true := h
      rw [List.all_eq_true] at h
      have e : xs.getD j .non = xs[j] := by simp [List.getD, List.getElem?_eq_getElem hj]
      rw [e]
      exact ih (h _ (List.getElem_mem hj))
    | ob _ _ _ => cases h
    | scr _ => cases h
    | exn _ => cases h
end
open SeqAt in
theorem el_ok {X : Cx} {C : Addr} {H : Hp} {s : Shared} {n : Nat} {A : Around} {xs ys : List D} {vs ws : List V} {its its2 : List Value}
    (ih : ∀ {x y : D} {v w : V} {u t : Value}, eqb n x = true → eqb n y = true → Has X.K C H v x → Has X.K C H w y → RelV v u → RelV w t → EqAt A s u t (pyq n x y))
    (h1 : ∀ x ∈ xs, eqb n x = true) (h2 : ∀ x ∈ ys, eqb n x = true) (g1 : HasL X.K C H vs xs) (g2 : HasL X.K C H ws ys) (r : Vals vs its) (r2 : Vals ws its2) (j : Nat) (h1' : j < its.toArray.size) (h2' : j < its2.toArray.size) :
    EqAt A s its.toArray[j] its2.toArray[j] (pyq n (xs.getD j .non) (ys.getD j .non)) := by
  have j1 : j < xs.length := by rw [← g1.len, r.length]; exact h1'
  have j2 : j < ys.length := by rw [← g2.len, r2.length]; exact h2'
  obtain ⟨vj, ev, hv⟩ := g1.get (List.getElem?_eq_getElem j1)
  obtain ⟨wj, ew, hw⟩ := g2.get (List.getElem?_eq_getElem j2)
  obtain ⟨uj, eu, ruj⟩ := r.get ev
  obtain ⟨tj, et, rtj⟩ := r2.get ew
  have eu' : its.toArray[j] = uj := (List.getElem?_eq_some_iff.mp eu).2
  have et' : its2.toArray[j] = tj := (List.getElem?_eq_some_iff.mp et).2
  have ex : xs.getD j .non = xs[j] := by rw [List.getD, List.getElem?_eq_getElem j1]; rfl
  have ey : ys.getD j .non = ys[j] := by rw [List.getD, List.getElem?_eq_getElem j2]; rfl
  rw [eu', et', ex, ey]
  exact ih (h1 _ (List.getElem_mem j1)) (h2 _ (List.getElem_mem j2)) hv hw ruj rtj
open SeqAt in
theorem all_ok {X : Cx} {C : Addr} {pins : List (Addr × Obj)} {σ : St} {H : Hp} {s : Shared} (I : Inv X pins σ H s) : ∀ (n : Nat) {A : Around} {x y : D} {v w : V} {u t : Value}, A.units + n < cLine → eqb n x = true → eqb n y = true → Has X.K C H v x → Has X.K C H w y → RelV v u → RelV w t →
    RcAt A s u t (pyq n x y) ∧ EqAt A s u t (pyq n x y) ∧ RcNeAt A s u t (!pyq n x y) := by
  intro n
  induction n with
  | zero =>
    intro A x y v w u t hu h1 h2 a b ru rt
    cases a with
    | non =>
      cases ru
      cases b with
      | non => cases rt; exact ⟨RcAt.none_none, EqAt.same _, RcNeAt.none_none⟩
      | bl _ => cases rt; exact ⟨RcAt.none_bool _, EqAt.none_bool _, RcNeAt.none_bool _⟩
      | int _ => obtain ⟨_, rfl⟩ := rt; exact ⟨RcAt.none_int _ _, EqAt.none_int _ _, RcNeAt.none_int _ _⟩
      | _ => cases h2
    | bl _ =>
      cases ru
      cases b with
      | non => cases rt; exact ⟨RcAt.bool_none _, EqAt.bool_none _, RcNeAt.bool_none _⟩
      | bl _ => cases rt; exact ⟨RcAt.bool_bool _ _, EqAt.bool_bool _ _, RcNeAt.bool_bool _ _⟩
      | int _ => obtain ⟨_, rfl⟩ := rt; exact ⟨RcAt.bool_int _ _ _, EqAt.bool_int _ _ _, RcNeAt.bool_int _ _ _⟩
      | _ => cases h2
    | int _ =>
      obtain ⟨_, rfl⟩ := ru
      cases b with
      | non => cases rt; exact ⟨RcAt.int_none _ _, EqAt.int_none _ _, RcNeAt.int_none _ _⟩
      | bl _ => cases rt; exact ⟨RcAt.int_bool _ _ _, EqAt.int_bool _ _ _, RcNeAt.int_bool _ _ _⟩
      | int _ => obtain ⟨_, rfl⟩ := rt; exact ⟨RcAt.int_int _ _ _ _, EqAt.int_int _ _ _ _, RcNeAt.int_int _ _ _ _⟩
      | _ => cases h2
    | _ => cases h1
  | succ n ih =>
    intro A x y v w u t hu h1 h2 a b ru rt
    have hA : A.units < cLine := by omega
    have hin : A.in1.units + n < cLine := by show A.units + 1 + n < cLine; omega
    cases a with
    | non =>
      cases ru
      cases b with
      | non => cases rt; exact ⟨RcAt.none_none, EqAt.same _, RcNeAt.none_none⟩
      | bl _ => cases rt; exact ⟨RcAt.none_bool _, EqAt.none_bool _, RcNeAt.none_bool _⟩
      | int _ => obtain ⟨_, rfl⟩ := rt; exact ⟨RcAt.none_int _ _, EqAt.none_int _ _, RcNeAt.none_int _ _⟩
      | lst e2 g2 => cases rt; obtain ⟨its, r, p, _⟩ := I.list (SqL.of e2); exact ⟨RcAt.none_list p.isList hA, EqAt.none_list p.isList hA, RcNeAt.none_list p.isList hA⟩
      | tup e2 g2 => cases rt; obtain ⟨its, r, p, _⟩ := I.tuple (SqT.of e2); exact ⟨RcAt.none_tuple p hA, EqAt.none_tuple p hA, RcNeAt.none_tuple p hA⟩
      | _ => cases h2
    | bl _ =>
      cases ru
      cases b with
      | non => cases rt; exact ⟨RcAt.bool_none _, EqAt.bool_none _, RcNeAt.bool_none _⟩
      | bl _ => cases rt; exact ⟨RcAt.bool_bool _ _, EqAt.bool_bool _ _, RcNeAt.bool_bool _ _⟩
      | int _ => obtain ⟨_, rfl⟩ := rt; exact ⟨RcAt.bool_int _ _ _, EqAt.bool_int _ _ _, RcNeAt.bool_int _ _ _⟩
      | lst e2 g2 => cases rt; obtain ⟨its, r, p, _⟩ := I.list (SqL.of e2); exact ⟨RcAt.bool_list _ p.isList hA, EqAt.bool_list _ p.isList hA, RcNeAt.bool_list _ p.isList hA⟩
      | tup e2 g2 => cases rt; obtain ⟨its, r, p, _⟩ := I.tuple (SqT.of e2); exact ⟨RcAt.bool_tuple _ p hA, EqAt.bool_tuple _ p hA, RcNeAt.bool_tuple _ p hA⟩
      | _ => cases h2
    | int _ =>
      obtain ⟨_, rfl⟩ := ru
      cases b with
      | non => cases rt; exact ⟨RcAt.int_none _ _, EqAt.int_none _ _, RcNeAt.int_none _ _⟩
      | bl _ => cases rt; exact ⟨RcAt.int_bool _ _ _, EqAt.int_bool _ _ _, RcNeAt.int_bool _ _ _⟩
      | int _ => obtain ⟨_, rfl⟩ := rt; exact ⟨RcAt.int_int _ _ _ _, EqAt.int_int _ _ _ _, RcNeAt.int_int _ _ _ _⟩
      | lst e2 g2 => cases rt; obtain ⟨its, r, p, _⟩ := I.list (SqL.of e2); exact ⟨RcAt.int_list _ _ p.isList hA, EqAt.int_list _ _ p.isList hA, RcNeAt.int_list _ _ p.isList hA⟩
      | tup e2 g2 => cases rt; obtain ⟨its, r, p, _⟩ := I.tuple (SqT.of e2); exact ⟨RcAt.int_tuple _ _ p hA, EqAt.int_tuple _ _ p hA, RcNeAt.int_tuple _ _ p hA⟩
      | _ => cases h2
    | @lst la vs xs e1 g1 =>
      cases ru
      obtain ⟨its, r, p, _⟩ := I.list (SqL.of e1)
      cases b with
      | non => cases rt; exact ⟨RcAt.list_none p.isList hA, EqAt.list_none p.isList hA, RcNeAt.list_none p.isList hA⟩
      | bl _ => cases rt; exact ⟨RcAt.list_bool _ p.isList hA, EqAt.list_bool _ p.isList hA, RcNeAt.list_bool _ p.isList hA⟩
      | int _ => obtain ⟨_, rfl⟩ := rt; exact ⟨RcAt.list_int _ _ p.isList hA, EqAt.list_int _ _ p.isList hA, RcNeAt.list_int _ _ p.isList hA⟩
      | tup e2 g2 => cases rt; obtain ⟨its2, r2, p2, _⟩ := I.tuple (SqT.of e2); exact ⟨RcAt.list_tuple p.isList p2 hA, EqAt.list_tuple p.isList p2 hA, RcNeAt.list_tuple p.isList p2 hA⟩
      | @lst lb ws ys e2 g2 =>
        cases rt
        obtain ⟨its2, r2, p2, _⟩ := I.list (SqL.of e2)
        have l1 : its.length = xs.length := by rw [← r.length, g1.len]
        have l2 : its2.length = ys.length := by rw [← r2.length, g2.len]
        have el := el_ok (A := A.in1) (s := s) (fun a b c d e f => (ih hin a b c d e f).2.1) (List.all_eq_true.mp h1) (List.all_eq_true.mp h2) g1 g2 r r2
        have rc : RcAt A s (.ref la) (.ref lb) (pyq (n + 1) (.lst xs) (.lst ys)) := by
          rw [pyq_ll]
          by_cases hl : xs.length = ys.length
          · have q := RcAt.lists (A := A) (s := s) (e := fun j => pyq n (xs.getD j .non) (ys.getD j .non)) p.isList p2.isList (by simp [l1, l2, hl]) hA el
            have es : its.toArray.size = xs.length := by simp [l1]
            rw [es] at q
            rw [decide_eq_true hl, Bool.true_and]
            exact q
          · rw [decide_eq_false hl, Bool.false_and]
            exact RcAt.lists_lengths p.isList p2.isList (by simp [l1, l2, hl]) hA
        have rn : RcNeAt A s (.ref la) (.ref lb) (!pyq (n + 1) (.lst xs) (.lst ys)) := by
          rw [pyq_ll]
          by_cases hl : xs.length = ys.length
          · have q := RcNeAt.lists (A := A) (s := s) (e := fun j => pyq n (xs.getD j .non) (ys.getD j .non)) p.isList p2.isList (by simp [l1, l2, hl]) hA el
            have es : its.toArray.size = xs.length := by simp [l1]
            rw [es] at q
            rw [decide_eq_true hl, Bool.true_and]
            exact q
          · rw [decide_eq_false hl, Bool.false_and]
            exact RcNeAt.lists_lengths p.isList p2.isList (by simp [l1, l2, hl]) hA
        refine ⟨rc, ?_, rn⟩
        by_cases hab : la = lb
        · subst hab
          have := Has.inj h1 h2 (.lst e1 g1) (.lst e2 g2)
          rw [this, pyq_refl h2]
          exact EqAt.same _
        · exact EqAt.of_refs hab rc
      | _ => cases h2
    | @tup la vs xs e1 g1 =>
      cases ru
      obtain ⟨its, r, p, _⟩ := I.tuple (SqT.of e1)
      cases b with
      | non => cases rt; exact ⟨RcAt.tuple_none p hA, EqAt.tuple_none p hA, RcNeAt.tuple_none p hA⟩
      | bl _ => cases rt; exact ⟨RcAt.tuple_bool _ p hA, EqAt.tuple_bool _ p hA, RcNeAt.tuple_bool _ p hA⟩
      | int _ => obtain ⟨_, rfl⟩ := rt; exact ⟨RcAt.tuple_int _ _ p hA, EqAt.tuple_int _ _ p hA, RcNeAt.tuple_int _ _ p hA⟩
      | lst e2 g2 => cases rt; obtain ⟨its2, r2, p2, _⟩ := I.list (SqL.of e2); exact ⟨RcAt.tuple_list p p2.isList hA, EqAt.tuple_list p p2.isList hA, RcNeAt.tuple_list p p2.isList hA⟩
      | @tup lb ws ys e2 g2 =>
        cases rt
        obtain ⟨its2, r2, p2, _⟩ := I.tuple (SqT.of e2)
        have l1 : its.length = xs.length := by rw [← r.length, g1.len]
        have l2 : its2.length = ys.length := by rw [← r2.length, g2.len]
        have el := el_ok (A := A.in1) (s := s) (fun a b c d e f => (ih hin a b c d e f).2.1) (List.all_eq_true.mp h1) (List.all_eq_true.mp h2) g1 g2 r r2
        have rc : RcAt A s (.ref la) (.ref lb) (pyq (n + 1) (.tup xs) (.tup ys)) := by
          rw [pyq_tt]
          have q := RcAt.tuples (A := A) (s := s) (e := fun j => pyq n (xs.getD j .non) (ys.getD j .non)) p p2 hA el
          have es : its.toArray.size = xs.length := by simp [l1]
          have es2 : its2.toArray.size = ys.length := by simp [l2]
          rw [es, es2] at q
          by_cases hl : xs.length = ys.length
          · rw [hl, Nat.min_self, beq_self_eq_true, Bool.and_true] at q
            rw [decide_eq_true hl, Bool.true_and, hl]
            exact q
          · rw [decide_eq_false hl, Bool.false_and]
            rw [show (xs.length == ys.length) = false by simpa using hl, Bool.and_false] at q
            exact q
        have rn : RcNeAt A s (.ref la) (.ref lb) (!pyq (n + 1) (.tup xs) (.tup ys)) := by
          rw [pyq_tt]
          have q := RcNeAt.tuples (A := A) (s := s) (e := fun j => pyq n (xs.getD j .non) (ys.getD j .non)) p p2 hA el
          have es : its.toArray.size = xs.length := by simp [l1]
          have es2 : its2.toArray.size = ys.length := by simp [l2]
          rw [es, es2] at q
          by_cases hl : xs.length = ys.length
          · rw [hl, Nat.min_self, beq_self_eq_true, Bool.and_true] at q
            rw [decide_eq_true hl, Bool.true_and, hl]
            exact q
          · rw [decide_eq_false hl, Bool.false_and]
            rw [show (xs.length == ys.length) = false by simpa using hl, Bool.and_false] at q
            exact q
        refine ⟨rc, ?_, rn⟩
        by_cases hab : la = lb
        · subst hab
          have := Has.inj h1 h2 (.tup e1 g1) (.tup e2 g2)
          rw [this, pyq_refl h2]
          exact EqAt.same _
        · exact EqAt.of_refs hab rc
      | _ => cases h2
    | _ => cases h1
open SeqAt in
theorem eq_ok {X : Cx} {C : Addr} {pins : List (Addr × Obj)} {σ : St} {H : Hp} {s : Shared} (I : Inv X pins σ H s) : ∀ (n : Nat) {A : Around} {x y : D} {v w : V} {u t : Value}, A.units + n < cLine → eqb n x = true → eqb n y = true → Has X.K C H v x → Has X.K C H w y → RelV v u → RelV w t →
    RcAt A s u t (pyq n x y) ∧ EqAt A s u t (pyq n x y) :=
  fun n _ _ _ _ _ _ _ hu h1 h2 a b c d => ⟨(all_ok I n hu h1 h2 a b c d).1, (all_ok I n hu h1 h2 a b c d).2.1⟩
open SeqAt in
theorem ne_ok {X : Cx} {C : Addr} {pins : List (Addr × Obj)} {σ : St} {H : Hp} {s : Shared} (I : Inv X pins σ H s) : ∀ (n : Nat) {A : Around} {x y : D} {v w : V} {u t : Value}, A.units + n < cLine → eqb n x = true → eqb n y = true → Has X.K C H v x → Has X.K C H w y → RelV v u → RelV w t →
    RcNeAt A s u t (!pyq n x y) :=
  fun n _ _ _ _ _ _ _ hu h1 h2 a b c d => (all_ok I n hu h1 h2 a b c d).2.2
theorem Brw.has {K : PySem.W.Frag} {C : Addr} {M H : Hp} {v : V} {d : D} (s : Same M H) (h : Brw K C M H v d) : Has K C H v d := by
  cases h with
  | cl h => exact h.mono s
  | own e h => exact .lst e (h.mono s)
section
variable {C : Addr} {X : Cx}
noncomputable def feq (x y : D) : R D := if eqb 9 x = true ∧ eqb 9 y = true then .val (.bl (pyq 9 x y)) else .bad
noncomputable def fne (x y : D) : R D := if eqb 9 x = true ∧ eqb 9 y = true then .val (.bl (!pyq 9 x y)) else .bad
noncomputable def rEqD (K : PySem.W.Frag) (C : Addr) (neg : Bool) : R2 := fun v w H Q => ∃ x y, eqb 9 x = true ∧ eqb 9 y = true ∧ Has K C H v x ∧ Has K C H w y ∧ Q (.bl (if neg then !pyq 9 x y else pyq 9 x y)) H
theorem op_eqD (hu : X.A.units + 9 < cLine) : OpR X (compareOp .Eq) (rEqD X.K C false) := by
  intro pins s σ H x y v u Q I rx ry h
  obtain ⟨dx, dy, e1, e2, h1, h2, q⟩ := h
  exact (eq_ok I 9 hu e1 e2 h1 h2 rx ry).1 _ _ _ _ ⟨.bl _, H, I, rfl, q⟩
theorem op_neD (hu : X.A.units + 9 < cLine) : OpR X (compareOp .NotEq) (rEqD X.K C true) := by
  intro pins s σ H x y v u Q I rx ry h
  obtain ⟨dx, dy, e1, e2, h1, h2, q⟩ := h
  exact ne_ok I 9 hu e1 e2 h1 h2 rx ry _ _ _ _ ⟨.bl _, H, I, rfl, q⟩
theorem opd_eq : OpD C X (rEqD X.K C false) feq := by
  intro ρ σ H v w x y z Q r hx hy e k
  unfold feq at e
  split at e
  · rename_i hh
    cases e
    exact ⟨x, y, hh.1, hh.2, hx.has msk_sub, hy.has msk_sub, k _ H (Same.refl _) (.bl _)⟩
  · cases e
theorem opd_ne : OpD C X (rEqD X.K C true) fne := by
  intro ρ σ H v w x y z Q r hx hy e k
  unfold fne at e
  split at e
  · rename_i hh
    cases e
    exact ⟨x, y, hh.1, hh.2, hx.has msk_sub, hy.has msk_sub, k _ H (Same.refl _) (.bl _)⟩
  · cases e
theorem pu_eq : Pure2 feq := fun x y c e => by unfold feq at e; split at e <;> cases e
theorem pu_ne : Pure2 fne := fun x y c e => by unfold fne at e; split at e <;> cases e
theorem ed_eq {a b : Expr} {pos : Pos} {Fa Fb : Rho → R D} (hu : X.A.units + 9 < cLine) (ha : EB C X a Fa) (hb : EB C X b Fb) : ED C X (.Compare a [.Eq] [b] pos) (bin feq Fa Fb) := ed_cmp (op_eqD (C := C) hu) pu_eq opd_eq ha hb (nomark _)
theorem td_eq {a b : Expr} {pos : Pos} {Fa Fb : Rho → R D} (hu : X.A.units + 9 < cLine) (ha : EB C X a Fa) (hb : EB C X b Fb) : TD C X (.Compare a [.Eq] [b] pos) (tst (bin feq Fa Fb)) := td_cmp (op_eqD (C := C) hu) pu_eq opd_eq ha hb (nomark _)
theorem td_ne {a b : Expr} {pos : Pos} {Fa Fb : Rho → R D} (hu : X.A.units + 9 < cLine) (ha : EB C X a Fa) (hb : EB C X b Fb) : TD C X (.Compare a [.NotEq] [b] pos) (tst (bin fne Fa Fb)) := td_cmp (op_neD (C := C) hu) pu_ne opd_ne ha hb (nomark _)
end
end DL

set_option Elab.async false
set_option linter.all false
set_option maxRecDepth 100000
set_option maxHeartbeats 4000000
namespace DL
open PySem PySem.Spec PyProof.Rows L2
set_option autoImplicit false
variable {C : Addr} {X : Cx}
noncomputable def Ite (K : PySem.W.Frag) (a : Addr) : It :=
  ⟨fun i H => ∃ xs x, SqL K H a xs ∧ xs[i]? = some x, fun i H v H' => ∃ p x, H p = none ∧ v = .ref p ∧ H' = upd H p (.tup [.int (i : Int), x]) ∧ ∀ xs, SqL K H a xs → xs[i]? = some x, fun i H => ∃ xs, SqL K H a xs ∧ xs.length ≤ i⟩
theorem turn_enum {P : Program} {w : World} {K : PySem.W.Frag} {es : List Expr} {k : Nat} {pos : Pos} (a it e : Addr) (hne : e ≠ it) :
    Turn P w K (.Tuple es k pos) (Ite K a) [e, it] e (fun i h => (∃ old, IsEnum h e it i old) ∧ h.IsListIter it a i) where
  mem := by simp
  obj := fun i h st b hb => by
    obtain ⟨⟨old, he⟩, o, eo, c, d⟩ := st
    have hb : b = e ∨ b = it := by simpa using hb
    rcases hb with rfl | rfl
    · exact ⟨_, he, fun v z => by have z' : Data.fields _ = Data.cell v := z; cases z'⟩
    · exact ⟨o, eo, fun v z => by rw [d] at z; cases z⟩
  keep := fun i h h' st kk => by
    obtain ⟨⟨old, he⟩, st⟩ := st
    exact ⟨⟨old, kk e (by simp) _ he⟩, st.at fun o q => kk it (by simp) o q⟩
  item := by
    intro X hP hw hK hc i pins s σ H E I hf st hg
    subst hP hw hK
    obtain ⟨⟨old, he⟩, hit⟩ := st
    obtain ⟨xs, x, hq, hx⟩ := hg
    obtain ⟨its, rv, p, hz⟩ := I.list hq
    obtain ⟨u, hu, ru⟩ := rv.get hx
    refine wpAny_pyNext_enum_item he hit p.isList (x := u) (by simpa using hu) hne fun h' out hit' ht hsz hk => ?_
    refine ⟨_, rfl, wpAny_letOwnedTupleGo_enum out fun h'' he'' sb => ?_⟩
    have fr := I.fresh
    have hk2 : ∀ b o, b ≠ e → b ≠ it → s.heap.get? b = some o → h''.get? b = some o := fun b o h1 h2 eo => (sb.2 b h1).trans (hk b o h1 h2 eo)
    have hse : s.heap.objs.size ≠ e := Nat.ne_of_gt (Heap.lt_size he)
    have ht2 : h''.get? s.heap.objs.size = some { cls := .type "tuple", data := .seq #[.int i s.toks, u] } := (sb.2 _ hse).trans ht
    have ne' : ∀ b, H b ≠ none → b ≠ e ∧ b ≠ it := fun b hb => ⟨fun z => hb (by rw [z]; exact (hf e (by simp)).1), fun z => hb (by rw [z]; exact (hf it (by simp)).1)⟩
    have I1 : Inv X pins σ (upd H s.heap.objs.size (.tup [.int (i : Int), x])) { s with heap := h'', toks := s.toks + 1 } := by
      refine I.call' (s' := { s with heap := h'', toks := s.toks + 1 }) (ch := [e, it]) rfl ⟨fun b o q n hfs hx => hk2 b o (fun z => hx (by simp [z])) (fun z => hx (by simp [z])) q, fun b o q n hfs hx => ⟨o.slots, hk2 b o (fun z => hx (by simp [z])) (fun z => hx (by simp [z])) q⟩,
        fun b o q n hx => ?_, fun b o q hx => ⟨o, hk2 b o (fun z => hx (by simp [z])) (fun z => hx (by simp [z])) q⟩, fun b ys q => ?_, fun b o v q => ?_, fun b ps q => ?_⟩ (fun b o q => ?_) I.bare fun b hb => ?_
      · rw [upd_ne (Nat.ne_of_lt (Heap.lt_size q))]; exact n
      · rw [upd_ne (ne_of_none q fr)]; exact q
      · rw [upd_ne (ne_of_none q fr)]; exact q
      · exact ⟨#[], by rw [upd_ne (ne_of_none q fr), q]; simp⟩
      · by_cases hb : b = s.heap.objs.size
        · subst hb
          rw [upd_same] at q; cases q
          exact ⟨by show 2 ≤ sizeLine; decide, [.int i s.toks, u], .cons ⟨_, rfl⟩ (.cons ru .nil), ⟨_, ht2, rfl, _, rfl⟩⟩
        · rw [upd_ne hb] at q
          refine (I.hok b o q).stay (fun c v hc qv => ?_) (fun c qc => by rw [upd_ne (ne_of_none qc fr)]; exact qc) fun c ys qc => by rw [upd_ne (ne_of_none qc fr)]; exact qc
          have hcn : H c ≠ none := by
            rcases hc with z | z
            · rw [z, q]; simp
            · rw [z]; simp
          obtain ⟨n1, n2⟩ := ne' c hcn
          exact hk2 c v n1 n2 qv
      · obtain ⟨g0, g1, g2, g3, g4, g5⟩ := hf b hb
        exact ⟨g3, g1, g4, g5⟩
    refine ⟨.ref s.heap.objs.size, _, I1, rfl, ⟨_, x, fr, rfl, rfl, fun ys hy => by rw [I.list_inj hy hq]; exact hx⟩, ⟨⟨u, ?_⟩, ?_⟩, fun b hb => ?_⟩
    · have : ((i : Int) + 1) = ((i + 1 : Nat) : Int) := by push_cast; rfl
      rw [this] at he''; exact he''
    · exact hit'.at fun o q => (sb.2 it (Ne.symm hne)).trans q
    · have hb' := (hf b hb).1
      have hlt : b < s.heap.objs.size := by
        have hb : b = e ∨ b = it := by simpa using hb
        rcases hb with rfl | rfl
        · exact Heap.lt_size he
        · obtain ⟨o, eo, _⟩ := hit; exact Heap.lt_size eo
      rw [upd_ne (Nat.ne_of_lt hlt)]; exact hb'
  done := by
    intro X hP hw hK hc i pins s σ H E I hf st hg
    subst hP hw hK
    obtain ⟨⟨old, he⟩, hit⟩ := st
    obtain ⟨xs, hq, hx⟩ := hg
    obtain ⟨its, rv, p, hz⟩ := I.list hq
    obtain ⟨f0, f1, f2, f3, f4, f5⟩ := hf it (by simp)
    have hl := rv.length
    exact wpAny_pyNext_enum_end (I.ok.hd hc) he hit p.isList (by simp; omega) fun h' eb => ⟨rfl, I.turned (t' := s.toks) (fun b o hb q => eb b o hb q) f0 f1 f3 f4 f5⟩
  self := fun _ _ _ _ _ st h => by
    obtain ⟨⟨old, he⟩, _⟩ := st
    exact wpAny_pyIter_enum he h
noncomputable def enu : Nat → List D → List D
  | _, [] => []
  | k, x :: r => .tup [.int (k : Int), x] :: enu (k + 1) r
theorem enu_len : ∀ (k : Nat) (xs : List D), (enu k xs).length = xs.length
  | _, [] => rfl
  | k, x :: r => by simp [enu, enu_len]
theorem enu_at : ∀ {k : Nat} {xs : List D} {i : Nat} {y : D}, (enu k xs)[i]? = some y → ∃ x, xs[i]? = some x ∧ y = .tup [.int ((k + i : Nat) : Int), x]
  | _, [], _, _, e => by simp [enu] at e
  | k, x :: r, 0, y, e => by
    simp [enu] at e
    exact ⟨x, rfl, by rw [← e]; rfl⟩
  | k, x :: r, i + 1, y, e => by
    have e : (enu (k + 1) r)[i]? = some y := by simpa [enu] using e
    obtain ⟨z, h1, h2⟩ := enu_at e
    refine ⟨z, by simpa using h1, ?_⟩
    rw [h2, show k + 1 + i = k + (i + 1) by omega]
theorem walk_enum {K : PySem.W.Frag} {a : Addr} {vs : List V} {xs : List D} {M : Hp} (e : M a = some (.lst vs)) (h : HasL K C M vs xs) : Walk K C (Ite K a) (enu 0 xs) M where
  go := fun i y H2 s hy => by
    obtain ⟨x, hx, rfl⟩ := enu_at hy
    obtain ⟨v, e1, h1⟩ := h.get hx
    refine ⟨⟨vs, v, SqL.of (s _ _ e), e1⟩, fun v' H3 y => ?_⟩
    obtain ⟨p, x', hp, rfl, rfl, y⟩ := y
    have e2 := y vs (SqL.of (s _ _ e))
    rw [e1] at e2; cases e2
    refine ⟨same_upd hp, fun ρ σ hown m => ?_⟩
    have em : msk ρ σ (upd H2 p (.tup [.int (i : Int), v])) p = some (.tup [.int (i : Int), v]) := msk_some.mpr ⟨fun z => hown p z hp, upd_same⟩
    refine .tup em (.cons ?_ (.cons (h1.mono (m.trans (msk_mono (same_upd hp)))) .nil))
    rw [Nat.zero_add]; exact .int _
  stop := fun H2 s => ⟨vs, SqL.of (s _ _ e), by rw [enu_len, h.len]; exact Nat.le_refl _⟩
theorem pi_enum {es : List Expr} {k : Nat} {tp p pos : Pos} {l : Expr} {ta : TA} (hg : Gl X "enumerate") (hm : X.mg "enumerate" = none) (ha : PA X [l] ta) (hs : starEach [l] X.env = [(false, eval l X.env)] := by rfl) :
    PI X (.Tuple es k tp) (.Call (.Name "enumerate" p) [l] [] pos) (fun σ H R => ta σ H fun vs H1 => ∃ a xs, vs = [.ref a] ∧ SqL X.K H1 a xs ∧ R (Ite X.K a) H1) := by
  intro pins s σ H R I h
  refine Call_ (ld_blt I hg hm boot_enumerate (PyProof.Rows.callWith_type1 (thn (ha pos pins s σ H _ I h) fun us s1 zz0 => ?_) hs rfl))
  obtain ⟨vs, H1, I1, r1, q1⟩ := zz0
  obtain ⟨a, xs, e, hq, q⟩ := q1
  subst e
  cases r1 with
  | cons r rr =>
    cases rr
    cases r
    obtain ⟨its, rv, pl, hz⟩ := I1.list hq
    refine call_enumerate_list pl.isList fun h' he hit hsz kp => ?_
    have I2 : Inv X pins σ H1 { s1 with heap := h' } := I1.kept (t' := s1.toks) kp
    refine wpAny_pyIter_enum he ?_
    have ne : s1.heap.objs.size + 1 ≠ s1.heap.objs.size := Nat.succ_ne_self _
    refine ⟨s1.heap.objs.size + 1, [s1.heap.objs.size + 1, s1.heap.objs.size], _, _, H1, rfl, I2, turn_enum a s1.heap.objs.size (s1.heap.objs.size + 1) ne, ⟨⟨_, he⟩, hit⟩, fun b hb => ?_, q⟩
    have hb : b = s1.heap.objs.size + 1 ∨ b = s1.heap.objs.size := by simpa using hb
    have hle : s1.heap.objs.size ≤ b := by
      rcases hb with z | z
      · rw [z]; exact Nat.le_succ _
      · rw [z]; exact Nat.le_refl _
    exact I1.fpOk hle (I1.hok.fresh hle)
noncomputable def enuD : List D → R (List D)
  | [.lst xs] => .val (enu 0 xs)
  | _ => .bad
noncomputable def fEnu (F : Rho → R (List D)) : Rho → R (List D) := fun ρ => (F ρ).bind enuD
theorem id_enum {es : List Expr} {k : Nat} {tp p pos : Pos} {l : Expr} {F : Rho → R (List D)} (hg : Gl X "enumerate") (hm : X.mg "enumerate" = none) (ha : AD C X [l] F) (hs : starEach [l] X.env = [(false, eval l X.env)] := by rfl) :
    ID C X (.Tuple es k tp) (.Call (.Name "enumerate" p) [l] [] pos) (fEnu F) := pi_weak (pi_enum hg hm ha hs) fun σ H R yy0 => by
     obtain ⟨ρ, ⟨H0, r⟩, q⟩ := yy0
     exact ⟨ρ, ⟨H0, r⟩, by
  unfold fEnu at q
  cases e : F ρ with
  | val ds =>
    rw [e] at q
    intro vs H1 s1 h1
    dsimp only [DL.R.bind] at q
    unfold enuD at q
    split at q
    · rename_i e0
      split at e0
      · rename_i xs
        cases e0
        cases h1 with
        | cons a b =>
          cases b
          cases a with
          | lst e1 g1 => exact ⟨_, _, rfl, SqL.of (msk_sub _ _ e1), q _ H1 s1 (walk_enum e1 g1)⟩
      · cases e0
    · rename_i e0
      split at e0 <;> cases e0
    · exact q.elim
  | exc c => rw [e] at q; exact q
  | bad => rw [e] at q; exact q⟩
noncomputable def rIns : V → List V → Hp → VK → Prop := fun x vs H Q => ∃ l xs i y, x = .ref l ∧ vs = [.int i, y] ∧ H l = some (.lst xs) ∧ 0 ≤ i ∧ i ≤ xs.length ∧ xs.length < LIM ∧ Q .non (upd H l (.lst (xs.take i.toNat ++ y :: xs.drop i.toNat)))
theorem mt_insert : MtM X "list.insert" rIns := by
  intro pins s σ H x vs v us Q I rx rv h
  obtain ⟨l, xs, i, y, rfl, rfl, hH, h0, h1, hz, q⟩ := h
  cases rx
  obtain ⟨ui, uy, rfl, ⟨tk, rfl⟩, ry⟩ := rv.two
  obtain ⟨z, its, n, r, hl, e⟩ := I.lstM hH
  have hfit : ¬(!Builtin.List.listFitsIndex i) = true := by
    have h63 : (xs.length : Int) < 2 ^ 63 := by
      have : xs.length < 100000 := hz
      omega
    have : Builtin.List.listFitsIndex i = true := by
      unfold Builtin.List.listFitsIndex
      rw [Bool.and_eq_true]
      exact ⟨decide_eq_true (by omega), decide_eq_true (by omega)⟩
    rw [this]; simp
  refine call_meets F.slot_list_insert ⟨_, e, rfl⟩ F.entry_list_insert (F.args_list_insert_3 _ _ _) (PySem.AutoListH.list_insert_list_int_val_1 l its.toArray n i tk uy hfit (by rw [List.size_toArray, ← hl]; exact z)) ⟨e, ?_⟩
  have hm : min i.toNat its.length = i.toNat := by omega
  refine ⟨.non, _, I.lset (its' := its.take i.toNat ++ uy :: its.drop i.toNat) hH e ?_ ((r.take i.toNat).append (.cons ry (r.drop i.toNat))) ?_, rfl, q⟩
  · have hlt : ¬ i < 0 := by omega
    simp only [hlt, if_false, List.size_toArray, hm]
    apply Array.ext'
    simp [hm]
    exact List.take_of_length_le (by rw [List.length_drop]; exact Nat.le_refl _)
  · rw [List.length_append, List.length_cons, List.length_take, List.length_drop]
    have : xs.length < 100000 := hz
    have h2 : (100000 : Nat) ≤ sizeLine := by decide
    omega
noncomputable def ins (i : Nat) (k e : Rho → R D) : Rho → R Out := fun ρ => match ρ[i]? with
  | some (some (.own xs)) => (k ρ).bind fun n => (e ρ).bind fun d => match n with
    | .int n => if 0 ≤ n ∧ n ≤ xs.length ∧ xs.length < LIM then .val (.nx (ρ.set i (some (.own (xs.take n.toNat ++ d :: xs.drop n.toNat))))) else .bad
    | _ => .bad
  | _ => .bad
theorem sd_ins {i : Nat} {x : Str} {k e : Expr} {p ap cp pos : Pos} {Fk F : Rho → R D} (hv : PE X (.Name x p) (tVar i)) (hk : ED C X k Fk) (he : ED C X e F)
    (hs : ∀ {to : TE} {t : TA}, PE X (.Name x p) to → PA X [k, e] t → PS X (.Expr (.Call (.Attribute (.Name x p) "insert" ap) [k, e] [] cp) pos) (tDrop (tBM X.K "list" rIns to t)) := by
      exact fun ho ha => ps_expr (pe_bm PySem.F.plainAttrs_list PySem.F.slot_list_insert PySem.F.type_list_insert mt_insert ho ha))
    (hst : starEach [k, e] X.env = (false, eval k X.env) :: starEach [e] X.env := by rfl) (hst2 : starEach [e] X.env = (false, eval e X.env) :: starEach [] X.env := by rfl) :
    SD C X (.Expr (.Call (.Attribute (.Name x p) "insert" ap) [k, e] [] cp) pos) (ins i Fk F) :=
  ps_weak (hs hv (pa_cons hk (pa_cons he pa_nil hst2) hst)) fun D σ H zz1 => by
    obtain ⟨ρ, H0, r, q⟩ := zz1
    unfold ins at q
    split at q
    · rename_i xs e0
      obtain ⟨a, vs, e1, h1, h2⟩ := r.at_ i _ e0
      refine ⟨_, e1, .inl ⟨rfl, _, SqL.of h1⟩, ρ, ⟨H0, r⟩, pV_bind (P := fun z _ => pS C X z H0 D) (fun c h => pS_exc r h) (fun h => h) q fun n v H1 s1 h3 q1 => ?_⟩
      refine ⟨ρ, ⟨H0, r.mono s1⟩, pV_bind (P := fun z _ => pS C X z H0 D) (fun c h => pS_exc (r.mono s1) h) (fun h => h) q1 fun d w H2 s2 h4 q2 => ?_⟩
      cases n with
      | int n =>
        dsimp only at q2
        split at q2
        · rename_i hl
          cases h3
          have h2' := h2.mono (msk_mono (ρ := ρ) (σ := σ) (s1.trans s2))
          refine ⟨a, vs, n, w, rfl, rfl, s2 _ _ (s1 _ _ h1), hl.1, by rw [h2.len]; exact hl.2.1, by rw [h2.len]; exact hl.2.2, ?_⟩
          exact q2 _ _ (((r.mono s1).mono s2).write e0 e1 ((h2'.take _).app (.cons h4 (h2'.drop _))))
        · exact q2.elim
      | _ => exact q2.elim
    · exact q.elim
noncomputable def rInD (K : PySem.W.Frag) (C : Addr) (neg : Bool) : R2 := fun v w H Q => ∃ x a vs ys, eqb 8 x = true ∧ ys.all (eqb 8) = true ∧ Has K C H v x ∧ w = .ref a ∧ H a = some (.lst vs) ∧ HasL K C H vs ys ∧ Q (.bl (if neg then !(ys.any fun y => pyq 8 y x) else ys.any fun y => pyq 8 y x)) H
open Classical in
theorem in_core {pins : List (Addr × Obj)} {σ : St} {H : Hp} {s : Shared} (I : Inv X pins σ H s) {A : Around} (hu : A.units + 9 < cLine) {x : D} {v : V} {u : Value} {its : List Value} {vs : List V} {ys : List D} (e1 : eqb 8 x = true) (e2 : ys.all (eqb 8) = true) (h1 : Has X.K C H v x) (rx : RelV v u)
    (h2 : HasL X.K C H vs ys) (r : Vals vs its) : ∃ e : Value → Bool, (∀ y, y ∈ its.toArray → SeqAt.EqAt A.in1 s y u (e y)) ∧ its.toArray.any e = ys.any fun y => pyq 8 y x := by
  have key : ∀ (j : Nat) (t : Value) (d : D), its[j]? = some t → ys[j]? = some d → ∃ w, RelV w t ∧ Has X.K C H w d := fun j t d q1 q2 => by
    obtain ⟨w, g1, g2⟩ := h2.get q2
    obtain ⟨t', g3, g4⟩ := r.get g1
    rw [q1] at g3; cases g3
    exact ⟨w, g4, g2⟩
  have mem8 : ∀ (j : Nat) d, ys[j]? = some d → eqb 8 d = true := fun j d q => List.all_eq_true.mp e2 d (List.mem_of_getElem? q)
  refine ⟨fun t => decide (∃ (j : Nat) (d : D), its[j]? = some t ∧ ys[j]? = some d ∧ pyq 8 d x = true), fun t ht => ?_, ?_⟩
  · have ht : t ∈ its := by simpa using ht
    obtain ⟨j, hj, rfl⟩ := List.mem_iff_getElem.mp ht
    have hl : its.length = ys.length := by rw [← r.length, h2.len]
    have q1 : its[j]? = some its[j] := by simp [hj]
    have q2 : ys[j]? = some (ys[j]'(by omega)) := by simp [show j < ys.length by omega]
    obtain ⟨w, g1, g2⟩ := key j _ _ q1 q2
    have ok := (eq_ok I 8 (A := A.in1) (by show A.units + 1 + 8 < cLine; omega) (mem8 j _ q2) e1 g2 h1 g1 rx).2
    have : decide (∃ (j' : Nat) (d : D), its[j']? = some its[j] ∧ ys[j']? = some d ∧ pyq 8 d x = true) = pyq 8 (ys[j]'(by omega)) x := by
      cases hp : pyq 8 (ys[j]'(by omega)) x with
      | true => exact decide_eq_true ⟨j, _, q1, q2, hp⟩
      | false =>
        refine decide_eq_false fun zz2 => ?_
        obtain ⟨j', d, z1, z2, z3⟩ := zz2
        obtain ⟨w', g1', g2'⟩ := key j' _ _ z1 z2
        have ew : w' = w := RelV.inj g1' g1
        subst ew
        have := Has.inj (mem8 j' d z2) (mem8 j _ q2) g2' g2
        rw [← this, z3] at hp; cases hp
    show SeqAt.EqAt A.in1 s its[j] u (decide (∃ (j' : Nat) (d : D), its[j']? = some its[j] ∧ ys[j']? = some d ∧ pyq 8 d x = true))
    rw [this]; exact ok
  · have hl : its.length = ys.length := by rw [← r.length, h2.len]
    rw [Bool.eq_iff_iff]
    simp only [Array.any_eq_true, List.any_eq_true, decide_eq_true_eq]
    constructor
    · rintro ⟨i, hi, j, d, q1, q2, q3⟩
      exact ⟨d, List.mem_of_getElem? q2, q3⟩
    · rintro ⟨d, hd, q3⟩
      obtain ⟨j, hj, rfl⟩ := List.mem_iff_getElem.mp hd
      have hj' : j < its.length := by omega
      exact ⟨j, by simpa using hj', j, ys[j], by simp [hj'], by simp [hj], q3⟩
theorem op_notInD (hu : X.A.units + 9 < cLine) : OpR X (compareOp .NotIn) (rInD X.K C true) := by
  intro pins s σ H x y v u Q I rx ry h
  obtain ⟨d, a, vs, ys, e1, e2, h1, rfl, hH, h2, q⟩ := h
  cases ry
  obtain ⟨its, r, pl, hz⟩ := I.list (SqL.of hH)
  obtain ⟨e, he, hany⟩ := in_core I hu e1 e2 h1 rx h2 r
  exact SeqAt.notIn_listAt e pl.isList he ⟨.bl _, H, I, by rw [hany]; rfl, q⟩
noncomputable def fnin (neg : Bool) (x y : D) : R D := match y with
  | .lst ys => if eqb 8 x = true ∧ ys.all (eqb 8) = true then .val (.bl (if neg then !(ys.any fun y => pyq 8 y x) else ys.any fun y => pyq 8 y x)) else .bad
  | _ => .bad
theorem opd_in (neg : Bool) : OpD C X (rInD X.K C neg) (fnin neg) := by
  intro ρ σ H v w x y z Q r hx hy e k
  unfold fnin at e
  split at e
  · rename_i ys
    split at e
    · rename_i hh
      cases e
      obtain ⟨a, vs, rfl, e1, h2⟩ := hy.lst msk_sub
      exact ⟨x, a, vs, ys, hh.1, hh.2, hx.has msk_sub, rfl, e1, h2.mono msk_sub, k _ H (Same.refl _) (.bl _)⟩
    · cases e
  · cases e
theorem pu_in (neg : Bool) : Pure2 (fnin neg) := fun x y c e => by
  unfold fnin at e
  split at e
  · split at e <;> cases e
  · cases e
theorem td_nin {a b : Expr} {pos : Pos} {Fa Fb : Rho → R D} (hu : X.A.units + 9 < cLine) (ha : EB C X a Fa) (hb : EB C X b Fb) (hm : behindInMarks .NotIn b = false := by rfl) : TD C X (.Compare a [.NotIn] [b] pos) (tst (bin (fnin true) Fa Fb)) := td_cmp (op_notInD (C := C) hu) (pu_in _) (opd_in _) ha hb hm
end DL

set_option Elab.async false
set_option linter.all false
set_option maxRecDepth 100000
set_option maxHeartbeats 4000000
namespace DL
open PySem PySem.Spec PyProof.Rows L2
open AutoSeq1 (wpAny_loadPart')
set_option autoImplicit false
section
variable {prog : Program} {w : World} {A : Around} {E : Value → Shared → Prop} {s : Shared}
theorem wp_collect_range {Q : List Value → Shared → Prop} {r : Addr} {a b c : Int} {t u v : Tok} {n : Nat} (hh : A.handled = none) (hr : IsRange s.heap r a b c t u v) (hsmall : Builtin.Range.small a b c = true)
    (hn : Builtin.Range.rangeSize a b c = n) (hlen : n ≤ 2 ^ 24)
    (hQ : ∀ h' tk acc, (∀ b o', s.heap.get? b = some o' → h'.get? b = some o') → ItemsOf (fun i v => ∃ t, v = .int (a + i * c) t) acc n → Q acc.toList { s with heap := h', toks := tk }) :
    wpAny (model prog w) A (collect (.ref r)) Q E s := by
  unfold collect
  refine wpAny_bind (wpAny_runValue (codeAny_builtin F.entry_proto_collect ?_))
  rw [Around.under_plainId F.plain_proto_collect _]
  show wpAny _ A.in1 (newList [] >>= fun l => again (.builtin "list.__iadd__" ⟨[l, .ref r], []⟩)) _ _ s
  refine wpAny_bind (wpAny_newObj_type ?_)
  refine wpAny_pure ⟨plainId_quiet F.plain_list_iadd _, codeAny_builtin F.entry_list_iadd ?_⟩
  rw [Around.under_plainId F.plain_list_iadd _]
  show wpAny _ A.in1 (Builtin.List.listExtendWith (.ref s.heap.objs.size) (.ref r) (.ref s.heap.objs.size)) _ _ _
  have hS : (s.heap.push { cls := .type "list", data := .seq ([] : List Value).toArray }).get? s.heap.objs.size = some { cls := .type "list", data := .seq #[] 0 } := Heap.get?_push_size _ rfl
  have fin' : ∀ h' tk acc c', (∀ b o', s.heap.get? b = some o' → h'.get? b = some o') → h'.get? s.heap.objs.size = some { cls := .type "list", dict := none, data := .seq acc c', slots := #[] } → ItemsOf (fun i v => ∃ t, v = .int (a + i * c) t) acc n →
      wpAny (model prog w) A (match Value.ref s.heap.objs.size with
      | Value.ref a => do
        match (← load a).data with
          | Data.seq xs _ => pure xs.toList
          | _ => unsupported "internal:collect"
      | _ => unsupported "internal:collect") Q E { s with heap := h', toks := tk } := fun h' tk acc c' hk hS' hacc => by
    show wpAny _ A (load s.heap.objs.size >>= _) _ _ _
    refine wpAny_bind (wpAny_load hS' ?_)
    exact wpAny_pure (hQ h' tk acc hk hacc)
  refine wpAny_mono (wpAny_extend_range (A := A) (R := fun res s' => ∃ h' tk acc c', res = .ok (.ret (.ref s.heap.objs.size)) ∧ s' = { s with heap := h', toks := tk } ∧ (∀ b o', s.heap.get? b = some o' → h'.get? b = some o') ∧
      h'.get? s.heap.objs.size = some { cls := .type "list", dict := none, data := .seq acc c', slots := #[] } ∧ ItemsOf (fun i v => ∃ t, v = .int (a + i * c) t) acc n)
    (s := { s with heap := s.heap.push { cls := .type "list", data := .seq ([] : List Value).toArray } }) hh (Heap.get?_push_of_some _ hr) hsmall hn hlen s.heap.objs.size _ 0 hS fun h' tk acc' c' hk hS' hacc => ⟨h', tk, acc', c', rfl, rfl, fun b o' hb => hk b o' (Nat.ne_of_lt (Heap.lt_size hb)) (Heap.get?_push_of_some _ hb), hS', hacc⟩) (fun fin s' h => ?_) (fun e s' h => ?_)
  · cases fin with
    | done f =>
      obtain ⟨h', tk, acc, c', e, rfl, hk, hS', hacc⟩ := h
      cases e
      exact fin' h' tk acc c' hk hS' hacc
    | again c' => exact ⟨h.1, codeAny_mono h.2 fun r s'' hr => by obtain ⟨h', tk, acc, c', rfl, rfl, hk, hS', hacc⟩ := hr; exact fin' h' tk acc c' hk hS' hacc⟩
  · obtain ⟨_, _, _, _, e, _⟩ := h
    exact absurd e (by simp)
theorem code_tuple_new_range {Q₁ : Value → Shared → Prop} {r : Addr} {a b c : Int} {t u v : Tok} {n : Nat} (hh : A.handled = none) (hr : IsRange s.heap r a b c t u v) (hsmall : Builtin.Range.small a b c = true)
    (hn : Builtin.Range.rangeSize a b c = n) (hlen : n ≤ 2 ^ 24)
    (h : ∀ (h' : Heap) (tk : Nat) (acc : Array Value), (∀ b o', s.heap.get? b = some o' → h'.get? b = some o') → ItemsOf (fun i v => ∃ t, v = .int (a + i * c) t) acc n → Q₁ (.ref h'.objs.size) { s with heap := h'.push { cls := .type "tuple", data := .seq acc }, toks := tk }) (hsz : n ≤ sizeLine) :
    codeAny (model prog w) A (.call (.builtin "tuple.__new__") ⟨[.type "tuple", .ref r], []⟩) (wants Q₁ E) s := by
  refine codeAny_of_tree ?_
  show wpAny _ A.in1 (do checkBuiltinCall "tuple.__new__" ⟨[.type "tuple", .ref r], []⟩; again (.builtin "tuple.__new__" ⟨[.type "tuple", .ref r], []⟩)) _ _ s
  refine wpAny_bind (wpAny_of_eq (F.newCall_tuple_1 _) (wpAny_pure ⟨plainId_quiet F.plain_tuple_new _, codeAny_builtin F.entry_tuple_new ?_⟩))
  rw [Around.under_plainId F.plain_tuple_new _]
  have hsub := sub_tuple_self
  have hinit := init_tuple_lookup
  have hmh := madeHere_tuple
  have hTI : s.TypeIs (.ref r) "range" := ⟨_, hr, rfl⟩
  have hhi : A.in1.handled = none := hh
  wp_walk using wpAny_typeOf hTI, wp_collect_range (A := A.in1) hhi hr hsmall hn hlen
  intro h' tk acc hk hacc
  show wpAny _ _ (Builtin.Tuple.tupleExact acc.toList.toArray >>= fun v => PySem.ret v) _ _ _
  unfold Builtin.Tuple.tupleExact
  refine wpAny_bind (wpAny_newObj_type ?_ (by show acc.toList.toArray.size ≤ sizeLine; simp only [Array.toArray_toList]; rw [hacc.1]; exact hsz))
  refine wpAny_pure ?_
  have e : acc.toList.toArray = acc := by simp
  rw [e]
  exact h h' tk acc hk hacc
theorem call_tuple_range {Q : Value → Shared → Prop} {r : Addr} {a b c : Int} {t u v : Tok} {n : Nat} (hh : A.handled = none) (hr : IsRange s.heap r a b c t u v) (hsmall : Builtin.Range.small a b c = true)
    (hn : Builtin.Range.rangeSize a b c = n) (hlen : n ≤ 2 ^ 24)
    (h : ∀ (h' : Heap) (tk : Nat) (acc : Array Value), (∀ b o', s.heap.get? b = some o' → h'.get? b = some o') → ItemsOf (fun i v => ∃ t, v = .int (a + i * c) t) acc n → Q (.ref h'.objs.size) { s with heap := h'.push { cls := .type "tuple", data := .seq acc }, toks := tk }) (hsz : n ≤ sizeLine) :
    wpAny (model prog w) A (call (.type "tuple") [.ref r]) Q E s := by
  refine callType_codes (Q₁ := fun obj s₁ => s₁.TypeIs obj "tuple" ∧ Q obj s₁) F.called_tuple (F.typeCall_tuple_1 _) F.entry_object_init
    (code_tuple_new_range hh hr hsmall hn hlen (fun h' tk acc hm hacc => ⟨⟨_, Heap.get?_push_size _ rfl, rfl⟩, h h' tk acc hm hacc⟩) hsz) fun obj s₁ h₁ => ?_
  exact ⟨h₁.1, F.args_object_init_2 obj _, object_init_meets F.called_tuple.init.lookup F.called_tuple.made (by decide) prog w A.in1 _ s₁ ⟨h₁.1, rfl, h₁.2⟩⟩
end
section
variable {C : Addr} {X : Cx}
noncomputable def tRgE (ta : TA) : TE := fun σ H Q => ta σ H fun vs H1 => ∃ j : Int, vs = [.int j] ∧ -(2 ^ 62) ≤ j ∧ j < 2 ^ 62 ∧ ∀ r, H1 r = none → Q (.ref r) (upd H1 r (.rng 0 j))
theorem pe_rgE {a : Expr} {ta : TA} {p pos : Pos} (hg : Gl X "range") (hm : X.mg "range" = none) (ha : PA X [a] ta) (hs : starEach [a] X.env = [(false, eval a X.env)] := by rfl) : PE X (.Call (.Name "range" p) [a] [] pos) (tRgE ta) := by
  intro pins s σ H Q I h
  refine Call_ (ld_blt I hg hm boot_range (PyProof.Rows.callWith_type1 (thn (ha pos pins s σ H _ I h) fun us s1 zz0 => ?_) hs rfl))
  obtain ⟨vs, H1, I1, r1, q1⟩ := zz0
  obtain ⟨j, e, q1, q2, q⟩ := q1
  subst e
  cases r1 with
  | cons r rr =>
    cases rr
    obtain ⟨t, rfl⟩ := r
    refine call_range_1 ?_
    exact ⟨.ref s1.heap.objs.size, _, I1.laid (a := s1.heap.objs.size) (o := .rng 0 j) (fun b u e => Heap.get?_push_of_some _ e) (Nat.le_refl _) ⟨_, _, _, Heap.get?_push_size _ rfl⟩, rfl, q _ I1.fresh⟩
theorem vals_range {acc : List Value} {n : Nat} (h : acc.length = n) (hv : ∀ (j : Nat) v, acc[j]? = some v → ∃ t, v = .int (0 + (j : Int) * 1) t) : Vals ((List.range n).map fun (k : Nat) => V.int (0 + (k : Int))) acc := by
  induction n generalizing acc with
  | zero => cases acc with
    | nil => exact .nil
    | cons x r => simp at h
  | succ n ih =>
    have hne : acc ≠ [] := by intro z; rw [z] at h; cases h
    have e : acc = acc.dropLast ++ [acc.getLast hne] := (List.dropLast_concat_getLast hne).symm
    have hl : acc.dropLast.length = n := by rw [List.length_dropLast, h]; rfl
    rw [List.range_succ, List.map_append, e]
    refine Vals.append (ih hl fun j v q => ?_) (.cons ?_ .nil)
    · refine hv j v ?_
      rw [e, List.getElem?_append_left (List.getElem?_eq_some_iff.mp q).1]; exact q
    · obtain ⟨t, et⟩ := hv n (acc.getLast hne) (by rw [List.getLast_eq_getElem, List.getElem?_eq_getElem (by omega)]; congr 1; simp [h])
      exact ⟨t, by rw [et]; simp⟩
noncomputable def rTupRg : List V → Hp → VK → Prop := fun xs H Q => ∃ r j, xs = [.ref r] ∧ H r = some (.rng 0 j) ∧ -(2 ^ 62) ≤ j ∧ j ≤ 100000 ∧ ∀ p, H p = none → Q (.ref p) (upd H p (.tup ((List.range j.toNat).map fun (k : Nat) => V.int (0 + (k : Int)))))
theorem call_tup_rg (hc : X.calm = true) : CallR X (.type "tuple") rTupRg := by
  intro pins s σ H xs us Q I r h
  obtain ⟨ra, j, rfl, hq, hj0, hj, q⟩ := h
  obtain ⟨u, rfl, rx⟩ := vals1 r
  cases rx
  obtain ⟨t, u', v', e⟩ := I.hok ra _ hq
  have hn : Builtin.Range.rangeSize 0 j 1 = (j.toNat : Nat) := by rw [rangeSize_one]; split <;> omega
  have hsm : Builtin.Range.small 0 j 1 = true := small_one (by decide) (by decide) hj0 (by omega)
  refine call_tuple_range (n := j.toNat) (I.ok.hd hc) e hsm hn (by omega) (fun h' tk acc hk hacc => ?_) (Nat.le_trans (show j.toNat ≤ 100000 by omega) (by decide))
  have I1 : Inv X pins σ H { s with heap := h', toks := tk } := I.kept hk
  have hv : Vals ((List.range j.toNat).map fun (k : Nat) => V.int (0 + (k : Int))) acc.toList := vals_range (by simpa using hacc.1) fun i v q => hacc.2 i v (by simpa using q)
  have I2 : Inv X pins σ (upd H h'.objs.size (.tup ((List.range j.toNat).map fun (k : Nat) => V.int (0 + (k : Int))))) { s with heap := h'.push { cls := .type "tuple", data := .seq acc }, toks := tk } :=
    I1.laid (t' := tk) (fun b o e => Heap.get?_push_of_some _ e) (Nat.le_refl _) (show ObjOk X.prog X.w _ _ _ (.tup _) from ⟨by rw [List.length_map, List.length_range]; exact Nat.le_trans (show j.toNat ≤ 100000 by omega) (by decide), acc.toList, hv, by simpa using IsTup.new _ _⟩)
  exact ⟨.ref h'.objs.size, _, I2, rfl, q _ I1.fresh⟩
noncomputable def rgT : List D → R D
  | [.int j] => if -(2 ^ 62) ≤ j ∧ j ≤ 100000 then .val (.tup (rng 0 j.toNat)) else .bad
  | _ => .bad
noncomputable def eTupRg (F : Rho → R (List D)) : Rho → R D := fun ρ => (F ρ).bind rgT
theorem hasl_rng {K : PySem.W.Frag} {H : Hp} (n : Nat) : HasL K C H ((List.range n).map fun (k : Nat) => V.int (0 + (k : Int))) (rng 0 n) := by
  unfold rng
  induction List.range n with
  | nil => exact .nil
  | cons x r ih => exact .cons (.int _) ih
theorem ed_tupRg {a : Expr} {p p2 pos pos2 : Pos} {F : Rho → R (List D)} (hc : X.calm = true) (ha : AD C X [a] F) (hgr : Gl X "range") (hmr : X.mg "range" = none) (hgt : Gl X "tuple") (hmt : X.mg "tuple" = none)
    (hs : starEach [a] X.env = [(false, eval a X.env)] := by rfl) (hs2 : starEach [.Call (.Name "range" p2) [a] [] pos2] X.env = (false, eval (.Call (.Name "range" p2) [a] [] pos2) X.env) :: starEach [] X.env := by rfl)
    (hs3 : ∀ t : TA, PA X [.Call (.Name "range" p2) [a] [] pos2] t → PE X (.Call (.Name "tuple" p) [.Call (.Name "range" p2) [a] [] pos2] [] pos) (tCB rTupRg t) := by
      exact fun t ha => pe_callTy (call_tup_rg (by assumption)) (by assumption) (by assumption) PySem.boot_tuple ha) :
    ED C X (.Call (.Name "tuple" p) [.Call (.Name "range" p2) [a] [] pos2] [] pos) (eTupRg F) :=
  pe_weak (hs3 _ (pa_cons (pe_rgE hgr hmr ha hs) pa_nil hs2)) fun σ H Q yy0 => by
   obtain ⟨ρ, ⟨H0, r⟩, q⟩ := yy0
   exact ⟨ρ, ⟨H0, r⟩, pL_bind (P := fun z H => pV X (HasX C X ρ σ) z σ H Q) (fun _ h => h) (fun h => h) q fun ds vs H1 s1 h1 q1 => by
    unfold rgT at q1
    split at q1
    · rename_i j
      split at q1
      · rename_i hj
        cases h1 with
        | cons a b =>
          cases a; cases b
          refine ⟨j, rfl, hj.1, by omega, fun ra hra => ⟨ra, j, rfl, upd_same, hj.1, hj.2, fun pa hpa => q1 _ _ ((s1.trans (same_upd hra)).trans (same_upd hpa)) ?_⟩⟩
          exact .tup (((r.mono s1).mono (same_upd hra)).new hpa) (hasl_rng _)
      · exact q1.elim
    · exact q1.elim⟩
end
end DL

set_option Elab.async false
set_option linter.all false
set_option maxRecDepth 100000
set_option maxHeartbeats 4000000
namespace DL
open PySem PySem.Spec PyProof.Rows L2
set_option autoImplicit false
noncomputable def IsArr (h : Heap) (k : KA) (a : Addr) : Prop := ∃ ta t1 t2 its, IsTup h a #[.int k.1 t1, .int k.2.1 t2, .ref ta] ∧ IsTup h ta its.toArray ∧ IntsAre its k.2.2
theorem itemsAre {prog : Program} {w : World} : ∀ {its : List Value} {ks : List Int}, IntsAre its ks → ItemsAre (intKind prog w) ks its
  | _, _, .nil => .nil
  | _, _, .cons n t h => .cons (by show Value.isInt n (.int n t) = true; simp [Value.isInt]) (itemsAre h)
theorem tupKey {prog : Program} {w : World} {h : Heap} {ta : Addr} {its : List Value} {ks : List Int} (h1 : IsTup h ta its.toArray) (h2 : IntsAre its ks) : IsTupleKey (intKind prog w) h ks ta := by
  obtain ⟨o, ho, hc, n, hd⟩ := h1
  exact ⟨o, its.toArray, n, ho, hc, hd, by simpa using itemsAre h2⟩
theorem intsAre_inj : ∀ {its : List Value} {ks ls : List Int}, IntsAre its ks → IntsAre its ls → ks = ls
  | _, _, _, .nil, .nil => rfl
  | _, _, _, .cons n t h, .cons _ _ h' => by rw [intsAre_inj h h']
theorem isTup_inj {h : Heap} {a : Addr} {x y : Array Value} (h1 : IsTup h a x) (h2 : IsTup h a y) : x = y := by
  obtain ⟨o, ho, hc, n, hd⟩ := h1
  obtain ⟨o', ho', hc', n', hd'⟩ := h2
  rw [ho] at ho'; cases ho'
  rw [hd] at hd'; injection hd'
theorem IsArr.inj {h : Heap} {k l : KA} {a : Addr} (h1 : IsArr h k a) (h2 : IsArr h l a) : k = l := by
  obtain ⟨ta, t1, t2, its, q1, q2, q3⟩ := h1
  obtain ⟨tb, u1, u2, jts, p1, p2, p3⟩ := h2
  have e := isTup_inj q1 p1
  have e' := congrArg Array.toList e
  simp only [List.cons.injEq, Value.int.injEq, Value.ref.injEq] at e'
  obtain ⟨⟨e1, _⟩, ⟨e2, _⟩, e3, _⟩ := e'
  subst e3
  have e4 := isTup_inj q2 p2
  have e5 : its = jts := by simpa using congrArg Array.toList e4
  subst e5
  have e6 := intsAre_inj q3 p3
  obtain ⟨a1, a2, a3⟩ := k
  obtain ⟨b1, b2, b3⟩ := l
  simp only at e1 e2 e6
  rw [e1, e2, e6]
theorem isTup_keeps {h h' : Heap} {a d : Addr} {o : Obj} {es ep} {x : Array Value} (hx : IsTup h a x) (ho : h.get? d = some o) (hd : o.data = .dict es ep) (hs : Heap.SameBut d h h') : IsTup h' a x := by
  obtain ⟨o', ho', hc, n, hd'⟩ := hx
  have hne : a ≠ d := by
    rintro rfl
    rw [ho] at ho'; cases ho'
    rw [hd] at hd'; cases hd'
  exact ⟨o', (hs.2 a hne).trans ho', hc, n, hd'⟩
section
variable {prog : Program} {w : World} {A : Around} {E : Value → Shared → Prop} {s : Shared}
theorem pyHash_arr {k : KA} {a : Addr} {Q : Int → Shared → Prop} (hu : A.units + 2 < cLine) (hk : IsArr s.heap k a) (h : Q (hashArr k) { s with toks := s.toks + (k.2.2.length + 4) }) : wpAny (model prog w) A (pyHash (.ref a)) Q E s := by
  obtain ⟨ta, t1, t2, its, q1, q2, q3⟩ := hk
  have hT : s.TypeIs (.ref a) "tuple" := let ⟨o, ho, hc, _⟩ := q1; ⟨o, ho, hc⟩
  obtain ⟨o, ho, _, n, hd⟩ := id q1
  unfold pyHash
  first | unfold pyHashByItsType | skip
  first | refine wpAny_bind (wpAny_cRoomFor_or (.inr (by omega)) ?_) | skip
  refine wpAny_bind (wpAny_specialOf hT F.slot_tuple_hash.lookup ?_)
  show wpAny _ _ (if (some (Value.builtin "tuple.__hash__") == some Value.none) = true then _ else _) Q E s
  rw [if_neg (by rw [beq_builtin_none]; exact Bool.false_ne_true)]
  refine wpAny_bind (wpAny_specialOf hT F.slot_tuple_hash.lookup ?_)
  show wpAny _ _ (callSpecialIfBoundUnlessNone? (.ref a) "__hash__" _ >>= _) Q E s
  refine wpAny_bind (wpAny_callSpecialIfBoundUnlessNone?_slot hT F.slot_tuple_hash (wpAny_call_entry F.slot_tuple_hash hT F.entry_tuple_hash ?_ (F.args_tuple_hash_1 _)))
  show wpAny _ _ (Builtin.Tuple.tupleItemsOf (.ref a) >>= _) _ _ s
  refine wpAny_bind (wpAny_tupleItemsOf ho hd ?_)
  refine wpAny_bind ?_
  rw [← Array.forIn_toList]
  simp only [List.forIn_cons, List.forIn_nil]
  refine wpAny_bind (wpAny_bind (wpAny_pyHash_int ?_))
  refine wpAny_pure ?_
  refine wpAny_bind (wpAny_bind (wpAny_pyHash_int ?_))
  refine wpAny_pure ?_
  refine wpAny_bind (wpAny_bind (wpAny_pyHash_tuple (knd := intKind prog w) (ks := k.2.2) (by show A.units + 1 < cLine; omega) (tupKey q2 q3) ?_))
  refine wpAny_pure (wpAny_pure ?_)
  show wpAny _ _ (retInt (Builtin.Tuple.tupleHashOf _)) _ _ _
  refine wpAny_ret_mkInt ?_
  have e : ((((#[] : Array Int).push (hashInt k.1)).push (hashInt k.2.1)).push (tupleKeyHash (intKind prog w) k.2.2)).toList = [hashInt k.1, hashInt k.2.1, reduceHash (Builtin.Tuple.tupleHashOf (k.2.2.map hashInt))] := rfl
  rw [e]
  unfold hashArr at h
  generalize hg : Builtin.Tuple.tupleHashOf [hashInt k.1, hashInt k.2.1, reduceHash (Builtin.Tuple.tupleHashOf (k.2.2.map hashInt))] = G at h ⊢
  show wpAny _ _ (if (decide (-(2 : Int) ^ 63 ≤ G) && decide (G < 2 ^ 63)) = true then _ else _) Q E _
  unfold reduceHash at h
  by_cases hr : (decide (-(2 : Int) ^ 63 ≤ G) && decide (G < 2 ^ 63)) = true
  · rw [if_pos hr]
    rw [if_pos hr] at h
    refine wpAny_pure ?_
    simpa [Nat.add_assoc, Nat.add_comm, Nat.add_left_comm] using h
  · rw [if_neg hr]
    rw [if_neg hr] at h
    refine wpAny_bind (wpAny_rule (wpAny_pure ?_))
    simpa [Nat.add_assoc, Nat.add_comm, Nat.add_left_comm] using h
theorem eqAt_arr {k l : KA} {a b : Addr} (hu : A.units + 2 < cLine) (hk : IsArr s.heap k a) (hl : IsArr s.heap l b) : SeqAt.EqAt A s (.ref a) (.ref b) (decide (k = l)) := by
  by_cases hab : a = b
  · subst hab
    rw [hk.inj hl, decide_eq_true rfl]
    exact SeqAt.EqAt.same _
  · refine SeqAt.EqAt.of_refs hab ?_
    obtain ⟨ta, t1, t2, its, q1, q2, q3⟩ := hk
    obtain ⟨tb, u1, u2, jts, p1, p2, p3⟩ := hl
    have z := SeqAt.RcAt.tuples (A := A) (s := s) (e := fun j => if j = 0 then k.1 == l.1 else if j = 1 then k.2.1 == l.2.1 else decide (k.2.2 = l.2.2)) q1 p1 (by omega) fun j h1 h2 => by
      have hj : j = 0 ∨ j = 1 ∨ j = 2 := by
        have : j < 3 := h1
        omega
      rcases hj with rfl | rfl | rfl
      · exact SeqAt.EqAt.int_int _ _ _ _
      · exact SeqAt.EqAt.int_int _ _ _ _
      · exact fun prog w E Q hq => wpAny_eqBool_tuple (knd := intKind prog w) (by show A.units + 1 < cLine; omega) (tupKey q2 q3) (tupKey p2 p3) hq
    have e : ((List.range (min (#[Value.int k.1 t1, .int k.2.1 t2, .ref ta] : Array Value).size (#[Value.int l.1 u1, .int l.2.1 u2, .ref tb] : Array Value).size)).all (fun j => if j = 0 then k.1 == l.1 else if j = 1 then k.2.1 == l.2.1 else decide (k.2.2 = l.2.2)) &&
        (#[Value.int k.1 t1, .int k.2.1 t2, .ref ta] : Array Value).size == (#[Value.int l.1 u1, .int l.2.1 u2, .ref tb] : Array Value).size) = decide (k = l) := by
      obtain ⟨a1, a2, a3⟩ := k
      obtain ⟨b1, b2, b3⟩ := l
      show ((List.range 3).all _ && true) = _
      rw [Bool.eq_iff_iff]
      simp [List.range_succ]
    rw [e] at z
    exact z
theorem quiet_tup (n : Nat) {ks : List Int} {a : Addr} {Q : Bool → Shared → Prop} (hk : IsTupleKey (intKind prog w) s.heap ks a) (h : Q true s) : wpAny (model prog w) A (eqIsQuiet (n + 1) (.ref a)) Q E s := by
  have hT := hk.typeIs
  obtain ⟨o, items, m, ho, _, hd, hi⟩ := hk
  unfold eqIsQuiet
  refine wpAny_bind (wpAny_specialOf hT F.slot_tuple_eq.lookup ?_)
  show wpAny _ _ (isInstance (.ref a) (.type "tuple") >>= _) _ _ s
  refine wpAny_bind (wpAny_isInstance hT isSubtype_tuple_tuple ?_)
  simp only [Bool.not_true, Bool.false_eq_true, if_false]
  refine wpAny_bind (wpAny_seqItems ho hd ?_)
  refine wpAny_bind ?_
  show wpAny _ _ (forIn items _ _) _ _ s
  rw [← Array.forIn_toList]
  refine wpAny_forIn_list _ (fun rest r s' => r.1 = none ∧ s' = s ∧ ∀ v ∈ rest, carriedByValue v = true) _ ?_ ?_ _ _ ⟨rfl, rfl, hi.byValue⟩
  · rintro v rest r s' ⟨hr, rfl, hall⟩
    rw [eqIsQuiet_byValue _ (hall v List.mem_cons_self)]
    refine wpAny_bind (wpAny_pure ?_)
    simp only [Bool.not_true, Bool.false_eq_true, if_false]
    exact wpAny_pure ⟨rfl, rfl, fun u hu' => hall u (List.mem_cons_of_mem _ hu')⟩
  · rintro ⟨r1, r2⟩ s' ⟨hr, rfl, _⟩
    simp only at hr
    subst hr
    exact wpAny_pure h
theorem quiet_arr {k : KA} {a : Addr} {Q : Bool → Shared → Prop} (hk : IsArr s.heap k a) (h : Q true s) : wpAny (model prog w) A (eqIsQuiet 8 (.ref a)) Q E s := by
  obtain ⟨ta, t1, t2, its, q1, q2, q3⟩ := hk
  have hT : s.TypeIs (.ref a) "tuple" := let ⟨o, ho, hc, _⟩ := q1; ⟨o, ho, hc⟩
  obtain ⟨o, ho, _, n, hd⟩ := id q1
  unfold eqIsQuiet
  refine wpAny_bind (wpAny_specialOf hT F.slot_tuple_eq.lookup ?_)
  show wpAny _ _ (isInstance (.ref a) (.type "tuple") >>= _) _ _ s
  refine wpAny_bind (wpAny_isInstance hT isSubtype_tuple_tuple ?_)
  simp only [Bool.not_true, Bool.false_eq_true, if_false]
  refine wpAny_bind (wpAny_seqItems ho hd ?_)
  refine wpAny_bind ?_
  show wpAny _ _ (forIn (#[Value.int k.1 t1, .int k.2.1 t2, .ref ta] : Array Value) _ _) _ _ s
  rw [← Array.forIn_toList]
  refine wpAny_forIn_list _ (fun rest r s' => r.1 = none ∧ s' = s ∧ ∀ v ∈ rest, carriedByValue v = true ∨ v = .ref ta) _ ?_ ?_ _ _ ⟨rfl, rfl, fun v hv => ?_⟩
  · rintro v rest r s' ⟨hr, rfl, hall⟩
    rcases hall v List.mem_cons_self with hv | rfl
    · rw [eqIsQuiet_byValue _ hv]
      refine wpAny_bind (wpAny_pure ?_)
      simp only [Bool.not_true, Bool.false_eq_true, if_false]
      exact wpAny_pure ⟨rfl, rfl, fun u hu' => hall u (List.mem_cons_of_mem _ hu')⟩
    · refine wpAny_bind (quiet_tup (prog := prog) (w := w) 6 (tupKey q2 q3) ?_)
      simp only [Bool.not_true, Bool.false_eq_true, if_false]
      exact wpAny_pure ⟨rfl, rfl, fun u hu' => hall u (List.mem_cons_of_mem _ hu')⟩
  · rintro ⟨r1, r2⟩ s' ⟨hr, rfl, _⟩
    simp only at hr
    subst hr
    exact wpAny_pure h
  · have hv : v ∈ [Value.int k.1 t1, .int k.2.1 t2, .ref ta] := hv
    simp only [List.mem_cons, List.not_mem_nil, or_false] at hv
    rcases hv with rfl | rfl | rfl
    · exact .inl rfl
    · exact .inl rfl
    · exact .inr rfl
end
noncomputable def arrKind (prog : Program) (w : World) : HeapKind prog w KA where
  is := IsArr
  hash := hashArr
  draws := fun k => k.2.2.length + 4
  room := fun A => A.units + 2 < cLine
  inj := fun hx hy => hx.inj hy
  keeps := fun hx ho hd hs => by
    obtain ⟨ta, t1, t2, its, q1, q2, q3⟩ := hx
    exact ⟨ta, t1, t2, its, isTup_keeps q1 ho hd hs, isTup_keeps q2 ho hd hs, q3⟩
  pyHash := fun hu hk h => pyHash_arr hu hk h
  eqBool := fun hu hx hy h => eqAt_arr hu hx hy _ _ _ _ h
  quiet := fun hk h => quiet_arr hk h
end DL

set_option Elab.async false
set_option linter.all false
set_option maxRecDepth 100000
set_option maxHeartbeats 4000000
namespace DL
open PySem PySem.Spec PyProof.Rows L2
set_option autoImplicit false
variable {C : Addr} {X : Cx}
theorem isArr_of {pins : List (Addr × Obj)} {σ : St} {H : Hp} {s : Shared} (I : Inv X pins σ H s) {k : KA} {kb : Addr} (h : KeyIn H k kb) : IsArr s.heap k kb := by
  obtain ⟨ta, h1, h2⟩ := h
  obtain ⟨its, r, p, _⟩ := I.tuple (SqT.of h1)
  obtain ⟨jts, r2, p2, _⟩ := I.tuple (SqT.of h2)
  cases r with
  | cons a b =>
    cases b with
    | cons c d =>
      cases d with
      | cons e f =>
        cases f
        obtain ⟨t1, rfl⟩ := a
        obtain ⟨t2, rfl⟩ := c
        cases e
        exact ⟨ta, t1, t2, jts, p, p2, intsAre_of r2⟩
theorem dict_at {pins : List (Addr × Obj)} {σ : St} {H : Hp} {s : Shared} (I : Inv X pins σ H s) {a : Addr} {xs : List (KA × Addr × Value)} (e : H a = some (dObj a xs)) (hk : ∀ x ∈ xs, KeyIn H x.1 x.2.1) (nd : (xs.map (·.1)).Nodup) :
    s.heap.DictOfH (arrKind X.prog X.w) a xs ∧ (a == sysModules) = false ∧ xs.length ≤ 100001 := by
  obtain ⟨⟨h1, hl, o, es, ep, h2, h3, h4, h5⟩, _⟩ := I.hok a _ e
  exact ⟨⟨o, es, ep, h2, h3, h4, h5, fun x hx => isArr_of I (hk x hx), nd⟩, h1, hl⟩
noncomputable def rIxA : R2 := fun x y H Q => ∃ a xs kb k p v, x = .ref a ∧ y = .ref kb ∧ H a = some (dObj a xs) ∧ (∀ x ∈ xs, KeyIn H x.1 x.2.1) ∧ (xs.map (·.1)).Nodup ∧ KeyIn H k kb ∧ atKey xs k = some p ∧ RelV v p.2 ∧ Q v H
theorem ix_dic (hu : X.A.units + 3 < cLine) : IxR X rIxA := by
  intro value slice pins s σ H x y v u Q I rx ry h hs
  obtain ⟨a, xs, kb, k, p, v', rfl, rfl, e, hk, nd, hkey, hp, rp, q⟩ := h
  cases rx
  cases ry
  obtain ⟨hD, _, _⟩ := dict_at I e hk nd
  exact subscriptTail_builtinR (x := p.2) hD.typeIs slot_dict_getitem.lookup
    (wpAny_getItem_heap (knd := arrKind X.prog X.w) (Q := fun r s' => r = p.2 ∧ EP X pins σ Q r s') (by show X.A.units + 1 + 2 < cLine; omega) (isArr_of I hkey) hD hp ⟨rfl, v', H, I.tok _, rp, q⟩) hs
noncomputable def rInA (neg : Bool) : R2 := fun x y H Q => ∃ a xs kb k, x = .ref kb ∧ y = .ref a ∧ H a = some (dObj a xs) ∧ (∀ x ∈ xs, KeyIn H x.1 x.2.1) ∧ (xs.map (·.1)).Nodup ∧ KeyIn H k kb ∧ Q (.bl (if neg then !(atKey xs k).isSome else (atKey xs k).isSome)) H
theorem op_ninA (hu : X.A.units + 3 < cLine) : OpR X (compareOp .NotIn) (rInA true) := by
  intro pins s σ H x y v u Q I rx ry h
  obtain ⟨a, xs, kb, k, rfl, rfl, e, hk, nd, hkey, q⟩ := h
  cases rx
  cases ry
  obtain ⟨hD, hs, _⟩ := dict_at I e hk nd
  exact wpAny_notIn_heap (knd := arrKind X.prog X.w) (by show X.A.units + 1 + 2 < cLine; omega) (isArr_of I hkey) hs hD ⟨.bl _, H, I.tok _, rfl, q⟩
noncomputable def rSetA : TSet := fun o i v H Q => ∃ a xs kb k, o = .ref a ∧ i = .ref kb ∧ H a = some (dObj a xs) ∧ (∀ x ∈ xs, KeyIn H x.1 x.2.1) ∧ (xs.map (·.1)).Nodup ∧ KeyIn H k kb ∧ xs.length ≤ 100000 ∧ ∀ u, RelV v u → ((storedH xs k kb u).map (·.1)).Nodup → Q (upd H a (dObj a (storedH xs k kb u)))
theorem dOk_stable {a : Addr} {xs : List (KA × Addr × Value)} : ∀ h1 h2 : Heap, dOk a xs h1 → (∀ o, h1.get? a = some o → h2.get? a = some o) → dOk a xs h2 := fun h1 h2 ⟨p1, p2, o, es, ep, e1, e2, e3, e4⟩ k => ⟨p1, p2, o, es, ep, k o e1, e2, e3, e4⟩
theorem set_dic (hu : X.A.units + 3 < cLine) : PSet X rSetA := by
  intro pins s σ H o i v ov iv u Q I ro ri rv h
  obtain ⟨a, xs, kb, k, rfl, rfl, e, hk, nd, hkey, hl, q⟩ := h
  cases ro
  cases ri
  obtain ⟨hD, hs, _⟩ := dict_at I e hk nd
  refine wpAny_setItem_heap (knd := arrKind X.prog X.w) (by show X.A.units + 1 + 2 < cLine; omega) (isArr_of I hkey) hD (fun h' hD' sb => ?_) (Nat.le_trans hl (by decide))
  obtain ⟨o', es, ep, e1, e2, e3, e4, _, nd'⟩ := hD'
  have len : (storedH xs k kb u).length ≤ 100001 := by
    cases z : atKey xs k with
    | none => rw [storedH_new z]; simp; omega
    | some p => rw [storedH_old z]; simp; omega
  refine ⟨_, I.write (x := a) (e := a) (by rw [e]; exact True.intro) (.inl rfl) (fun b w hb z => (sb.2 b hb).trans z) ⟨o', e1⟩ ?_, q u rv nd'⟩
  exact ⟨⟨hs, len, o', es, ep, e1, e2, e3, e4⟩, ⟨o', e1⟩, dOk_stable⟩
noncomputable def kput (kvs : List (KA × D)) (k : KA) (d : D) : List (KA × D) := if (kvs.any fun p => decide (p.1 = k)) = true then kvs.map (fun p => if p.1 = k then (p.1, d) else p) else kvs ++ [(k, d)]
noncomputable def kget (kvs : List (KA × D)) (k : KA) : Option D := (kvs.find? fun p => decide (p.1 = k)).map (·.2)
noncomputable def intsD : List D → Option (List Int)
  | [] => some []
  | .int i :: r => (intsD r).map (i :: ·)
  | _ => none
noncomputable def keyD : D → Option KA
  | .tup [.int a, .int b, .tup xs] => (intsD xs).map fun l => (a, b, l)
  | _ => none
theorem hasl_ints {K : PySem.W.Frag} {M : Hp} : ∀ {xs : List D} {l : List Int} {vs : List V}, intsD xs = some l → HasL K C M vs xs → vs = l.map V.int
  | [], l, vs, e, h => by cases e; cases h; rfl
  | x :: r, l, vs, e, h => by
    cases x with
    | int i =>
      rw [intsD] at e
      cases z : intsD r with
      | none => rw [z] at e; cases e
      | some l' =>
        rw [z] at e; cases e
        cases h with
        | cons a b => cases a; rw [hasl_ints z b]; rfl
    | _ => cases e
theorem key_of {K : PySem.W.Frag} {M : Hp} {d : D} {k : KA} {v : V} (e : keyD d = some k) (h : Has K C M v d) : ∃ kb, v = .ref kb ∧ KeyIn M k kb := by
  unfold keyD at e
  split at e
  · rename_i a b xs
    cases z : intsD xs with
    | none => rw [z] at e; cases e
    | some l =>
      rw [z] at e; cases e
      cases h with
      | tup q hl =>
        cases hl with
        | cons h1 hl =>
          cases h1
          cases hl with
          | cons h2 hl =>
            cases h2
            cases hl with
            | cons h3 hl =>
              cases hl
              cases h3 with
              | tup q2 g => rw [hasl_ints z g] at q2; exact ⟨_, rfl, _, q, q2⟩
  · cases e
section
variable {K : PySem.W.Frag} {M : Hp}
theorem ent_any : ∀ {kvs : List (KA × D)} {xs : List (KA × Addr × Value)} {k : KA}, Paired (EntOk K C M) kvs xs → (atKey xs k).isSome = kvs.any fun p => decide (p.1 = k)
  | _, _, k, .nil => rfl
  | _, _, k, .cons (a := p) (b := q) h t => by
    have ih := ent_any (k := k) t
    have e := h.1
    unfold atKey at ih ⊢
    rw [List.find?_cons, List.any_cons, ← e]
    by_cases z : p.1 = k
    · rw [decide_eq_true z]; rfl
    · rw [decide_eq_false z]; exact ih
theorem ent_get : ∀ {kvs : List (KA × D)} {xs : List (KA × Addr × Value)} {k : KA} {d : D}, Paired (EntOk K C M) kvs xs → kget kvs k = some d → ∃ p v, atKey xs k = some p ∧ RelV v p.2 ∧ Has K C M v d
  | _, _, k, d, .nil, e => by cases e
  | _, _, k, d, .cons (a := p) (b := q) h t, e => by
    obtain ⟨e1, _, v, h1, h2⟩ := h
    unfold kget at e
    unfold atKey
    rw [List.find?_cons] at e ⊢
    rw [← e1]
    by_cases z : p.1 = k
    · rw [decide_eq_true z] at e ⊢
      cases e
      exact ⟨_, v, rfl, h1, h2⟩
    · rw [decide_eq_false z] at e ⊢
      exact ent_get t e
theorem ent_keys : ∀ {kvs : List (KA × D)} {xs : List (KA × Addr × Value)}, Paired (EntOk K C M) kvs xs → ∀ x ∈ xs, KeyIn M x.1 x.2.1
  | _, _, .nil, x, hx => by cases hx
  | _, _, .cons h t, x, hx => by
    rcases List.mem_cons.mp hx with rfl | hx
    · rw [← h.1]; exact h.2.1
    · exact ent_keys t x hx
theorem ent_map {k : KA} {d : D} {u : Value} {v : V} (rv : RelV v u) (hv : Has K C M v d) : ∀ {kvs : List (KA × D)} {xs : List (KA × Addr × Value)}, Paired (EntOk K C M) kvs xs → Paired (EntOk K C M) (kvs.map fun p => if p.1 = k then (p.1, d) else p) (xs.map (putAt k u))
  | _, _, .nil => .nil
  | _, _, .cons (a := p) (b := q) h t => by
    refine .cons ?_ (ent_map rv hv t)
    obtain ⟨e1, h2, v', h3, h4⟩ := h
    show EntOk K C M (if p.1 = k then (p.1, d) else p) (if q.1 = k then (q.1, q.2.1, u) else q)
    rw [← e1]
    by_cases z : p.1 = k
    · rw [if_pos z, if_pos z]; exact ⟨rfl, h2, v, rv, hv⟩
    · rw [if_neg z, if_neg z]; exact ⟨e1, h2, v', h3, h4⟩
theorem ent_put {k : KA} {d : D} {u : Value} {v : V} {kb : Addr} (rv : RelV v u) (hv : Has K C M v d) (hk : KeyIn M k kb) {kvs : List (KA × D)} {xs : List (KA × Addr × Value)} (h : Paired (EntOk K C M) kvs xs) : Paired (EntOk K C M) (kput kvs k d) (storedH xs k kb u) := by
  unfold kput
  have e := ent_any (k := k) h
  by_cases z : (kvs.any fun p => decide (p.1 = k)) = true
  · rw [if_pos z]
    rw [z] at e
    obtain ⟨p, hp⟩ := Option.isSome_iff_exists.mp e
    rw [storedH_old hp]
    exact ent_map rv hv h
  · rw [if_neg z]
    have : atKey xs k = none := by
      cases q : atKey xs k with
      | none => rfl
      | some p => rw [q] at e; exact absurd e.symm z
    rw [storedH_new this]
    exact Paired.snoc h ⟨rfl, hk, v, rv, hv⟩
end
theorem Rel.setDic {K : PySem.W.Frag} {H0 H : Hp} {ρ : Rho} {σ : St} (r : Rel K C H0 ρ σ H) {i : Nat} {a : Addr} (hn : H a = none) : Rel K C H0 (ρ.set i (some (.dic []))) (σ.set i (some (.ref a))) (upd H a (dObj a [])) := by
  have sub : Same (msk ρ σ H) (msk (ρ.set i (some (.dic []))) (σ.set i (some (.ref a))) (upd H a (dObj a []))) := fun b o e => by
    obtain ⟨h1, h2⟩ := msk_some.mp e
    have hb : b ≠ a := ne_of_none h2 hn
    refine msk_some.mpr ⟨fun z => ?_, by rw [upd_ne hb]; exact h2⟩
    rcases Own.set z with z | ⟨_, z⟩
    · exact h1 z
    · cases z; exact hb rfl
  have keepH : Same H (upd H a (dObj a [])) := same_upd hn
  have low : ∀ (j : Nat) sl, ρ[j]? = some (some sl) → isOwn sl = true → σ[j]? = some (some (.ref a)) → False := fun j sl e o q => r.ownAt ⟨j, sl, e, o, q⟩ hn
  refine ⟨by simp [r.len], r.keep.trans sub, fun j sl e => ?_, fun j k sl sl' c e o e' o' q q' => ?_⟩
  · by_cases hj : i = j
    · subst hj
      rw [List.getElem?_set] at e ⊢
      simp only [if_true] at e ⊢
      split at e
      · rename_i hl
        cases e
        rw [if_pos (by rw [← r.len]; exact hl)]
        exact ⟨a, rfl, [], upd_same, List.nodup_nil, .nil⟩
      · cases e
    · rw [List.getElem?_set_ne hj] at e ⊢
      exact (r.at_ j sl e).mono keepH sub
  · by_cases hj : i = j
    · by_cases hk : i = k
      · exact hj.symm.trans hk
      · subst hj
        rw [List.getElem?_set_ne hk] at e' q'
        rw [List.getElem?_set] at q
        simp only [if_true] at q
        split at q
        · cases q; exact (low k sl' e' o' q').elim
        · cases q
    · rw [List.getElem?_set_ne hj] at e q
      by_cases hk : i = k
      · subst hk
        rw [List.getElem?_set] at q'
        simp only [if_true] at q'
        split at q'
        · cases q'; exact (low j sl e o q).elim
        · cases q'
      · rw [List.getElem?_set_ne hk] at e' q'
        exact r.inj j k sl sl' c e o e' o' q q'
theorem Rel.putDic {K : PySem.W.Frag} {H0 H : Hp} {ρ : Rho} {σ : St} (r : Rel K C H0 ρ σ H) {i : Nat} {a : Addr} {kvs kvs' : List (KA × D)} {xs' : List (KA × Addr × Value)} (e : ρ[i]? = some (some (.dic kvs))) (q : σ[i]? = some (some (.ref a)))
    (nd : (xs'.map (·.1)).Nodup) (h : Paired (EntOk K C (msk ρ σ H)) kvs' xs') : Rel K C H0 (ρ.set i (some (.dic kvs'))) σ (upd H a (dObj a xs')) := by
  have hl : i < ρ.length := (List.getElem?_eq_some_iff.mp e).1
  have ow : Own ρ σ a := ⟨i, _, e, rfl, q⟩
  have oi : ∀ b, Own (ρ.set i (some (.dic kvs'))) σ b → Own ρ σ b := fun b zz0 => by
    obtain ⟨j, sl, e', o, q'⟩ := zz0
    by_cases hj : i = j
    · subst hj; rw [q] at q'; cases q'; exact ow
    · rw [List.getElem?_set_ne hj] at e'; exact ⟨j, sl, e', o, q'⟩
  have sub : Same (msk ρ σ H) (msk (ρ.set i (some (.dic kvs'))) σ (upd H a (dObj a xs'))) := fun b o z => by
    obtain ⟨h1, h2⟩ := msk_some.mp z
    have hb : b ≠ a := fun z => h1 (z ▸ ow)
    exact msk_some.mpr ⟨fun z => h1 (oi b z), by rw [upd_ne hb]; exact h2⟩
  have own' : ∀ (j : Nat) sl, i ≠ j → (ρ.set i (some (.dic kvs')))[j]? = some (some sl) → ρ[j]? = some (some sl) := fun j sl hj e' => by rw [List.getElem?_set_ne hj] at e'; exact e'
  refine ⟨by simp [r.len], r.keep.trans sub, fun j sl e' => ?_, fun j k sl sl' c e1 o1 e2 o2 q1 q2 => ?_⟩
  · by_cases hj : i = j
    · subst hj
      rw [List.getElem?_set] at e'
      simp only [if_true, hl] at e'
      cases e'
      exact ⟨a, q, xs', upd_same, nd, Paired.mapP h fun p q z => z.mono sub⟩
    · have e2 := own' j sl hj e'
      have z := r.at_ j sl e2
      cases sl with
      | shr d => obtain ⟨v, e3, h3⟩ := z; exact ⟨v, e3, h3.mono sub⟩
      | own zs =>
        obtain ⟨b, vs, e3, h3, h4⟩ := z
        have hb : b ≠ a := fun z => by subst z; exact hj (r.inj i j _ _ b e rfl e2 rfl q e3)
        exact ⟨b, vs, e3, by rw [upd_ne hb]; exact h3, h4.mono sub⟩
      | dic kvs2 =>
        obtain ⟨b, e3, h4⟩ := z
        have hb : b ≠ a := fun z => by subst z; exact hj (r.inj i j _ _ b e rfl e2 rfl q e3)
        exact ⟨b, e3, h4.mono (fun o q => by rw [upd_ne hb]; exact q) sub⟩
  · have bk : ∀ (j : Nat) sl, (ρ.set i (some (.dic kvs')))[j]? = some (some sl) → isOwn sl = true → ∃ sl2, ρ[j]? = some (some sl2) ∧ isOwn sl2 = true := fun j sl e' o => by
      by_cases hj : i = j
      · subst hj; exact ⟨_, e, rfl⟩
      · exact ⟨sl, own' j sl hj e', o⟩
    obtain ⟨s1, a1, b1⟩ := bk j sl e1 o1
    obtain ⟨s2, a2, b2⟩ := bk k sl' e2 o2
    exact r.inj j k s1 s2 c a1 b1 a2 b2 q1 q2
noncomputable def dnew (i : Nat) : Rho → R Out := fun ρ => .val (.nx (ρ.set i (some (.dic []))))
theorem pe_dnewA {pos : Pos} : PE X (.Dict [] [] pos) (fun _ H Q => ∀ p, H p = none → Q (.ref p) (upd H p (dObj p []))) := fun pins s σ H Q I h => by
  have big : sysModules < s.heap.objs.size := Nat.lt_trans (by decide) (show mainGlobals < s.heap.objs.size from (I.mod.glob.keeps I.bk).lt)
  have e1 : (s.heap.push { cls := .type "dict", data := .dict #[] }).get? s.heap.objs.size = some { cls := .type "dict", data := .dict #[] } := Heap.get?_push_size _ rfl
  have ok : dOk s.heap.objs.size [] (s.heap.push { cls := .type "dict", data := .dict #[] }) := ⟨by simpa using (Nat.ne_of_gt big), Nat.zero_le _, _, #[], _, e1, ⟨rfl, rfl, rfl⟩, rfl, rfl⟩
  exact wpAny_Dict_empty ⟨.ref s.heap.objs.size, _, I.laid (a := s.heap.objs.size) (o := dObj s.heap.objs.size []) (t' := s.toks) (fun _ _ q => Heap.get?_push_of_some _ q) (Nat.le_refl _) ⟨ok, ⟨_, e1⟩, dOk_stable⟩, rfl, h _ I.fresh⟩
theorem sd_dnew {i : Nat} {x : Str} {pos pos' dp : Pos} (hN : X.N.Nodup) (hi : X.N[i]? = some x) (hx : Loc X.env.scope x) (hs : swapsWith (.Dict [] [] dp) (some (.Name x pos')) pos.line X.env = pure false := by rfl)
    (hf : X.fn x = true ∨ X.env.scope.names.lookup x = some .local := by first | exact .inl rfl | exact .inr rfl | assumption) : SD C X (.Assign [.Name x pos'] (.Dict [] [] dp) pos) (dnew i) :=
  ps_weak (ps_set hN hi hx pe_dnewA hs hf) fun D σ H yy0 => by
   obtain ⟨ρ, H0, r, q⟩ := yy0
   exact fun p hp => q _ _ (r.setDic hp)
noncomputable def dput (i : Nat) (k e : Rho → R D) : Rho → R Out := fun ρ => (e ρ).bind fun d => (noE (k ρ)).bind fun kd => match keyD kd with
  | some k => match ρ[i]? with
    | some (some (.dic kvs)) => if kvs.length ≤ 100000 then .val (.nx (ρ.set i (some (.dic (kput kvs k d))))) else .bad
    | _ => .bad
  | none => .bad
theorem paired_len {K : PySem.W.Frag} {M : Hp} {kvs : List (KA × D)} {xs : List (KA × Addr × Value)} (h : Paired (EntOk K C M) kvs xs) : kvs.length = xs.length := Paired.length h
theorem ent_up {K : PySem.W.Frag} {M M' : Hp} {kvs : List (KA × D)} {xs : List (KA × Addr × Value)} (m : Same M M') (h : Paired (EntOk K C M) kvs xs) : Paired (EntOk K C M') kvs xs := Paired.mapP h fun p q z => z.mono m
theorem sd_dput {i : Nat} {x : Str} {k e : Expr} {p sp pos : Pos} {Fk F : Rho → R D} (hu : X.A.units + 3 < cLine) (hv : PE X (.Name x p) (tVar i)) (hk : ED C X k Fk) (he : ED C X e F)
    (ha : ∀ v, assign (.Subscript (.Name x p) k sp) X.env v = (do
      let ov ← holding [v] (eval (.Name x p) X.env)
      let iv ← holding [v, ov] (eval k X.env)
      standAt sp
      holding [v, ov, iv] (setItem ov iv v)
      release [v, ov, iv] []) := by intro _; rfl)
    (hs : swapsWithSole [.Subscript (.Name x p) k sp] e pos.line X.env = pure false := by rfl) (hw : swappedStores [.Subscript (.Name x p) k sp] e X.env = pure none := by rfl)
    (h1 : (assignEach [.Subscript (.Name x p) k sp] X.env).map (·.2) = [assign (.Subscript (.Name x p) k sp) X.env] := by rfl) :
    SD C X (.Assign [.Subscript (.Name x p) k sp] e pos) (dput i Fk F) :=
  ps_weak (ps_asg he (pg_sub hv hk (set_dic hu) ha) hs hw h1) fun D σ H yy1 => by
   obtain ⟨ρ, H0, r, q⟩ := yy1
   exact ⟨ρ, ⟨H0, r⟩, pV_bind (P := fun z _ => pS C X z H0 D) (fun c h => pS_exc r h) (fun h => h) q fun d v H1 s1 h1 q1 => by
    cases ek : Fk ρ with
    | exc c => rw [ek] at q1; exact q1.elim
    | bad => rw [ek] at q1; exact q1.elim
    | val kd =>
      rw [ek] at q1
      dsimp only [DL.R.bind, noE] at q1
      split at q1
      · rename_i kk ekk
        split at q1
        · rename_i kvs ei
          split at q1
          · rename_i hl
            obtain ⟨a, ea, xs, eH, nd, hp⟩ := r.at_ i _ ei
            refine ⟨_, ea, ρ, ⟨H0, r.mono s1⟩, ?_⟩
            rw [ek]
            intro kv H2 s2 h2
            obtain ⟨kb, rfl, hkey⟩ := key_of ekk h2
            have hp2 := ent_up (msk_mono (s1.trans s2)) hp
            refine ⟨a, xs, kb, kk, rfl, rfl, s2 _ _ (s1 _ _ eH), fun x hx => (ent_keys hp2 x hx).mono msk_sub, nd, hkey.mono msk_sub, by rw [← paired_len hp]; exact hl, fun u ru nd' => ?_⟩
            exact q1 _ _ (((r.mono s1).mono s2).putDic ei ea nd' (ent_put ru (h1.mono (msk_mono s2)) hkey hp2))
          · exact q1.elim
        · exact q1.elim
      · exact q1.elim⟩
noncomputable def dget (i : Nat) (k : Rho → R D) : Rho → R D := fun ρ => match ρ[i]? with
  | some (some (.dic kvs)) => (k ρ).bind fun kd => match keyD kd with
    | some k => match kget kvs k with
      | some d => .val d
      | none => .bad
    | none => .bad
  | _ => .bad
theorem ed_dget {i : Nat} {x : Str} {k : Expr} {p pos : Pos} {Fk : Rho → R D} (hu : X.A.units + 3 < cLine) (hv : PE X (.Name x p) (tVar i)) (hk : ED C X k Fk) (hs : PlainIx k := by exact fun _ _ => rfl) :
    ED C X (.Subscript (.Name x p) k pos) (dget i Fk) :=
  pe_weak (pe_ix (ix_dic hu) hv hk hs) fun σ H Q zz1 => by
    obtain ⟨ρ, ⟨H0, r⟩, q⟩ := zz1
    unfold dget at q
    split at q
    · rename_i kvs ei
      obtain ⟨a, ea, xs, eH, nd, hp⟩ := r.at_ i _ ei
      refine ⟨_, ea, ρ, ⟨H0, r⟩, pV_bind (P := fun z H => pV X (HasX C X ρ σ) z σ H Q) (fun _ h => h) (fun h => h) q fun kd kv H1 s1 h1 q1 => ?_⟩
      split at q1
      · rename_i kk ekk
        split at q1
        · rename_i d eg
          obtain ⟨kb, rfl, hkey⟩ := key_of ekk h1
          have hp2 := ent_up (msk_mono s1) hp
          obtain ⟨pr, v, e1, e2, e3⟩ := ent_get hp2 eg
          exact ⟨a, xs, kb, kk, pr, v, rfl, rfl, s1 _ _ eH, fun x hx => (ent_keys hp2 x hx).mono msk_sub, nd, hkey.mono msk_sub, e1, e2, q1 v H1 s1 e3⟩
        · exact q1.elim
      · exact q1.elim
    · exact q.elim
noncomputable def dnin (i : Nat) (k : Rho → R D) : Rho → R Bool := fun ρ => (k ρ).bind fun kd => match ρ[i]? with
  | some (some (.dic kvs)) => match keyD kd with
    | some k => .val (!(kvs.any fun p => decide (p.1 = k)))
    | none => .bad
  | _ => .bad
theorem td_dnin {i : Nat} {x : Str} {k : Expr} {p pos : Pos} {Fk : Rho → R D} (hu : X.A.units + 3 < cLine) (hv : PE X (.Name x p) (tVar i)) (hk : ED C X k Fk) (hm : behindInMarks .NotIn (.Name x p) = false := by rfl) :
    TD C X (.Compare k [.NotIn] [.Name x p] pos) (dnin i Fk) :=
  pt_weak (pt_cmpR (op_ninA hu) hk hv hm) fun σ H Q yy2 => by
   obtain ⟨ρ, ⟨H0, r⟩, q⟩ := yy2
   exact ⟨ρ, ⟨H0, r⟩, pV_bind (P := fun z H => pB X z σ H Q) (fun _ h => h) (fun h => h) q fun kd kv H1 s1 h1 q1 => by
    split at q1
    · rename_i kvs ei
      obtain ⟨a, ea, xs, eH, nd, hp⟩ := r.at_ i _ ei
      split at q1
      · rename_i kk ekk
        obtain ⟨kb, rfl, hkey⟩ := key_of ekk h1
        have hp2 := ent_up (msk_mono s1) hp
        refine ⟨_, ea, a, xs, kb, kk, rfl, rfl, s1 _ _ eH, fun x hx => (ent_keys hp2 x hx).mono msk_sub, nd, hkey.mono msk_sub, _, rfl, ?_⟩
        have := ent_any (k := kk) hp2
        rw [this]
        exact q1 H1 s1
      · exact q1.elim
    · exact q1.elim⟩
end DL

set_option Elab.async false
set_option linter.all false
set_option maxRecDepth 100000
set_option maxHeartbeats 4000000
namespace DL
open PySem PySem.Spec PyProof.Rows L2
set_option autoImplicit false
variable {C : Addr} {X : Cx}
noncomputable def fz (i : Nat) (F : Rho → R Out) : Rho → R Out := fun ρ => F (frz i ρ)
theorem sds_fz {sts : List Stmt} {F : Rho → R Out} (i : Nat) (h : SDs C X sts F) : SDs C X sts (fz i F) := sds_frz i h
noncomputable def Fn (P : Program) (w : World) (K : PySem.W.Frag) (mg : Str → Option Value) (base : Heap) (C : Addr) (k : Nat) (x : Str) (n : Nat) (den : List D → R D) : Prop :=
  ∃ f fd ps, FnOk P w K mg base CX0 k f fd ps (spD K C n den) ∧ mg x = some (.ref f) ∧ PySem.W.keepIn K (.ref f) = true ∧ Binds K fd ps []
theorem room9 {k : Nat} {A : Around} (r : Room k A) : A.units + 9 < cLine := by have := r.un; omega
theorem room3 {k : Nat} {A : Around} (r : Room k A) : A.units + 3 < cLine := by have := r.un; omega
theorem hix1 (m : Nat) : ∀ j ∈ [m], m ≤ j := fun j hj => by rw [List.mem_singleton.mp hj]; exact Nat.le_refl _
theorem hix2 (m : Nat) : ∀ j ∈ [m, m + 1], m ≤ j := fun j hj => by
  rcases List.mem_cons.mp hj with h | h
  · rw [h]; exact Nat.le_refl _
  · rw [List.mem_singleton.mp h]; exact Nat.le_succ _
noncomputable def whD (c : Rho → R Bool) (F : Rho → R Out) : Nat → Rho → R Out
  | 0, _ => .bad
  | n + 1, ρ => (c ρ).bind fun b => if b = true then (F ρ).bind fun o => match o with
      | .nx ρ' => whD c F n ρ'
      | .ct ρ' => whD c F n ρ'
      | .bk ρ' => .val (.nx ρ')
      | .rt d => .val (.rt d)
    else .val (.nx ρ)
theorem sd_while {c : Expr} {body : List Stmt} {pos : Pos} {Fc : Rho → R Bool} {F : Rho → R Out} (n : Nat) (hp : PassesOwn (model X.prog X.w) X.A X.env X.xe) (hc : TD C X c Fc) (hb : SDs C X body F) : SD C X (.While c body [] pos) (whD Fc F n) :=
  ps_weak (ps_while hp hc hb) fun D σ H yy0 => by
   obtain ⟨ρ, H0, r, q⟩ := yy0
   exact ⟨fun m σ' H' => ∃ ρ', RelX C X H0 ρ' σ' H' ∧ pS C X (whD Fc F m ρ') H0 D, ⟨n, ρ, r, q⟩, fun m σ' H' zz0 => by
    obtain ⟨ρ', r', q'⟩ := zz0
    cases m with
    | zero => exact q'.elim
    | succ m =>
      unfold whD at q'
      refine ⟨ρ', ⟨H0, r'⟩, pB_bind (P := fun z _ => pS C X z H0 D) (fun c h => pS_exc r' h) (fun h => h) q' fun b H1 s1 q1 => ?_⟩
      cases b with
      | false => exact iteF (q1 σ' H1 (r'.mono s1))
      | true =>
        refine iteT ⟨fun σ2 H2 => ∃ ρ2, RelX C X H0 ρ2 σ2 H2 ∧ pS C X (whD Fc F m ρ2) H0 D, fun σ2 H2 z => ⟨m, Nat.lt_succ_self _, z⟩, ρ', H0, r'.mono s1, ?_⟩
        rw [if_pos rfl] at q1
        cases eF : F ρ' with
        | val o =>
          rw [eF] at q1
          cases o with
          | nx ρ2 => exact fun σ4 H4 r4 => ⟨ρ2, r4, q1⟩
          | ct ρ2 => exact fun σ4 H4 r4 => ⟨ρ2, r4, q1⟩
          | bk ρ2 => exact fun σ4 H4 r4 => q1 σ4 H4 r4
          | rt d => exact fun v4 H4 s4 h4 => q1 v4 H4 s4 h4
        | exc c => rw [eF] at q1; exact q1
        | bad => rw [eF] at q1; exact q1⟩
end DL

set_option Elab.async false
set_option linter.all false
set_option maxRecDepth 100000
set_option maxHeartbeats 4000000
namespace DL
open PySem PySem.Spec PyProof.Rows L2
set_option autoImplicit false
section
variable {env : Env} {r : List Expr} {p : Pos}
theorem st_Name {x : Str} : starEach (.Name x p :: r) env = (false, eval (.Name x p) env) :: starEach r env := rfl
theorem st_Constant {a k} : starEach (.Constant a k p :: r) env = (false, eval (.Constant a k p) env) :: starEach r env := rfl
theorem st_List {a} : starEach (.List a p :: r) env = (false, eval (.List a p) env) :: starEach r env := rfl
theorem st_Tuple {a k} : starEach (.Tuple a k p :: r) env = (false, eval (.Tuple a k p) env) :: starEach r env := rfl
theorem st_BinOp {a b c} : starEach (.BinOp a b c p :: r) env = (false, eval (.BinOp a b c p) env) :: starEach r env := rfl
theorem st_UnaryOp {a b} : starEach (.UnaryOp a b p :: r) env = (false, eval (.UnaryOp a b p) env) :: starEach r env := rfl
theorem st_Subscript {a b} : starEach (.Subscript a b p :: r) env = (false, eval (.Subscript a b p) env) :: starEach r env := rfl
theorem st_Attribute {a b} : starEach (.Attribute a b p :: r) env = (false, eval (.Attribute a b p) env) :: starEach r env := rfl
theorem st_Call {a b c} : starEach (.Call a b c p :: r) env = (false, eval (.Call a b c p) env) :: starEach r env := rfl
theorem st_ListComp {a b c} : starEach (.ListComp a b c p :: r) env = (false, eval (.ListComp a b c p) env) :: starEach r env := rfl
theorem pl_nil : (backTo p (starEach [] env)).any (·.1) = false := rfl
theorem pl_cons {e : Expr} (h : starEach (e :: r) env = (false, eval e env) :: starEach r env) (h2 : (backTo p (starEach r env)).any (·.1) = false) : (backTo p (starEach (e :: r) env)).any (·.1) = false := by
  rw [h]; exact h2
theorem st_one {e : Expr} (h : starEach [e] env = (false, eval e env) :: starEach [] env) : starEach [e] env = [(false, eval e env)] := h.trans rfl
end
end DL

set_option Elab.async false
set_option linter.all false
set_option maxRecDepth 100000
set_option maxHeartbeats 4000000
namespace DL
open PySem PySem.Spec PyProof.Rows L2
set_option autoImplicit false
section
variable {K : PySem.W.Frag} {C : Addr} {H0 H : Hp} {ρ : Rho} {σ : St}
theorem forget_at {i j : Nat} {sl : Slt} (h : (ρ.set i none)[j]? = some (some sl)) : i ≠ j ∧ ρ[j]? = some (some sl) := by
  rw [List.getElem?_set] at h
  split at h
  · split at h <;> cases h
  · exact ⟨by assumption, h⟩
theorem Own.forget {i : Nat} {b : Addr} (h : Own (ρ.set i none) σ b) : Own ρ σ b := by
  obtain ⟨j, sl, e, o, q⟩ := h
  exact ⟨j, sl, (forget_at e).2, o, q⟩
theorem Rel.forget (r : Rel K C H0 ρ σ H) (i : Nat) : Rel K C H0 (ρ.set i none) σ H := by
  have sub : Same (msk ρ σ H) (msk (ρ.set i none) σ H) := fun b o e => msk_some.mpr ⟨fun z => (msk_some.mp e).1 z.forget, (msk_some.mp e).2⟩
  refine ⟨by simp [r.len], r.keep.trans sub, fun j sl e => (r.at_ j sl (forget_at e).2).mono (Same.refl _) sub, fun j k sl sl' a e o e' o' q q' => ?_⟩
  exact r.inj j k sl sl' a (forget_at e).2 o (forget_at e').2 o' q q'
end
noncomputable def spM (K : PySem.W.Frag) (C : Addr) (den : List D → R D) : Sp := fun vs H Q _ => ∃ a us xs, vs = [.ref a] ∧ H a = some (.lst us) ∧ HasL K C (cut [a] H) us xs ∧ match den xs with
  | .val d => ∀ v H', Same (cut [a] H) H' → Has K C H' v d → Q v H'
  | _ => False
noncomputable def Mv (P : Program) (w : World) (K : PySem.W.Frag) (mg : Str → Option Value) (base : Heap) (C : Addr) (k : Nat) (x : Str) (den : List D → R D) : Prop :=
  ∃ f fd p, FnOk P w K mg base CX0 k f fd [p] (spM K C den) ∧ mg x = some (.ref f) ∧ PySem.W.keepIn K (.ref f) = true ∧ Binds K fd [p] []
noncomputable def st1 (N : List Str) (xs : List D) : Rho := some (.own xs) :: List.replicate (N.length - 1) none
theorem st1_at {N : List Str} {xs : List D} {i : Nat} {sl : Slt} (h : (st1 N xs)[i]? = some (some sl)) : i = 0 ∧ sl = .own xs := by
  cases i with
  | zero => unfold st1 at h; simp at h; exact ⟨rfl, h.symm⟩
  | succ n =>
    unfold st1 at h
    rw [List.getElem?_cons_succ, List.getElem?_replicate] at h
    split at h <;> cases h
section
variable {P : Program} {w : World} {K : PySem.W.Frag} {mg : Str → Option Value} {base : Heap} {C : Addr}
theorem rel_start1 {H : Hp} {N : List Str} {a : Addr} {us : List V} {xs : List D} (e : H a = some (.lst us)) (h : HasL K C (cut [a] H) us xs) : Rel K C (cut [a] H) (st1 N xs) (L2.start N [.ref a]) H := by
  have s0 : (L2.start N [V.ref a])[0]? = some (some (.ref a)) := by unfold L2.start; simp
  have ow : ∀ b, Own (st1 N xs) (L2.start N [.ref a]) b → b = a := fun b zz0 => by
    obtain ⟨i, sl, e1, o, q⟩ := zz0
    obtain ⟨rfl, _⟩ := st1_at e1
    rw [s0] at q; cases q; rfl
  have sub : Same (cut [a] H) (msk (st1 N xs) (L2.start N [.ref a]) H) := fun b o e1 => by
    obtain ⟨h1, h2⟩ := cut_some.mp e1
    exact msk_some.mpr ⟨fun z => h1 (by rw [ow b z]; exact List.mem_singleton.mpr rfl), h2⟩
  refine ⟨by unfold st1 L2.start; simp, sub, fun i sl e1 => ?_, fun i j sl sl' b e1 _ e2 _ _ _ => ?_⟩
  · obtain ⟨rfl, rfl⟩ := st1_at e1
    exact ⟨a, us, s0, e, h.mono sub⟩
  · rw [(st1_at e1).1, (st1_at e2).1]
theorem mv_ok {x qual p : Str} {st : Stmt} {f : Addr} {fd : FuncData} {N : List Str} {k : Nat} {den : Rho → R Out} (F : Fun K x qual st f fd) (sc : FnScope N [p] (defScope st))
    (hb : ∀ (cdv : Value) (A : Around) (outer : List Env) (s : Shared) (H : Hp) (E : XK), Room k (A.deeper (envOfC qual (defScope st) s.heap.objs.size f cdv)) →
      SDs C (cxOf CX0 P w K mg base N qual (defScope st) f cdv A outer s H E).nox (defBody st) den) :
    FnOk P w K mg base CX0 (k + 1) f fd [p] (spM K C fun xs => fin (den (st1 N xs))) := by
  refine F.ok sc (fun vs H Q E h => ?_) (fun cdv A outer s H vs Q E hr h => ⟨_, hb cdv A outer s H E hr, ?_⟩)
  · obtain ⟨a, us, xs, rfl, _⟩ := h
    rfl
  obtain ⟨a, us, xs, rfl, e0, h, q⟩ := h
  refine ⟨st1 N xs, cut [a] H, rel_start1 e0 h, ?_⟩
  dsimp only at q
  cases e : den (st1 N xs) with
  | val o =>
    rw [e] at q
    cases o with
    | nx ρ' => exact fun σ' H' r => q _ H' (r.keep.trans msk_sub) .non
    | rt d => exact fun v H' s' h' => q v H' s' h'
    | bk ρ' => exact q.elim
    | ct ρ' => exact q.elim
  | exc c => rw [e] at q; exact q.elim
  | bad => rw [e] at q; exact q.elim
end
section
variable {C : Addr} {X : Cx}
noncomputable def movD (i : Nat) (den : List D → R D) : Rho → R Out := fun ρ => match ρ[i]? with
  | some (some (.own xs)) => (noex (den xs)).bind fun d => .val (.nx (ρ.set i (some (.shr d))))
  | _ => .bad
theorem pe_move {k i : Nat} {x y : Str} {p p' pos : Pos} {den : List D → R D} (F : Mv X.prog X.w X.K X.mg X.base C k x den) (hr : Room k X.A) (hg : Gl X x) (hv : PE X (.Name y p') (tVar i)) (hdb : (x == ("__debug__" : Str)) = false := by decide) :
    PE X (.Call (.Name x p) [.Name y p'] [] pos) (fun σ H Q => ∃ ρ H0 xs d, RelX C X H0 ρ σ H ∧ ρ[i]? = some (some (.own xs)) ∧ den xs = .val d ∧ ∀ v H', RelX C X H0 (ρ.set i none) σ H' → HasX C X (ρ.set i none) σ H' v d → Q v H') := by
  obtain ⟨f, fd, pn, hF, hm, hk, hb⟩ := F
  rintro pins s σ H Q I ⟨ρ, H0, xs, d, r0, e0, ed, q⟩
  obtain ⟨a, vs, e1, h1, h2⟩ := r0.at_ i _ e0
  refine wpAny_Call_Name_kw (ld_glob I hg hm ?_ hdb)
  refine PySem.W.callWith_K (h₀ := X.base) I.ok.mod.kin hk (thn ((pa_cons hv pa_nil st_Name) pos pins s σ H (fun us H1 => us = [.ref a] ∧ H1 = H) I ⟨_, e1, rfl, rfl⟩) fun us s1 ⟨ws, H1, I1, rv, ew, eh⟩ => ⟨I1.kIn, ?_⟩) st_Name pl_nil
  subst ew; subst eh
  have rf := r0.forget i
  have Z := Rel.hid rf I1
  have J := I1.hide Z
  have na : ¬ Own (ρ.set i none) σ a := fun yy0 => by
   obtain ⟨j, sl, ej, o, qj⟩ := yy0
   exact (forget_at ej).1 (r0.inj i j _ _ a e0 rfl (forget_at ej).2 o e1 qj)
  have nz : a ∉ owns (ρ.set i none) σ := fun z => na (mem_owns.mp z)
  have sub : Same (msk ρ σ H1) (cut [a] (cut (owns (ρ.set i none) σ) H1)) := fun b o eb => by
    obtain ⟨g1, g2⟩ := msk_some.mp eb
    refine cut_some.mpr ⟨fun z => g1 ?_, cut_some.mpr ⟨fun z => g1 (mem_owns.mp z).forget, g2⟩⟩
    rw [List.mem_singleton.mp z]
    exact ⟨i, _, e0, rfl, e1⟩
  refine thn (run_fn (E := E0) (Q := fun v M' => Same (cut [a] (cut (owns (ρ.set i none) σ) H1)) M' ∧ Has X.K C M' v d) hF hr hb .nil pass0 J rv ?_) fun u s2 ⟨v, M', J2, ru, sm, hv'⟩ => ?_
  · rw [List.append_nil]
    refine ⟨a, vs, xs, rfl, cut_some.mpr ⟨nz, h1⟩, h2.mono sub, ?_⟩
    rw [ed]
    exact fun v H' s2 h2 => ⟨s2, h2⟩
  · obtain ⟨I2, mz⟩ := I1.show' Z J2
    have em : msk (ρ.set i none) σ (jn (owns (ρ.set i none) σ) H1 M') = M' := by
      rw [msk_cut]
      funext b
      by_cases hb : b ∈ owns (ρ.set i none) σ
      · rw [cut_in hb, mz b hb]
      · unfold cut; rw [if_neg hb, jn_out hb]
    have sM : Same (msk ρ σ H1) M' := sub.trans sm
    refine ⟨v, _, I2, ru, q v _ ⟨rf.len, by rw [em]; exact r0.keep.trans sM, fun j sl ej => ?_, rf.inj⟩ (by show Has _ _ (msk _ σ _) v d; rw [em]; exact hv')⟩
    rw [em]
    have ej' := (forget_at ej).2
    have keep : ∀ b, isOwn sl = true → σ[j]? = some (some (.ref b)) → jn (owns (ρ.set i none) σ) H1 M' b = H1 b := fun b o qb => jn_in (mem_owns.mpr ⟨j, sl, ej, o, qb⟩)
    have qq := r0.at_ j sl ej'
    cases sl with
    | shr d' => obtain ⟨v', g1, g2⟩ := qq; exact ⟨v', g1, g2.mono sM⟩
    | own ys => obtain ⟨b, ws, g1, g2, g3⟩ := qq; exact ⟨b, ws, g1, by rw [keep b rfl g1]; exact g2, g3.mono sM⟩
    | dic kvs => obtain ⟨b, g1, g2⟩ := qq; exact ⟨b, g1, g2.mono (fun o eo => by rw [keep b rfl g1]; exact eo) sM⟩
theorem sd_move {k i : Nat} {x y : Str} {p p' cp pos pos' : Pos} {den : List D → R D} (F : Mv X.prog X.w X.K X.mg X.base C k x den) (hr : Room k X.A) (hg : Gl X x) (hv : PE X (.Name y p') (tVar i)) (hN : X.N.Nodup) (hi : X.N[i]? = some y) (hx : Loc X.env.scope y)
    (hs : swapsWith (.Call (.Name x p) [.Name y p'] [] cp) (some (.Name y pos')) pos.line X.env = pure false) (hdb : (x == ("__debug__" : Str)) = false := by decide)
    (hf : X.fn y = true ∨ X.env.scope.names.lookup y = some .local := by first | exact .inl rfl | exact .inr rfl | assumption) : SD C X (.Assign [.Name y pos'] (.Call (.Name x p) [.Name y p'] [] cp) pos) (movD i den) :=
  ps_weak (ps_set hN hi hx (pe_move F hr hg hv hdb) hs hf) fun D σ H zz1 => by
    obtain ⟨ρ, H0, r, q⟩ := zz1
    unfold movD at q
    split at q
    · rename_i xs e0
      cases ed : den xs with
      | val d =>
        rw [ed] at q
        refine ⟨ρ, H0, xs, d, r, e0, ed, fun v H' r' h' => ?_⟩
        have := r'.setShr (i := i) h'
        rw [List.set_set] at this
        exact q _ _ this
      | exc c => rw [ed] at q; exact q.elim
      | bad => rw [ed] at q; exact q.elim
    · exact q.elim
noncomputable def metL : List D → List (KA × D) → Option (List (KA × D))
  | [], kvs => some kvs
  | x :: r, kvs => match keyD x with
    | some k => if kvs.length ≤ 100000 then metL r (kput kvs k (.bl true)) else none
    | none => none
noncomputable def forMet (il ix idd : Nat) : Rho → R Out := fun ρ => match ρ[il]?, ρ[idd]? with
  | some (some (.own xs)), some (some (.dic kvs)) => match metL xs kvs with
    | some kvs' => if ix < ρ.length then .val (.nx ((ρ.set ix none).set idd (some (.dic kvs')))) else .bad
    | none => .bad
  | _, _ => .bad
theorem sd_forMet {il ix idd : Nat} {x l d : Str} {px pl pd px2 sp pos2 pos cp : Pos} {j : Nat} (hu : X.A.units + 3 < cLine) (hp : PassesOwn (model X.prog X.w) X.A X.env X.xe) (hc : X.calm = true) (hl : PE X (.Name l pl) (tVar il)) (hg : PG X (.Name x px) (gName ix)) (hd : PE X (.Name d pd) (tVar idd)) (hx : PE X (.Name x px2) (tVar ix))
    (n1 : ix ≠ il := by decide) (n2 : ix ≠ idd := by decide) (n3 : il ≠ idd := by decide)
    (ha : ∀ v, assign (.Subscript (.Name d pd) (.Name x px2) sp) X.env v = (do
      let ov ← holding [v] (eval (.Name d pd) X.env)
      let iv ← holding [v, ov] (eval (.Name x px2) X.env)
      standAt sp
      holding [v, ov, iv] (setItem ov iv v)
      release [v, ov, iv] []) := by intro _; rfl)
    (hs : swapsWithSole [.Subscript (.Name d pd) (.Name x px2) sp] (.Constant (.bool true) j cp) pos2.line X.env = pure false := by rfl) (hw : swappedStores [.Subscript (.Name d pd) (.Name x px2) sp] (.Constant (.bool true) j cp) X.env = pure none := by rfl)
    (h1 : (assignEach [.Subscript (.Name d pd) (.Name x px2) sp] X.env).map (·.2) = [assign (.Subscript (.Name d pd) (.Name x px2) sp) X.env] := by rfl)
    (hfs : ∀ x, foldedSetIterable (.Name l pl) X.env x = pure x := by intro _; rfl) :
    SD C X (.For (.Name x px) (.Name l pl) [.Assign [.Subscript (.Name d pd) (.Name x px2) sp] (.Constant (.bool true) j cp) pos2] [] pos) (forMet il ix idd) :=
  ps_weak (ps_for hp hc (pi_list hl) hg (pss_one (ps_asg pe_bl (pg_sub hd hx (set_dic hu) ha) hs hw h1)) hfs) fun Dn σ H zz2 => by
    obtain ⟨ρ, H0, r, q⟩ := zz2
    unfold forMet at q
    split at q
    · rename_i xs kvs el ed
      split at q
      · rename_i kvsf em
        have hix : ix < ρ.length := by
          by_cases hix : ix < ρ.length
          · exact hix
          · rw [if_neg hix] at q; exact q.elim
        rw [if_pos hix] at q
        obtain ⟨a, vs, ea, eH, hL⟩ := r.at_ il _ el
        refine ⟨_, ea, a, rfl, ⟨_, SqL.of eH⟩, for_list (K := X.K) (a := a) (xs := vs) (fun i σ' H' => ∃ kvs', RelX C X H0 ((ρ.set ix none).set idd (some (.dic kvs'))) σ' H' ∧ σ'[il]? = some (some (.ref a)) ∧ H' a = some (.lst vs) ∧ metL (xs.drop i) kvs' = some kvsf) ⟨kvs, ?_, ea, eH, em⟩ (fun i σ' H' _ ⟨kvs', r', e1, e2, e3⟩ => SqL.of e2) ?_ ?_⟩
        · have e1 : (ρ.set ix none)[idd]? = some (some (.dic kvs)) := by rw [List.getElem?_set_ne n2]; exact ed
          have : (ρ.set ix none).set idd (some (.dic kvs)) = ρ.set ix none := by
            apply List.ext_getElem?
            intro m
            by_cases hm : idd = m
            · subst hm
              rw [List.getElem?_set_self (List.getElem?_eq_some_iff.mp e1).1, e1]
            · rw [List.getElem?_set_ne hm]
          rw [this]
          exact r.forget ix
        · rintro i v σ' H' hi ⟨kvs', r', e1, e2, e3⟩
          have l1 : ((ρ.set ix none).set idd (some (.dic kvs')))[il]? = some (some (.own xs)) := by
            rw [List.getElem?_set_ne (Ne.symm n3), List.getElem?_set_ne n1]; exact el
          obtain ⟨a', vs', g1, g2, g3⟩ := r'.at_ il _ l1
          rw [e1] at g1; cases g1
          rw [e2] at g2; cases g2
          obtain ⟨x0, hx0, hv0⟩ := g3.get' hi
          have hlt : i < xs.length := (List.getElem?_eq_some_iff.mp hx0).1
          have edr : xs.drop i = x0 :: xs.drop (i + 1) := by
            rw [List.drop_eq_getElem_cons hlt]
            have := (List.getElem?_eq_some_iff.mp hx0).2
            rw [this]
          rw [edr] at e3
          unfold metL at e3
          split at e3
          · rename_i kk ekk
            split at e3
            · rename_i hlen
              have rs := r'.setShr (i := ix) hv0
              have hdl : idd < ρ.length := (List.getElem?_eq_some_iff.mp ed).1
              have ed' : (((ρ.set ix none).set idd (some (.dic kvs'))).set ix (some (.shr x0)))[idd]? = some (some (.dic kvs')) := by
                rw [List.getElem?_set_ne n2, List.getElem?_set_self (by simpa using hdl)]
              obtain ⟨b, eb, ys, eY, nd, hpd⟩ := rs.at_ idd _ ed'
              obtain ⟨kb, rfl, hkey⟩ := key_of ekk hv0
              have hxl : ix < σ'.length := by have := r'.len; simp at this; omega
              · have ex2 : (σ'.set ix (some (V.ref kb)))[ix]? = some (some (.ref kb)) := List.getElem?_set_self hxl
                have hkey2 : KeyIn (msk (((ρ.set ix none).set idd (some (.dic kvs'))).set ix (some (.shr x0))) (σ'.set ix (some (V.ref kb))) H') kk kb := hkey.mono msk_set
                refine ⟨_, eb, _, ex2, b, ys, kb, kk, rfl, rfl, eY, fun z hz => (ent_keys hpd z hz).mono msk_sub, nd, hkey.mono msk_sub, by rw [← paired_len hpd]; exact hlen, fun u ru nd' => ?_⟩
                have r2 := (rs.putDic ed' eb nd' (ent_put ru (.bl true) hkey2 hpd)).forget ix
                refine ⟨kput kvs' kk (.bl true), ?_, ?_, ?_, e3⟩
                · have : ((((ρ.set ix none).set idd (some (.dic kvs'))).set ix (some (.shr x0))).set idd (some (.dic (kput kvs' kk (.bl true))))).set ix none = (ρ.set ix none).set idd (some (.dic (kput kvs' kk (.bl true)))) := by
                    apply List.ext_getElem?
                    intro m
                    simp only [List.getElem?_set, List.length_set]
                    by_cases h1 : ix = m
                    · subst h1
                      simp [Ne.symm n2]
                    · by_cases h2 : idd = m
                      · subst h2; simp [h1]
                      · simp [h1, h2]
                  rw [this] at r2
                  exact r2
                · rw [List.getElem?_set_ne n1]; exact e1
                · have : a ≠ b := fun z => by
                    have := r'.inj il idd _ _ a l1 rfl (List.getElem?_set_self (by simpa using hdl)) rfl e1 (by rw [List.getElem?_set_ne n2] at eb; rw [z]; exact eb)
                    exact n3 this
                  rw [upd_ne this]; exact e2
            · cases e3
          · cases e3
        · rintro σ' H' ⟨kvs', r', e1, e2, e3⟩
          have : vs.length = xs.length := hL.len
          rw [this, List.drop_length] at e3
          cases e3
          exact q _ _ r'
      · exact q.elim
    · exact q.elim
end
end DL

set_option Elab.async false
set_option linter.all false
set_option maxRecDepth 100000
set_option maxHeartbeats 4000000
namespace DL
open PySem PySem.Spec PyProof.Rows L2
set_option autoImplicit false
section
variable {K : PySem.W.Frag} {C : Addr} {H : Hp} {x C' dx : Addr} {fs : List (Str × V)} {o' : HO}
theorem ne_ins {a : Addr} {o : HO} (hx : H x = some (.ins C' dx fs)) (h : H a = some o) (ho : ∀ c d f, o = .ins c d f → f.length = 3) (hl : fs.length < 3) : a ≠ x := fun z => by
  subst z; rw [hx] at h; cases h
  have := ho _ _ _ rfl
  omega
mutual
theorem Has.upd_ins (hx : H x = some (.ins C' dx fs)) (hl : fs.length < 3) : ∀ {v : V} {d : D}, Has K C H v d → Has K C (upd H x o') v d
  | _, _, .non => .non
  | _, _, .bl b => .bl b
  | _, _, .int i => .int i
  | _, _, .lst q h => .lst (by rw [upd_ne (ne_ins hx q (fun _ _ _ z => by cases z) hl)]; exact q) (HasL.upd_ins hx hl h)
  | _, _, .tup q h => .tup (by rw [upd_ne (ne_ins hx q (fun _ _ _ z => by cases z) hl)]; exact q) (HasL.upd_ins hx hl h)
  | _, _, .scr q => .scr (by
      rcases q with (h | ⟨o, h⟩) | h
      · exact .inl (.inl (by rw [upd_ne (ne_ins hx h (fun _ _ _ z => by cases z) hl)]; exact h))
      · exact .inl (.inr ⟨o, by rw [upd_ne (ne_ins hx h (fun _ _ _ z => by cases z) hl)]; exact h⟩)
      · exact .inr h)
  | _, _, .exn q => .exn (by rw [upd_ne (ne_ins hx q (fun _ _ _ z => by cases z) hl)]; exact q)
  | _, _, .ob q a b c => .ob (by rw [upd_ne (ne_ins hx q (fun _ _ _ z => by cases z; rfl) hl)]; exact q) (Has.upd_ins hx hl a) (Has.upd_ins hx hl b) (Has.upd_ins hx hl c)
theorem HasL.upd_ins (hx : H x = some (.ins C' dx fs)) (hl : fs.length < 3) : ∀ {vs : List V} {ds : List D}, HasL K C H vs ds → HasL K C (upd H x o') vs ds
  | _, _, .nil => .nil
  | _, _, .cons a b => .cons (Has.upd_ins hx hl a) (HasL.upd_ins hx hl b)
end
end
theorem len_putF (f : Str) (v : V) : ∀ fs : List (Str × V), (putF f v fs).length ≤ fs.length + 1
  | [] => Nat.le_refl _
  | (g, x) :: r => by
    unfold putF
    split
    · simp
    · simpa using len_putF f v r
noncomputable def allV : List (Rho → R D) → Rho → R Unit
  | [], _ => .val ()
  | c :: cs, ρ => (c ρ).bind fun _ => allV cs ρ
noncomputable def denI (cs : List (Rho → R D)) (f1 f2 f3 : Rho → R (List D)) : Rho → R D := fun ρ => (allV cs ρ).bind fun _ => (f1 ρ).bind fun es => (f2 ρ).bind fun rs => (f3 ρ).bind fun ts => .val (.ob (.lst es) (.lst rs) (.lst ts))
noncomputable def rho3 (e r t : D) : Rho := [none, some (.shr e), some (.shr r), some (.shr t)]
noncomputable def spI (K : PySem.W.Frag) (C : Addr) (den : Rho → R D) : Sp := fun vs H Q _ => ∃ x dx ve vr vt e r t, vs = [.ref x, ve, vr, vt] ∧ H x = some (.ins C dx []) ∧ Has K C H ve e ∧ Has K C H vr r ∧ Has K C H vt t ∧ match den (rho3 e r t) with
  | .val d => ∀ H', (∀ b o, H b = some o → b ≠ x → H' b = some o) → Has K C H' (.ref x) d → Q .non H'
  | _ => False
section
variable {C : Addr} {X : Cx}
variable (C X) in
noncomputable def tCk : List (Rho → R D) → TS → TS
  | [], t => t
  | c :: cs, t => tSeq (tDrop (teB C X c)) (tCk cs t)
theorem pss_ck {st : Stmt} {rest : List Stmt} {c : Rho → R D} {cs : List (Rho → R D)} {t : TS} (h1 : PS X st (tDrop (teB C X c))) (h2 : PSs X rest (tCk C X cs t)) : PSs X (st :: rest) (tCk C X (c :: cs) t) := pss_cons h1 h2
theorem ps_ck {e : Expr} {pos : Pos} {F : Rho → R D} (he : EB C X e F) (hs : swapsWith e none pos.line X.env = pure false := by rfl) : PS X (.Expr e pos) (tDrop (teB C X F)) := ps_expr he hs
theorem ck_read {ρ : Rho} {t : TS} {Dn : Ends} {σ : St} : ∀ {cs : List (Rho → R D)} {H H0 : Hp}, RelX C X H0 ρ σ H → allV cs ρ = .val () → (∀ H1, Same H H1 → t Dn σ H1) → tCk C X cs t Dn σ H
  | [], H, H0, r, _, k => k H (Same.refl _)
  | c :: cs, H, H0, r, e, k => by
    unfold allV at e
    cases ec : c ρ with
    | val d =>
      rw [ec] at e
      show teB C X c σ H _
      refine ⟨ρ, ⟨H0, r⟩, ?_⟩
      rw [ec]
      exact fun v H1 s1 _ => ck_read (r.mono s1) e fun H2 s2 => k H2 (s1.trans s2)
    | exc c => rw [ec] at e; cases e
    | bad => rw [ec] at e; cases e
variable (C X) in
noncomputable def tI (f1 f2 f3 : Rho → R (List D)) : TS := tSeq (sFld X.K (tVar 0) (teF C X f1) "ends") (tSeq (sFld X.K (tVar 0) (teF C X f2) "rests") (sFld X.K (tVar 0) (teF C X f3) "table"))
theorem pss_I {s1 s2 s3 : Stmt} {f1 f2 f3 : Rho → R (List D)} (h1 : PS X s1 (sFld X.K (tVar 0) (teF C X f1) "ends")) (h2 : PS X s2 (sFld X.K (tVar 0) (teF C X f2) "rests")) (h3 : PS X s3 (sFld X.K (tVar 0) (teF C X f3) "table")) : PSs X [s1, s2, s3] (tCk C X [] (tI C X f1 f2 f3)) := by
  have h := pss_cons h1 (pss_cons h2 (pss_one h3))
  exact h
theorem ps_st {o value : Expr} {f : Str} {pos pos' : Pos} {i : Nat} {F : Rho → R (List D)} (ho : PE X o (tVar i)) (hv : FD C X value F) (hs : swapsWith value (some (.Attribute o f pos')) pos.line X.env = pure false := by rfl) : PS X (.Assign [.Attribute o f pos'] value pos) (sFld X.K (tVar i) (teF C X F) f) := ps_fld ho hv hs
theorem rel3 {K : PySem.W.Frag} {H : Hp} {x : Addr} {ve vr vt : V} {e r t : D} (h1 : Has K C H ve e) (h2 : Has K C H vr r) (h3 : Has K C H vt t) : Rel K C H (rho3 e r t) [some (.ref x), some ve, some vr, some vt] H := by
  have at3 : ∀ (i : Nat) sl, (rho3 e r t)[i]? = some (some sl) → (i = 1 ∧ sl = .shr e) ∨ (i = 2 ∧ sl = .shr r) ∨ (i = 3 ∧ sl = .shr t) := fun i sl h => by
    match i, h with
    | 0, h => cases h
    | 1, h => cases h; exact .inl ⟨rfl, rfl⟩
    | 2, h => cases h; exact .inr (.inl ⟨rfl, rfl⟩)
    | 3, h => cases h; exact .inr (.inr ⟨rfl, rfl⟩)
    | n + 4, h => unfold rho3 at h; simp at h
  have no : ∀ b, ¬ Own (rho3 e r t) [some (.ref x), some ve, some vr, some vt] b := fun b zz0 => by
    obtain ⟨i, sl, h, o, _⟩ := zz0
    rcases at3 i sl h with ⟨_, rfl⟩ | ⟨_, rfl⟩ | ⟨_, rfl⟩ <;> cases o
  have sub : Same H (msk (rho3 e r t) [some (.ref x), some ve, some vr, some vt] H) := fun b o eb => msk_some.mpr ⟨no b, eb⟩
  refine ⟨rfl, sub, fun i sl h => ?_, fun i j sl sl' a h o => ?_⟩
  · rcases at3 i sl h with ⟨rfl, rfl⟩ | ⟨rfl, rfl⟩ | ⟨rfl, rfl⟩
    · exact ⟨ve, rfl, h1.mono sub⟩
    · exact ⟨vr, rfl, h2.mono sub⟩
    · exact ⟨vt, rfl, h3.mono sub⟩
  · rcases at3 i sl h with ⟨_, rfl⟩ | ⟨_, rfl⟩ | ⟨_, rfl⟩ <;> cases o
theorem fld_step {F : Rho → R (List D)} {f : Str} {Dn : Ends} {H : Hp} {x dx : Addr} {fs : List (Str × V)} {ve vr vt : V} {e r t : D} {xs : List D} (hx : H x = some (.ins C dx fs)) (hl : fs.length < 3) (c : Cls X.K C) (n : NoAttr X.K C f) (h1 : Has X.K C H ve e) (h2 : Has X.K C H vr r) (h3 : Has X.K C H vt t)
    (eF : F (rho3 e r t) = .val xs)
    (k : ∀ l H', H' x = some (.ins C dx (putF f (.ref l) fs)) → (∀ b o, H b = some o → b ≠ x → H' b = some o) → (∀ v d, Has X.K C H v d → Has X.K C H' v d) → Has X.K C H' (.ref l) (.lst xs) → Dn.nx [some (.ref x), some ve, some vr, some vt] H') :
    sFld X.K (tVar 0) (teF C X F) f Dn [some (.ref x), some ve, some vr, some vt] H := by
  refine ⟨rho3 e r t, ⟨H, rel3 h1 h2 h3⟩, ?_⟩
  rw [eF]
  intro l vs H1 s1 hn hv
  have hv' : HasL X.K C H1 vs xs := hv.mono msk_sub
  have nx : l ≠ x := fun z => by subst z; rw [s1 _ _ hx] at hn; cases hn
  have hx2 : (upd H1 l (.lst vs)) x = some (.ins C dx fs) := by rw [upd_ne (Ne.symm nx)]; exact s1 _ _ hx
  refine ⟨_, rfl, x, C, dx, fs, rfl, hx2, c, n, by omega, k l _ upd_same (fun b o eb nb => ?_) (fun v d hd => ?_) ?_⟩
  · rw [upd_ne nb]; exact same_upd hn _ _ (s1 _ _ eb)
  · exact ((hd.mono s1).mono (same_upd hn)).upd_ins hx2 hl
  · exact Has.upd_ins hx2 hl (.lst upd_same (hv'.mono (same_upd hn)))
end
section
variable {P : Program} {w : World} {K : PySem.W.Frag} {mg : Str → Option Value} {base : Heap} {C : Addr}
theorem init_ok {st : Stmt} {f : Addr} {fd : FuncData} {k : Nat} {cs : List (Rho → R D)} {f1 f2 f3 : Rho → R (List D)} (F : Fun K "__init__" "Hall.__init__" st f fd) (sc : FnScope ["self", "ends", "rests", "table"] ["self", "ends", "rests", "table"] (defScope st))
    (cl : Cls K C) (nE : NoAttr K C "ends") (nR : NoAttr K C "rests") (nT : NoAttr K C "table")
    (hb : ∀ (cdv : Value) (A : Around) (outer : List Env) (s : Shared) (H : Hp) (E : XK), Room k (A.deeper (envOfC "Hall.__init__" (defScope st) s.heap.objs.size f cdv)) →
      PSs (cxOf CX0 P w K mg base ["self", "ends", "rests", "table"] "Hall.__init__" (defScope st) f cdv A outer s H E).nox (defBody st) (tCk C (cxOf CX0 P w K mg base ["self", "ends", "rests", "table"] "Hall.__init__" (defScope st) f cdv A outer s H E).nox cs (tI C (cxOf CX0 P w K mg base ["self", "ends", "rests", "table"] "Hall.__init__" (defScope st) f cdv A outer s H E).nox f1 f2 f3))) :
    FnOk P w K mg base CX0 (k + 1) f fd ["self", "ends", "rests", "table"] (spI K C (denI cs f1 f2 f3)) := by
  refine F.ok sc (fun vs H Q E h => ?_) (fun cdv A outer s H vs Q E hr h => ⟨_, hb cdv A outer s H E hr, ?_⟩)
  · obtain ⟨x, dx, ve, vr, vt, e, r, t, rfl, _⟩ := h
    rfl
  obtain ⟨x, dx, ve, vr, vt, e, r, t, rfl, hx, h1, h2, h3, q⟩ := h
  unfold denI at q
  cases ec : allV cs (rho3 e r t) with
  | exc c => rw [ec] at q; exact q.elim
  | bad => rw [ec] at q; exact q.elim
  | val u =>
    rw [ec] at q
    cases e1 : f1 (rho3 e r t) with
    | exc c => dsimp only [DL.R.bind] at q; rw [e1] at q; exact q.elim
    | bad => dsimp only [DL.R.bind] at q; rw [e1] at q; exact q.elim
    | val es =>
      cases e2 : f2 (rho3 e r t) with
      | exc c => dsimp only [DL.R.bind] at q; rw [e1, e2] at q; exact q.elim
      | bad => dsimp only [DL.R.bind] at q; rw [e1, e2] at q; exact q.elim
      | val rs =>
        cases e3 : f3 (rho3 e r t) with
        | exc c => dsimp only [DL.R.bind] at q; rw [e1, e2, e3] at q; exact q.elim
        | bad => dsimp only [DL.R.bind] at q; rw [e1, e2, e3] at q; exact q.elim
        | val ts =>
          dsimp only [DL.R.bind] at q
          rw [e1, e2, e3] at q
          dsimp only [DL.R.bind] at q
          refine ck_read (H0 := H) (ρ := rho3 e r t) (rel3 h1 h2 h3) ec fun H1 s1 => ?_
          refine fld_step (s1 _ _ hx) (by decide) cl nE (h1.mono s1) (h2.mono s1) (h3.mono s1) e1 fun l1 Ha xa fa ka ha => ?_
          refine fld_step xa (by show 1 < 3; decide) cl nR (ka _ _ (h1.mono s1)) (ka _ _ (h2.mono s1)) (ka _ _ (h3.mono s1)) e2 fun l2 Hb xb fb kb hb2 => ?_
          refine fld_step xb (Nat.lt_of_le_of_lt (len_putF _ _ _) (by show 2 < 3; decide)) cl nT (kb _ _ (ka _ _ (h1.mono s1))) (kb _ _ (ka _ _ (h2.mono s1))) (kb _ _ (ka _ _ (h3.mono s1))) e3 fun l3 Hc xc fc kc hc => ?_
          refine q Hc (fun b o eb nb => fc _ _ (fb _ _ (fa _ _ (s1 _ _ eb) nb) nb) nb) ?_
          exact .ob (dx := dx) (ve := .ref l1) (vr := .ref l2) (vt := .ref l3) xc (kc _ _ (kb _ _ ha)) (kc _ _ hb2) hc
end
noncomputable def FnH (P : Program) (w : World) (K : PySem.W.Frag) (mg : Str → Option Value) (base : Heap) (C : Addr) (k : Nat) (den : Rho → R D) : Prop :=
  ∃ f fd, Mk K C f ∧ FnOk P w K mg base CX0 k f fd ["self", "ends", "rests", "table"] (spI K C den) ∧ mg "Hall" = some (.ref C) ∧ Binds K fd ["self", "ends", "rests", "table"] []
section
variable {C : Addr} {X : Cx}
noncomputable def mkH (den : Rho → R D) (Fa : Rho → R (List D)) : Rho → R D := fun ρ => (Fa ρ).bind fun ds => match ds with
  | [e, r, t] => noex (den (rho3 e r t))
  | _ => .bad
theorem ed_hall {k : Nat} {den : Rho → R D} {p pos : Pos} {e : Expr} {es : List Expr} {Fa : Rho → R (List D)} (F : FnH X.prog X.w X.K X.mg X.base C k den) (hr : Room (k + 1) X.A) (hg : Gl X "Hall") (ha : AD C X (e :: es) Fa) (hx : X.xe = fun _ _ => False)
    (he : starEach (e :: es) X.env = (false, eval e X.env) :: starEach es X.env := by rfl) (hpl : (backTo pos (starEach es X.env)).any (·.1) = false := by rfl) : ED C X (.Call (.Name "Hall" p) (e :: es) [] pos) (mkH den Fa) := by
  obtain ⟨f, fd, hM, hF, hm, hb⟩ := F
  rintro pins s σ H Q I ⟨ρ, ⟨H0, r0⟩, q⟩
  refine wpAny_Call_Name_kw (ld_glob I hg hm ?_ (by decide))
  refine PySem.W.callWith_K (h₀ := X.base) I.ok.mod.kin hM.kp (thn (ha pos pins s σ H (fun vs H1 => ∃ a b c d, Same H H1 ∧ HasLX C X ρ σ H1 vs [a, b, c] ∧ den (rho3 a b c) = .val d ∧ ∀ v H', Same H H' → HasX C X ρ σ H' v d → Q v H') I
    ⟨ρ, ⟨H0, r0⟩, pL_bind (P := fun z H => pV X (HasX C X ρ σ) z σ H Q) (fun _ h => h) (fun h => h) q fun ds vs H1 s1 h1 q1 => ?_⟩) fun us s1 ⟨vs, H1, I1, rv, a, b, c, d, s1', h1, e1, q1⟩ => ⟨I1.kIn, ?_⟩) he hpl
  · split at q1
    · rename_i a b c
      cases e1 : den (rho3 a b c) with
      | val d => rw [e1] at q1; exact ⟨a, b, c, d, s1, h1, e1, q1⟩
      | exc c => rw [e1] at q1; exact q1.elim
      | bad => rw [e1] at q1; exact q1.elim
    · exact q1.elim
  · have r1 := r0.mono s1'
    have Z := Rel.hid r1 I1
    have J := I1.hide Z
    refine thn (run_make (E := E0) (Q := fun v M' => Same (cut (owns ρ σ) H1) M' ∧ Has X.K C M' v d) hM hF hr hb .nil pass0 J rv fun x dx nx ndx nex => ?_) fun u s2 ⟨v, M', J2, ru, sm, hv⟩ => ?_
    · rw [List.append_nil]
      have h1 : HasL X.K C (msk ρ σ H1) vs [a, b, c] := h1
      rw [msk_cut] at h1
      have s0 : Same (cut (owns ρ σ) H1) (upd (upd (cut (owns ρ σ) H1) dx (.own x)) x (.ins C dx [])) := fun b o eb => by
        rw [upd_ne (ne_of_none eb nx), upd_ne (ne_of_none eb ndx)]; exact eb
      cases h1 with
      | @cons va _ _ _ ga h1 => cases h1 with
        | @cons vb _ _ _ gb h1 => cases h1 with
          | @cons vc _ _ _ gc h1 =>
            cases h1
            refine ⟨x, dx, va, vb, vc, a, b, c, rfl, upd_same, ga.mono s0, gb.mono s0, gc.mono s0, ?_⟩
            rw [e1]
            exact fun H' fr hH => ⟨rfl, fun b o eb => fr b o (s0 _ _ eb) (ne_of_none eb nx), hH⟩
    · obtain ⟨I2, mz⟩ := I1.show' Z J2
      have sj : Same H1 (jn (owns ρ σ) H1 M') := fun b o eb => by
        by_cases hb : b ∈ owns ρ σ
        · rw [jn_in hb]; exact eb
        · rw [jn_out hb]; exact sm b o (cut_some.mpr ⟨hb, eb⟩)
      have em : msk ρ σ (jn (owns ρ σ) H1 M') = M' := by
        rw [msk_cut]
        funext b
        by_cases hb : b ∈ owns ρ σ
        · rw [cut_in hb, mz b hb]
        · unfold cut; rw [if_neg hb, jn_out hb]
      exact ⟨v, _, I2, ru, q1 v _ (s1'.trans sj) (by show Has _ _ (msk ρ σ _) v d; rw [em]; exact hv)⟩
structure IsH (K : PySem.W.Frag) (C : Addr) : Prop where
  cl : Cls K C
  ha : PySem.W.findIn K (.ref C) "__class__" = some (some (.builtin "object.__class__"))
  hn : PySem.W.specialIn K (.builtin "object.__class__") "__get__" = some (some (.builtin "getset_descriptor.__get__"))
  htk : PySem.W.takesIn K (.builtin "object.__class__") = some true
  hm : PySem.W.mroIn K C (.type "object") = some true
end
end DL

set_option Elab.async false
set_option linter.all false
set_option maxRecDepth 100000
set_option maxHeartbeats 4000000
namespace DL
open PySem PySem.Spec PyProof.Rows L2
set_option autoImplicit false
noncomputable def CXd (P : Program) (w : World) : CXT := fun outer H s E e s' => ∃ ea cl H' ch, e = .ref ea ∧ ExcRec s'.heap ea cl ch ∧ (∀ b ∈ ch, s.heap.get? b = none ∧ H' b = none) ∧ s'.os = s.os ∧ AllBare s'.gens ∧ Un (frs outer) [] H H' s.heap s'.heap ∧ HOk P w H' s'.heap ∧ E cl none H'
noncomputable def spX (K : PySem.W.Frag) (C : Addr) (mg : Str → Option Value) (n : Nat) (den : List D → R D) : Sp := fun vs H Q E => vs.length = n ∧ ∃ ds, HasL K C H vs ds ∧ match den ds with
  | .val d => ∀ v H', Same H H' → Has K C H' v d → Q v H'
  | .exc c => ∀ Cc H', mg (exN c) = some (.ref Cc) → Same H H' → E (.ref Cc) none H'
  | .bad => False
theorem fx_new {X : Cx} {pins : List (Addr × Obj)} {σ : St} {H : Hp} {s : Shared} {b : Addr} (I : Inv X pins σ H s) (hx : X.ex = []) (hb : s.heap.get? b = none) : FxOk X pins H b := by
  refine ⟨?_, ?_, fun z => ?_, fun z => ?_, fun x c e z => ?_, fun p hp z => ?_⟩
  · cases q : H b with
    | none => rfl
    | some o => obtain ⟨u, e⟩ := hok_there I.hok q; rw [hb] at e; cases e
  · cases q : X.s₀.heap.get? b with
    | none => rfl
    | some o =>
      obtain ⟨u, e⟩ := I.base.there b o q (by rw [hx]; simp)
      rw [hb] at e; cases e
  · obtain ⟨m, ⟨o, _, _, ho, _⟩, _⟩ := I.loc
    rw [← z, hb] at ho; cases ho
  · obtain ⟨_, o, ho, _⟩ := I.stack.mem z
    rw [hb] at ho; cases ho
  · obtain ⟨v, o, ho, _⟩ := I.cell x c e
    rw [z, hb] at ho; cases ho
  · have := (I.pin p hp).1
    rw [z, hb] at this; cases this
section
variable {P : Program} {w : World} {K : PySem.W.Frag} {mg : Str → Option Value} {base : Heap} {C : Addr}
theorem def_okX {x qual : Str} {st : Stmt} {f : Addr} {fd : FuncData} {N ps : List Str} {k : Nat} {den : Rho → R Out} (F : Fun K x qual st f fd) (sc : FnScope N ps (defScope st))
    (hb : ∀ (cdv : Value) (A : Around) (outer : List Env) (s : Shared) (H : Hp) (E : XK), Room k (A.deeper (envOfC qual (defScope st) s.heap.objs.size f cdv)) →
      SDs C (cxOf (CXd P w) P w K mg base N qual (defScope st) f cdv A outer s H E) (defBody st) den) :
    FnOk P w K mg base (CXd P w) (k + 1) f fd ps (spX K C mg ps.length fun ds => fin (den (st0 N ds))) := by
  obtain ⟨oc, od, kV, doc, pm, an, cdv, ct, osl, rfl, lk, hcd⟩ := F.ex
  refine fn_of lk hcd sc (fun vs H Q E h => h.1) fun A outer s H vs Q E hr h => ⟨_, hb cdv A outer s H E hr, ?_⟩
  obtain ⟨_, ds, h, q⟩ := h
  refine ⟨st0 N ds, H, rel_start h, ?_⟩
  dsimp only at q
  cases e : den (st0 N ds) with
  | val o =>
    rw [e] at q
    cases o with
    | nx ρ' => exact fun σ' H' r => q _ H' (r.keep.trans msk_sub) .non
    | rt d => exact fun v H' s' h' => q v H' s' h'
    | bk ρ' => exact q.elim
    | ct ρ' => exact q.elim
  | bad => rw [e] at q; exact q.elim
  | exc c =>
    rw [e] at q
    rintro pins σ' H' ev s' I sm ⟨ea, Cc, ch, he, hm, xr, hfx⟩
    subst he
    show wpAny _ _ (leaving _ (.ref ea)) _ _ s'
    unfold leaving
    refine wpAny_bind (leave_raw I.ok.frames I.stack rfl xr fun h' ch' kb nw xr' => ?_)
    have I' := Inv.callX I kb hfx
    refine ⟨ea, .ref Cc, H', ch', rfl, xr', fun b hb => ?_, I.os, I.bare, I'.base, I'.hok, q _ H' hm sm⟩
    rcases nw b hb with hb | hb
    · exact ⟨(hfx b hb).2.1, (hfx b hb).1⟩
    · have fT := fx_new I rfl hb
      exact ⟨fT.2.1, fT.1⟩
end
noncomputable def FnX (P : Program) (w : World) (K : PySem.W.Frag) (mg : Str → Option Value) (base : Heap) (C : Addr) (k : Nat) (x : Str) (n : Nat) (den : List D → R D) : Prop :=
  ∃ f fd ps, FnOk P w K mg base (CXd P w) k f fd ps (spX K C mg n den) ∧ mg x = some (.ref f) ∧ PySem.W.keepIn K (.ref f) = true ∧ Binds K fd ps []
theorem FnX.fn {P : Program} {w : World} {K : PySem.W.Frag} {mg : Str → Option Value} {base : Heap} {C : Addr} {k : Nat} {x : Str} {n : Nat} {den : List D → R D} (F : FnX P w K mg base C k x n den) : Fn P w K mg base C k x n den := by
  obtain ⟨f, fd, ps, h1, h2, h3, h4⟩ := F
  have up : ∀ vs H Q E, spD K C n den vs H Q E → spX K C mg n den vs H Q E0 := fun vs H Q E zz0 => by
    obtain ⟨hl, ds, h, q⟩ := zz0
    refine ⟨hl, ds, h, ?_⟩
    cases e : den ds with
    | val d => rw [e] at q; exact q
    | exc c => rw [e] at q; exact q.elim
    | bad => rw [e] at q; exact q.elim
  refine ⟨f, fd, ps, ⟨fun vs H Q E h => h1.len vs H Q E0 (up vs H Q E h), fun A outer s H args us vs Q E hr he hb hv hs => ?_⟩, h2, h3, h4⟩
  refine codeAny_mono (h1.run A outer s H args us vs Q E0 hr he hb hv (up vs H Q E hs)) fun r s' hq => ?_
  cases r with
  | error e => obtain ⟨_, _, _, _, _, _, _, _, _, _, _, z⟩ := hq; exact z.elim
  | ok fl =>
    cases fl with
    | ret u => exact hq
    | next => exact hq
    | brk => exact hq
    | cont => exact hq
section
variable {C : Addr} {X : Cx}
theorem run_fnX {CX : CXT} {k : Nat} {f : Addr} {fd : FuncData} {ps : List Str} {sp : Sp} {E : XK} {pins : List (Addr × Obj)} {σ : St} {H : Hp} {s : Shared} {Q : VK} {us : List Value} {vs : List V} (F : FnOk X.prog X.w X.K X.mg X.base CX k f fd ps sp) (hr : Room k X.A) (hb : Binds X.K fd ps [])
    (I : Inv X pins σ H s) (r : Vals vs us) (h : sp vs H Q E) : wpAny (model X.prog X.w) X.A (call (.ref f) us) (EP X pins σ Q) (fun e s' => CX X.stack H s E e s') s := by
  have hl : (us ++ []).length = ps.length := by rw [List.append_nil, ← r.length]; exact F.len _ _ _ _ h
  have hbi := hb s us I.kIn hl
  rw [List.append_nil] at hbi
  refine wpAny_call (codeAny_mono (F.run X.A X.stack s H ⟨us, []⟩ us vs Q E hr I.env0 hbi r h) fun r s' hq => ?_)
  cases r with
  | error e => exact hq
  | ok fl =>
    cases fl with
    | ret u => exact I.after hq
    | next => exact False.elim hq
    | brk => exact False.elim hq
    | cont => exact False.elim hq
noncomputable def calX (n : Nat) (den : List D → R D) (a : Rho → R (List D)) : Rho → R D := fun ρ => (a ρ).bind fun ds => if ds.length = n then den ds else .bad
theorem ed_fnX {k n : Nat} {den : List D → R D} {x : Str} {p pos : Pos} {e : Expr} {es : List Expr} {Fa : Rho → R (List D)} (F : FnX X.prog X.w X.K X.mg X.base C k x n den) (hr : Room k X.A) (hg : Gl X x) (ha : AD C X (e :: es) Fa) (hex : X.ex = [])
    (hdb : (x == ("__debug__" : Str)) = false := by decide) (he : starEach (e :: es) X.env = (false, eval e X.env) :: starEach es X.env := by rfl) (hpl : (backTo pos (starEach es X.env)).any (·.1) = false := by rfl) :
    ED C X (.Call (.Name x p) (e :: es) [] pos) (calX n den Fa) := by
  obtain ⟨f, fd, ps, hF, hm, hk, hb⟩ := F
  rintro pins s σ H Q I ⟨ρ, ⟨H0, r0⟩, q⟩
  refine wpAny_Call_Name_kw (ld_glob I hg hm ?_ hdb)
  refine PySem.W.callWith_K (h₀ := X.base) I.ok.mod.kin hk (thn (ha pos pins s σ H (fun vs H1 => ∃ ds, ds.length = n ∧ Same H H1 ∧ HasLX C X ρ σ H1 vs ds ∧ pV X (HasX C X ρ σ) (den ds) σ H Q) I
    ⟨ρ, ⟨H0, r0⟩, pL_bind (P := fun z H => pV X (HasX C X ρ σ) z σ H Q) (fun _ h => h) (fun h => h) q fun ds vs H1 s1 h1 q1 => ?_⟩) fun us s1 ⟨vs, H1, I1, rv, ds, hl, s1', h1, q1⟩ => ⟨I1.kIn, ?_⟩) he hpl
  · split at q1
    · exact ⟨ds, ‹_›, s1, h1, q1⟩
    · exact q1.elim
  · have r1 := r0.mono s1'
    have Z := Rel.hid r1 I1
    have J := I1.hide Z
    have em : ∀ M', (∀ z ∈ owns ρ σ, M' z = none) → msk ρ σ (jn (owns ρ σ) H1 M') = M' := fun M' mz => by
      rw [msk_cut]
      funext b
      by_cases hb : b ∈ owns ρ σ
      · rw [cut_in hb, mz b hb]
      · unfold cut; rw [if_neg hb, jn_out hb]
    have sj : ∀ M', Same (cut (owns ρ σ) H1) M' → Same H1 (jn (owns ρ σ) H1 M') := fun M' sm b o eb => by
      by_cases hb : b ∈ owns ρ σ
      · rw [jn_in hb]; exact eb
      · rw [jn_out hb]; exact sm b o (cut_some.mpr ⟨hb, eb⟩)
    cases e1 : den ds with
    | bad => rw [e1] at q1; exact q1.elim
    | val d =>
      rw [e1] at q1
      refine wpAny_mono (run_fnX (E := E0) (Q := fun v M' => Same (cut (owns ρ σ) H1) M' ∧ Has X.K C M' v d) hF hr hb J rv ?_) (fun u s2 ⟨v, M', J2, ru, sm, hv⟩ => ?_) fun e s2 ⟨_, _, _, _, _, _, _, _, _, _, _, z⟩ => z.elim
      · refine ⟨h1.len.trans hl, ds, by rw [← msk_cut]; exact h1, ?_⟩
        rw [e1]
        exact fun v H' s2 h2 => ⟨s2, h2⟩
      · obtain ⟨I2, mz⟩ := I1.show' Z J2
        exact ⟨v, _, I2, ru, q1 v _ (s1'.trans (sj M' sm)) (by show Has _ _ (msk ρ σ _) v d; rw [em M' mz]; exact hv)⟩
    | exc c =>
      rw [e1] at q1
      refine wpAny_mono (run_fnX (E := fun cl _ M' => (∃ Cc, cl = .ref Cc ∧ X.mg (exN c) = some (.ref Cc)) ∧ Same (cut (owns ρ σ) H1) M') (Q := fun _ _ => False) hF hr hb J rv ?_) (fun u s2 ⟨v, M', J2, ru, z⟩ => z.elim) fun e s2 hq => ?_
      · refine ⟨h1.len.trans hl, ds, by rw [← msk_cut]; exact h1, ?_⟩
        rw [e1]
        exact fun Cc H' hm' s2 => ⟨⟨Cc, rfl, hm'⟩, s2⟩
      · obtain ⟨ea, cl, M', ch, he', xr, hch, hos, hbare, un, hok, ⟨Cc, hcc, hmc⟩, sm⟩ := hq
        subst he'
        subst hcc
        have J2 : Inv X (pins ++ pinsAt (owns ρ σ) s1.heap) σ M' s2 := J.call' hos un hok hbare (ch := []) (fun b z => nomatch z)
        obtain ⟨I2, mz⟩ := I1.show' Z J2
        refine q1 pins _ _ s2 I2 (s1'.trans (sj M' sm)) ⟨ea, Cc, ch, rfl, hmc, xr, fun b hb => ?_⟩
        have f1 := fx_new I1 hex (hch b hb).1
        refine ⟨?_, f1.2⟩
        rw [jn_out fun z => ?_]
        · exact (hch b hb).2
        · obtain ⟨o, ho, _⟩ := Z.obj b z
          rw [(hch b hb).1] at ho; cases ho
end
end DL

set_option Elab.async false
set_option linter.all false
set_option maxRecDepth 100000
set_option maxHeartbeats 4000000
namespace DL
open PySem PySem.Spec PyProof.Rows L2
set_option autoImplicit false
section
variable {C : Addr} {X : Cx}
variable (C X) in
noncomputable def teS (F : Rho → R Unit) : TE := fun σ H Q => ∃ ρ, (∃ H0, RelX C X H0 ρ σ H) ∧ match F ρ with
  | .val _ => ∀ (x : Str) H', Same H H' → Q (.str x) H'
  | _ => False
variable (C X) in
noncomputable def SE (e : Expr) (F : Rho → R Unit) : Prop := PE X e (teS C X F)
noncomputable def fS (a : Rho → R D) : Rho → R Unit := fun ρ => match a ρ with
  | .val (.int i) => if i.natAbs < 10 ^ 40 then .val () else .bad
  | _ => .bad
theorem ten40 {i : Int} (h : i.natAbs < 10 ^ 40) : i.natAbs.log2 < 1920 := by
  by_cases h0 : i.natAbs = 0
  · rw [h0]; decide
  · exact (Nat.log2_lt h0).mpr (Nat.lt_of_lt_of_le h (Nat.le_trans (show 10 ^ 40 ≤ 2 ^ 160 by decide) (Nat.pow_le_pow_right (by decide) (by decide))))
theorem se_f1 {a : Expr} {y : Str} {j : Nat} {pos p1 p2 : Pos} {Fa : Rho → R D} (ha : EB C X a Fa) (hy : y.length ≤ 1000)
    (hd : evalEach [.Constant (.str y) j p2] X.env = [eval (.Constant (.str y) j p2) X.env] := by rfl) : SE C X (.JoinedStr [.FormattedValue a (-1) none p1, .Constant (.str y) j p2] pos) (fS Fa) := by
  rintro pins s σ H Q I ⟨ρ, ⟨H0, r⟩, q⟩
  refine JoinedStr_many (joinParts_cons (FormattedValue_plain ?_))
  unfold fS at q
  cases e : Fa ρ with
  | exc c => rw [e] at q; exact q.elim
  | bad => rw [e] at q; exact q.elim
  | val d =>
    rw [e] at q
    cases d with
    | int i =>
      dsimp only at q
      by_cases hi : i.natAbs < 10 ^ 40
      · rw [if_pos hi] at q
        refine thn (ha pins s σ H (fun v H1 => Same H H1 ∧ v = .int i) I ⟨ρ, ⟨H0, r⟩, ?_⟩) fun u s1 ⟨v, H1, I1, rv, s1', ev⟩ => ?_
        · rw [e]
          exact fun v H1 s1 h1 => ⟨s1, h1.int⟩
        · subst ev
          obtain ⟨t, rfl⟩ := (show ∃ t, u = Value.int i t from rv)
          have hlen := int_text_length_le10 (k := 40) (by decide) hi
          refine formatField_int_small (ten40 hi) ⟨?_, ?_⟩
          · have e0 : (Str.empty ++ (toString i : Str)).length = (Str.ofString (toString i)).length := by
              rw [strLen_append]; exact Nat.zero_add _
            rw [e0, PySem.ofString_length, sizeLine_eq]; omega
          · refine joinParts_cons ?_
            show wpAny _ _ (eval (.Constant (.str y) j p2) X.env) _ _ _
            refine Calls.Constant_str ⟨?_, ?_⟩
            · rw [strLen_append, strLen_append]
              have e0 : (Str.empty : Str).length = 0 := rfl
              have e1 : (toString i : Str).length = (toString i).length := PySem.ofString_length _
              rw [e0, e1, sizeLine_eq]; omega
            · show wpAny _ _ (joinParts _ []) _ _ _
              refine joinParts_nil ⟨.str _, H1, (I1.tok _), ⟨_, rfl⟩, q _ H1 s1'⟩ ?_
              rw [strLen_append, strLen_append]
              have e0 : (Str.empty : Str).length = 0 := rfl
              have e1 : (toString i : Str).length = (toString i).length := PySem.ofString_length _
              rw [e0, e1, sizeLine_eq]; omega
      · rw [if_neg hi] at q; exact q.elim
    | _ => exact q.elim
noncomputable abbrev veM : List Value := [.type "ValueError", .type "Exception", .type "BaseException", .type "object"]
noncomputable def XC (K : PySem.W.Frag) (mg : Str → Option Value) (c : Nat) : Prop := ∃ Cc, mg (exN c) = some (.ref Cc) ∧ PySem.W.excIn K Cc veM "ValueError.__new__" = true
theorem exc_obj {K : PySem.W.Frag} {h : Heap} {Cc : Addr} {bmB : List Value} {newId : String} (X : K.In h) (q : PySem.W.excIn K Cc bmB newId = true) :
    ∃ bm N nm qn bs hd sn sub ab col dd k0 k1 k2 k3 k5 mN, h.get? Cc = some (excClassObj nm qn Cc N bs bm hd sn sub ab col dd k0 k1 k2 k3 k5 newId) ∧ h.Ns N mN ∧ mN "__init__" = none ∧ OwnTail h bmB bm := by
  unfold PySem.W.excIn at q
  cases ho : K.lookup Cc with
  | none => rw [ho] at q; cases q
  | some o =>
    rw [ho] at q
    split at q
    · rename_i dd cd sl eo
      cases eo
      split at q
      · rename_i C1 bm k0 k1 k2 k3 n1 k5 em es
        rw [Bool.and_eq_true, Bool.and_eq_true, Bool.and_eq_true, Bool.and_eq_true, Bool.and_eq_true] at q
        obtain ⟨⟨⟨⟨⟨q1, q2⟩, q3⟩, q4⟩, q5⟩, q6⟩ := q
        obtain rfl := beq_iff_eq.mp q1
        obtain rfl := beq_iff_eq.mp q2
        have hdel : cd.hasDel = false := by simpa using q3
        clear q3
        cases cd with
        | mk nm bs mro ns qn hd sn sub ab col del =>
          dsimp only at em hdel q5 q6
          subst em
          subst hdel
          obtain ⟨sl⟩ := sl
          dsimp only at es
          subst es
          exact ⟨bm, ns, nm, qn, bs, hd, sn, sub, ab, col, dd, k0, k1, k2, k3, k5, _, X _ _ ho, .of_isNs (PySem.W.isNs_of_in X q5), PySem.W.nsMap_none_of_in X q5 (beq_iff_eq.mp q6), PySem.W.tail_of_in X q4⟩
      · cases q
    · cases q
noncomputable def rse (c : Nat) (F : Rho → R Unit) : Rho → R Out := fun ρ => match F ρ with
  | .val _ => .exc c
  | _ => .bad
theorem sd_raise {c : Nat} {x : Str} {np cpos pos : Pos} {e : Expr} {F : Rho → R Unit} (hX : XC X.K X.mg c) (hx : x = exN c) (hc : X.calm = true) (hex : X.ex = []) (hg : Gl X x) (he : SE C X e F) (hst : starEach [e] X.env = (false, eval e X.env) :: starEach [] X.env) (hdb : (x == ("__debug__" : Str)) = false := by decide) :
    SD C X (.Raise (some (.Call (.Name x np) [e] [] cpos)) none pos) (rse c F) := by
  subst hx
  obtain ⟨Cc, hm, hq⟩ := hX
  rintro pins s σ H Dn I ⟨ρ, H0, r, q⟩
  obtain ⟨bm, N, nm, qn, bs, hd, sn, sub, ab, col, dd, k0, k1, k2, k3, k5, mN, hC, hN, hni, T⟩ := exc_obj I.mod.kin hq
  have kb : ∀ {s2 : Shared} {H2 : Hp}, Inv X pins σ H2 s2 → ∀ b o, X.base.get? b = some o → s2.heap.get? b = some o := fun I2 => I2.bk
  unfold rse at q
  cases eF : F ρ with
  | exc c' => rw [eF] at q; exact q.elim
  | bad => rw [eF] at q; exact q.elim
  | val u =>
    rw [eF] at q
    refine wpAny_Raise_call_subT (C := Cc) (nm := nm) (q := qn) (N := N) (bs := bs) (bm := bm) (hdct := hd) (sn := sn) (sub := sub) (ab := ab) (col := col) (dd := dd) (k0 := k0) (k1 := k1) (k2 := k2) (k3 := k3) (k5 := k5)
      PySem.F.excBase_ValueError (mN := mN) (T.hasType PySem.F.excBase_ValueError.hasBase) (I.ok.hd hc) (by rw [hst]; rfl) hni (ld_glob I hg hm ⟨rfl, ?_⟩ hdb)
    have hp := (pa_cons he pa_nil hst) cpos pins s σ H (fun vs H1 => Same H H1 ∧ vs.length = 1) I ⟨ρ, ⟨H0, r⟩, by rw [eF]; exact fun y H' s' => ⟨s', rfl⟩⟩
    rw [hst] at hp ⊢
    refine Calls.evalArgs_plain (thn hp fun us s2 zz0 => ?_)
    obtain ⟨vs, H1, I2, rv, s1', hl⟩ := zz0
    refine ⟨rfl, by show us.length ≤ sizeLine; rw [← rv.length, hl]; decide, I2.bk _ _ hC, hN.keeps I2.bk, T.keeps I2.bk, fun h' ea made => ?_⟩
    obtain ⟨t, g1, g2, g3⟩ := made.there
    have I3 : Inv X pins σ H1 { s2 with heap := h' } := I2.kept (t' := s2.toks) made.keeps
    refine q pins σ H1 (.ref ea) _ I3 ((r.keep.trans msk_sub).trans s1') ⟨ea, Cc, [ea], rfl, hm, ⟨List.mem_singleton.mpr rfl, ⟨_, _, g1, rfl, rfl, rfl, by show 1 < 6; decide, .inl rfl⟩, fun b hb => ?_⟩, fun b hb => ?_⟩
    · rw [List.mem_singleton.mp hb]; exact ⟨_, _, g1, rfl⟩
    · rw [List.mem_singleton.mp hb]; exact fx_new I2 hex made.new
end
end DL

set_option Elab.async false
set_option linter.all false
set_option maxRecDepth 100000
set_option maxHeartbeats 4000000
namespace DL
open PySem PySem.Spec PyProof.Rows L2
set_option autoImplicit false
structure XF (K : PySem.W.Frag) (Cc : Addr) : Prop where
  ex : PySem.W.excIn K Cc veM "ValueError.__new__" = true
  ga : PySem.W.findIn K (.ref Cc) "__getattribute__" = some (some (.builtin "BaseException.__getattribute__"))
  gn : PySem.W.findIn K (.ref Cc) "__getattr__" = some none
  ca : PySem.W.findIn K (.ref Cc) "__class__" = some (some (.builtin "object.__class__"))
  cn : PySem.W.specialIn K (.builtin "object.__class__") "__get__" = some (some (.builtin "getset_descriptor.__get__"))
  ct : PySem.W.takesIn K (.builtin "object.__class__") = some true
  mo : PySem.W.mroIn K Cc (.type "object") = some true
theorem XF.cls {K : PySem.W.Frag} {Cc : Addr} (F : XF K Cc) : (PySem.W.clsIn K Cc).isSome = true := by
  have q := F.ex
  unfold PySem.W.excIn at q
  unfold PySem.W.clsIn
  split at q
  · rename_i ho; rw [ho]; rfl
  · cases q
theorem XF.find {K : PySem.W.Frag} {Cc : Addr} (F : XF K Cc) : PySem.W.findObj K Cc none "__class__" = some (.bind (.builtin "getset_descriptor.__get__") (.builtin "object.__class__")) := by
  obtain ⟨cd, hc⟩ := Option.isSome_iff_exists.mp F.cls
  unfold PySem.W.findObj
  rw [hc, Option.bind_some, F.ca, Option.bind_some]
  simp [F.cn, F.ct]
section
variable {prog : Program} {w : World} {A : Around} {E : Value → Shared → Prop} {K : PySem.W.Frag} {h : Heap} {g : Array GenState} {d : Drawn} {t : Nat} {os : OsState} {x Cc : Addr} {ox : Obj}
open PySem.W in
theorem exc_ga {tk : Tok} {R : Result → Shared → Prop} (F : XF K Cc) (X : K.In h) (I : PySem.W.InstAt h x ox Cc none) (hq : R (.ok (.ret (.ref Cc))) ⟨h, g, d, t, os⟩) :
    codeAny (model prog w) A (.call (.builtin "BaseException.__getattribute__") ⟨[.ref x, .str "__class__" tk], []⟩) R ⟨h, g, d, t, os⟩ := by
  obtain ⟨bm, N, nm, qn, bs, hd, sn, sub, ab, col, dd, k0, k1, k2, k3, k5, mN, hC, hN, hni, T⟩ := exc_obj X F.ex
  have hcB : (Value.ref Cc :: bm).contains (.type "BaseException") = true := by rw [List.contains_cons, T.hasType PySem.F.excBase_ValueError.hasBase]; rfl
  have hx := I.at_
  have hc := I.cls
  have L0 := I.type (M := model prog w)
  have L1 := looks_find (M := model prog w) X I F.find
  refine codeAny_call_builtin PySem.F.attr_ValueError.ga.plain PySem.F.entry_bexc_ga ?_
  have hk : builtinKind "BaseException.__getattribute__" = some .slot := by decide +kernel
  have hsplit : splitId "BaseException.__getattribute__" = some ("BaseException", "__getattribute__") := by decide +kernel
  have ha := PySem.F.args_bexc_ga (.ref x) (.str "__class__" tk)
  have step : ∀ (A' : Around) (E' : Value → Shared → Prop) (Q : Unit → Shared → Prop), Q () ⟨h, g, d, t, os⟩ → wpAny (model prog w) A' (checkBuiltinCall "BaseException.__getattribute__" ⟨[.ref x, .str "__class__" tk], []⟩) Q E' ⟨h, g, d, t, os⟩ := fun A' E' Q q => by
    simp only [checkBuiltinCall, hk, hsplit]
    refine wpAny_bind ?_
    unfold isInstance
    repeat (first | (with_reducible refine wpAny_loadPart_at hx ?_; rw [hc]) | (with_reducible refine wpAny_isSubtype_exc hC ?_; rw [hcB]) | wp_step)
    exact q
  refine step _ _ _ ?_
  unfold Builtin.«object.__getattribute__»
  repeat (any_goals (first | assumption | with_reducible refine L0.at ?_ | with_reducible refine L1.at ?_ | wp_step))
  refine class_get X I F.mo ?_
  repeat (any_goals (first | assumption | wp_step))
open PySem.W in
theorem exc_class {s : Shared} {Q : Option Value → Shared → Prop} (F : XF K Cc) (X : K.In s.heap) (I : PySem.W.InstAt s.heap x ox Cc none) (hq : Q (some (.ref Cc)) { s with toks := s.toks + 1 }) : wpAny (model prog w) A (getAttr? (.ref x) "__class__") Q E s := by
  obtain ⟨h, g, d, t, os⟩ := s
  have L0 := I.type (M := model prog w)
  have L1 := looks_findIn (M := model prog w) X F.ga
  have L2 := looks_findIn (M := model prog w) X F.gn
  have f3 := PySem.F.attr_ValueError.ga.bind (.ref x)
  have hx2 : (Value.builtin "BaseException.__getattribute__" == Value.builtin "object.__getattribute__") = false := by decide +kernel
  have hx1 : (onTheHeap (Value.ref Cc) && Value.builtin "BaseException.__getattribute__" == Value.builtin "object.__getattribute__") = false := by rw [hx2]; rfl
  unfold getAttr? getAttrBy?
  repeat (any_goals (first | assumption | with_reducible refine L0.at ?_ | with_reducible refine L1.at ?_ | with_reducible refine L2.at ?_ | wp_step))
  refine exc_ga F X I ?_
  show wpAny _ _ (handedOut (.ref Cc)) _ _ _
  exact handed_on rfl (wpAny_pure hq)
open PySem.W in
theorem kitx_exc (F : XF K Cc) : KitX K (.ref x) (.ref Cc) (fun h => ∃ ox, PySem.W.InstAt h x ox Cc none) where
  ty := fun _ _ _ yy0 => by
   obtain ⟨ox, I⟩ := yy0
   exact I.type
  it := fun M h X _ => by
    obtain ⟨cd, hc⟩ := Option.isSome_iff_exists.mp F.cls
    unfold clsIn at hc
    split at hc
    · rename_i ho
      intro A' Q' E' s' k q
      unfold isType loadHead
      exact wpAny_bind (wpAny_loadPart (k _ _ (X _ _ ho)) (wpAny_pure q))
    · cases hc
  ne := fun h tp dd its n sl X htp => by
    obtain ⟨cd, hc⟩ := Option.isSome_iff_exists.mp F.cls
    refine Bool.eq_false_iff.mpr fun q => ?_
    have e : Cc = tp := Value.ref.inj (beq_iff_eq.mp q)
    subst e
    unfold clsIn at hc
    split at hc
    · rename_i ho
      have z := (X _ _ ho).symm.trans htp
      cases z
    · cases hc
  ca := fun X ⟨ox, I⟩ k => exc_class F X I k
end
end DL

set_option Elab.async false
set_option linter.all false
set_option maxRecDepth 100000
set_option maxHeartbeats 4000000
namespace DL
open PySem PySem.Spec PyProof.Rows L2
set_option autoImplicit false
structure XAll (K : PySem.W.Frag) (mg : Str → Option Value) (S : List Nat) : Prop where
  cls : ∀ k, k < 7 → ∃ Ck, PySem.W.nsIn K mainGlobals (exN k) = some (some (.ref Ck)) ∧ mg (exN k) = some (.ref Ck)
  xf : ∀ c ∈ S, ∀ Cc, PySem.W.nsIn K mainGlobals (exN c) = some (some (.ref Cc)) → XF K Cc
  kit : ∀ c ∈ S, ∀ k, k < 7 → ∀ Cc Ck, PySem.W.nsIn K mainGlobals (exN c) = some (some (.ref Cc)) → PySem.W.nsIn K mainGlobals (exN k) = some (some (.ref Ck)) → PySem.W.kitOne K (.ref Cc) (.ref Ck) = some (decide (c = k))
  kve : ∀ c ∈ S, ∀ Cc, PySem.W.nsIn K mainGlobals (exN c) = some (some (.ref Cc)) → PySem.W.kitOne K (.ref Cc) (.type "ValueError") = some true
structure KInt (K : PySem.W.Frag) : Prop where
  ii : PySem.W.kitOne K (.type "int") (.type "int") = some true
  bi : PySem.W.kitOne K (.type "bool") (.type "int") = some true
  ni : PySem.W.kitOne K (.type "NoneType") (.type "int") = some false
  ib : PySem.W.kitOne K (.type "int") (.type "bool") = some false
  bb : PySem.W.kitOne K (.type "bool") (.type "bool") = some true
  nb : PySem.W.kitOne K (.type "NoneType") (.type "bool") = some false
section
variable {C : Addr} {X : Cx}
theorem inst_exc {pins : List (Addr × Obj)} {σ : St} {H : Hp} {s : Shared} (I : Inv X pins σ H s) {S : List Nat} (XA : XAll X.K X.mg S) {a : Addr} {c : Nat} (hc : c ∈ S) (e : H a = some (.ext (exP X.K c a))) :
    ∃ Cc, PySem.W.nsIn X.K mainGlobals (exN c) = some (some (.ref Cc)) ∧ XF X.K Cc ∧ ∃ ox, PySem.W.InstAt s.heap a ox Cc none := by
  obtain ⟨⟨ox, Cc, h1, h2, h3, ⟨vs, h4⟩, h5⟩, _⟩ := I.hok a _ e
  refine ⟨Cc, h5, XA.xf c hc Cc h5, ox, h1, h2, ?_, by rw [h3]; trivial⟩
  unfold PySem.W.notCls
  rw [h4]
noncomputable def rIsX (K : PySem.W.Frag) (S : List Nat) (k : Nat) : List V → Hp → VK → Prop := fun vs H Q => ∃ a c Ck, vs = [.ref a, .ref Ck] ∧ PySem.W.nsIn K mainGlobals (exN k) = some (some (.ref Ck)) ∧ H a = some (.ext (exP K c a)) ∧ c ∈ S ∧ Q (.bl (decide (c = k))) H
theorem call_isX {S : List Nat} {k : Nat} (XA : XAll X.K X.mg S) (hk : k < 7) : CallR X (.builtin "isinstance") (rIsX X.K S k) := by
  rintro pins s σ H xs us Q I r ⟨a, c, Ck, rfl, hCk, e, hc, q⟩
  cases r with
  | cons r1 r => cases r with
    | cons r2 r =>
      cases r
      obtain rfl := (show _ = Value.ref Ck from r2)
      obtain rfl := (show _ = Value.ref a from r1)
      obtain ⟨Cc, hCc, F, ox, J⟩ := inst_exc I XA hc e
      exact PySem.W.kia_one (kitx_exc F) I.kIn ⟨ox, J⟩ (XA.kit c hc k hk Cc Ck hCc hCk) (fun z => nomatch z) fun tk => ⟨.bl _, H, I.tok _, rfl, q⟩
noncomputable def fisX (S : List Nat) (k : Nat) : D → R D
  | .exn c => if c ∈ S then .val (.bl (decide (c = k))) else .bad
  | _ => .bad
theorem ed_isX {S : List Nat} {k : Nat} {e : Expr} {x : Str} {p p2 pos : Pos} {F : Rho → R D} (XA : XAll X.K X.mg S) (hk : k < 7) (hxk : x = exN k) (hg : Gl X "isinstance") (hm : X.mg "isinstance" = none) (hgx : Gl X x) (he : EB C X e F) (hst : starEach [e, .Name x p2] X.env = (false, eval e X.env) :: starEach [.Name x p2] X.env)
    (hdb : (x == ("__debug__" : Str)) = false := by decide) : ED C X (.Call (.Name "isinstance" p) [e, .Name x p2] [] pos) (una (fisX S k) F) := by
  subst hxk
  obtain ⟨Ck, hCk, hmk⟩ := XA.cls k hk
  refine pe_weak (pe_callB (call_isX XA hk) hg hm boot_isinstance (pa_cons he (pa_cons (pe_glob (v := .ref Ck) hgx hmk rfl hdb) pa_nil st_Name) hst) (he := hst) (hpl := pl_cons st_Name pl_nil)) fun σ H Q ⟨ρ, r0, q⟩ => ⟨ρ, r0, pV_bind (P := fun z H => pV X (HasX C X ρ σ) z σ H Q) (fun _ h => h) (fun h => h) q fun y v H1 s1 h1 q1 => ?_⟩
  cases y with
  | exn c =>
    cases h1 with
    | cl h1 =>
      cases h1 with
      | exn e1 =>
        by_cases hc : c ∈ S
        · unfold fisX at q1
          dsimp only at q1
          rw [if_pos hc] at q1
          exact ⟨_, c, Ck, rfl, hCk, msk_sub _ _ e1, hc, q1 _ H1 s1 (.bl _)⟩
        · unfold fisX at q1
          dsimp only at q1
          rw [if_neg hc] at q1
          exact q1.elim
  | _ => exact q1.elim
theorem pe_isT {e : Expr} {T : Str} {T' : String} {p p2 pos : Pos} {te : TE} (hg : Gl X "isinstance") (hm : X.mg "isinstance" = none) (hgT : Gl X T) (hmT : X.mg T = none) (hbT : bootBuiltins T = some (.type T')) (he : PE X e te) (hst : starEach [e, .Name T p2] X.env = (false, eval e X.env) :: starEach [.Name T p2] X.env)
    (hn : T ≠ "__name__" := by decide) (hdb : (T == ("__debug__" : Str)) = false := by decide) :
    PE X (.Call (.Name "isinstance" p) [e, .Name T p2] [] pos) (fun σ H Q => te σ H fun v H1 => ∃ b, (∀ (pins : List (Addr × Obj)) (s : Shared) (u : Value) (Q' : Value → Shared → Prop) (E' : Value → Shared → Prop), Inv X pins σ H1 s → RelV v u → (∀ tk, Q' (.bool b) { s with toks := tk }) → wpAny (model X.prog X.w) X.A (call (.builtin "isinstance") [u, .type T']) Q' E' s) ∧ Q (.bl b) H1) := by
  intro pins s σ H Q I h
  refine wpAny_Call_Name_kw (ld_blt I hg hm boot_isinstance ?_)
  refine PyProof.Rows.callWith_builtin1 ?_ hst (pl_cons st_Name pl_nil)
  rw [hst]
  refine Calls.spliced_cons (thn (he pins s σ H _ I h) fun u s1 zz0 => ?_)
  obtain ⟨v, H1, I1, rv, b, hb, q⟩ := zz0
  rw [st_Name]
  refine Calls.spliced_cons (ld_blt I1 hgT hmT hbT ?_ hn hdb)
  refine Calls.spliced_nil ?_
  exact hb pins s1 u _ _ I1 rv fun tk => ⟨.bl b, H1, I1.tok _, rfl, q⟩
noncomputable def fisV (S : List Nat) : D → R D
  | .exn c => if c ∈ S then .val (.bl true) else .bad
  | _ => .bad
theorem ed_isV {S : List Nat} {e : Expr} {p p2 pos : Pos} {F : Rho → R D} (XA : XAll X.K X.mg S) (hg : Gl X "isinstance") (hm : X.mg "isinstance" = none) (hgT : Gl X "ValueError") (hmT : X.mg "ValueError" = none) (hbT : bootBuiltins "ValueError" = some (.type "ValueError")) (he : EB C X e F) (hst : starEach [e, .Name "ValueError" p2] X.env = (false, eval e X.env) :: starEach [.Name "ValueError" p2] X.env) :
    ED C X (.Call (.Name "isinstance" p) [e, .Name "ValueError" p2] [] pos) (una (fisV S) F) :=
  pe_weak (pe_isT hg hm hgT hmT hbT he hst) fun σ H Q yy1 => by
   obtain ⟨ρ, r0, q⟩ := yy1
   exact ⟨ρ, r0, pV_bind (P := fun z H => pV X (HasX C X ρ σ) z σ H Q) (fun _ h => h) (fun h => h) q fun y v H1 s1 h1 q1 => by
    cases y with
    | exn c =>
      cases h1 with
      | cl h1 =>
        cases h1 with
        | @exn a _ e1 =>
          by_cases hc : c ∈ S
          · unfold fisV at q1
            dsimp only at q1
            rw [if_pos hc] at q1
            refine ⟨true, fun pins s u Q' E' I rv hQ => ?_, q1 _ H1 s1 (.bl true)⟩
            obtain rfl := (show u = Value.ref a from rv)
            obtain ⟨Cc, hCc, F, ox, J⟩ := inst_exc I XA hc (msk_sub _ _ e1)
            exact PySem.W.kia_one (kitx_exc F) I.kIn ⟨ox, J⟩ (XA.kve c hc Cc hCc) (fun z => nomatch z) hQ
          · unfold fisV at q1
            dsimp only at q1
            rw [if_neg hc] at q1
            exact q1.elim
    | _ => exact q1.elim⟩
noncomputable def boolsD : List D → Option (List Bool)
  | [] => some []
  | .bl b :: r => (boolsD r).map (b :: ·)
  | _ => none
theorem hasl_bools {K : PySem.W.Frag} {M : Hp} : ∀ {xs : List D} {l : List Bool} {vs : List V}, boolsD xs = some l → HasL K C M vs xs → vs = l.map V.bl
  | [], l, vs, e, h => by cases e; cases h; rfl
  | x :: r, l, vs, e, h => by
    cases x with
    | bl i =>
      rw [boolsD] at e
      cases z : boolsD r with
      | none => rw [z] at e; cases e
      | some l' =>
        rw [z] at e; cases e
        cases h with
        | cons a b => cases a; rw [hasl_bools z b]; rfl
    | _ => cases e
theorem vals_bools : ∀ {bs : List Bool} {us : List Value}, Vals (bs.map V.bl) us → us = bs.map Value.bool
  | [], _, .nil => rfl
  | b :: bs, _, .cons r t => by rw [vals_bools t]; cases (show _ = Value.bool b from r); rfl
noncomputable def isT : Value → Bool
  | .bool b => b
  | _ => false
theorem eq_bool {pins : List (Addr × Obj)} {σ : St} {H : Hp} {s : Shared} (I : Inv X pins σ H s) {A : Around} (hu : A.units < cLine) {bs : List Bool} : ∀ y, y ∈ (bs.map Value.bool).toArray → SeqAt.EqAt A s y (.bool true) (isT y) := fun y hy => by
  have hy : y ∈ bs.map Value.bool := by simpa using hy
  obtain ⟨b, _, rfl⟩ := List.mem_map.mp hy
  have := (eq_ok (C := (0 : Addr)) I 0 (A := A) (x := .bl b) (y := .bl true) (v := .bl b) (w := .bl true) (u := .bool b) (t := .bool true) (by omega) rfl rfl (.bl b) (.bl true) rfl rfl).2
  have e : pyq 0 (.bl b) (.bl true) = isT (.bool b) := by cases b <;> rfl
  rw [e] at this
  exact this
noncomputable def rCnt : V → List V → Hp → VK → Prop := fun x vs H Q => ∃ (l : Addr) (bs : List Bool), x = .ref l ∧ vs = [.bl true] ∧ H l = some (.lst (bs.map V.bl)) ∧ Q (.int ((bs.countP id : Nat) : Int)) H
theorem mt_count (hu : X.A.units + 9 < cLine) : MtM X "list.count" rCnt := by
  intro pins s σ H x vs v us Q I rx rv h
  obtain ⟨l, bs, rfl, rfl, hH, q⟩ := h
  cases rx
  obtain ⟨u1, rfl, r1⟩ := rv.one
  cases (show u1 = Value.bool true from r1)
  obtain ⟨z, its, n, r, hl, e⟩ := I.lstM hH
  have ei := vals_bools r
  subst ei
  refine call_meets PySem.F.slot_list_count ⟨_, e, rfl⟩ PySem.F.entry_list_count (PySem.F.args_list_count_2 _ _) (SeqAt.list_countAt l _ n none #[] (.bool true) isT) ⟨e, eq_bool I ?_, ?_⟩
  · have : X.A.in1.in1.units = X.A.units + 2 := rfl
    first | omega | (show X.A.units + 1 + 1 < cLine; omega) | (show X.A.units + 1 < cLine; omega)
  · refine ⟨.int _, H, I.tok _, ⟨_, rfl⟩, ?_⟩
    have : List.countP isT (bs.map Value.bool) = bs.countP id := by rw [List.countP_map]; rfl
    simp only [this]
    exact q
noncomputable def rIdx : V → List V → Hp → VK → Prop := fun x vs H Q => ∃ (l : Addr) (bs : List Bool) (j : Nat), x = .ref l ∧ vs = [.bl true] ∧ H l = some (.lst (bs.map V.bl)) ∧ bs.length ≤ 1000 ∧ bs.findIdx? id = some j ∧ Q (.int (j : Int)) H
theorem mt_index (hu : X.A.units + 9 < cLine) : MtM X "list.index" rIdx := by
  intro pins s σ H x vs v us Q I rx rv h
  obtain ⟨l, bs, j, rfl, rfl, hH, hlen, hj, q⟩ := h
  cases rx
  obtain ⟨u1, rfl, r1⟩ := rv.one
  cases (show u1 = Value.bool true from r1)
  obtain ⟨z, its, n, r, hl, e⟩ := I.lstM hH
  have ei := vals_bools r
  subst ei
  obtain ⟨hjl, hjt, hjn⟩ := List.findIdx?_eq_some_iff_getElem.mp hj
  refine call_meets PySem.F.slot_list_index ⟨_, e, rfl⟩ PySem.F.entry_list_index (PySem.F.args_list_index_2 _ _) (SeqAt.list_indexAt l _ n none #[] (.bool true) isT j (by simpa using hjl) (by omega) (by simpa [isT] using hjt) (fun m hm hlt => by
    have := hjn m hlt
    simpa [isT] using this)) ⟨e, eq_bool I ?_, ?_⟩
  · first | omega | (show X.A.units + 1 + 1 < cLine; omega) | (show X.A.units + 1 < cLine; omega)
  · exact ⟨.int _, H, I.tok _, ⟨_, rfl⟩, q⟩
noncomputable def cntT : D → R D
  | .lst xs => match boolsD xs with
    | some bs => .val (.int ((bs.countP id : Nat) : Int))
    | none => .bad
  | _ => .bad
noncomputable def idxT : D → R D
  | .lst xs => match boolsD xs with
    | some bs => if bs.length ≤ 1000 then match bs.findIdx? id with
      | some j => .val (.int (j : Int))
      | none => .bad
      else .bad
    | none => .bad
  | _ => .bad
theorem ed_cntT {o : Expr} {ap cp p : Pos} {j : Nat} {F : Rho → R D} (hu : X.A.units + 9 < cLine) (ho : EB C X o F)
    (hs : ∀ {to : TE} {t : TA}, PE X o to → PA X [.Constant (.bool true) j p] t → PE X (.Call (.Attribute o "count" ap) [.Constant (.bool true) j p] [] cp) (tBM X.K "list" rCnt to t) := by
      exact fun ho ha => pe_bm PySem.F.plainAttrs_list PySem.F.slot_list_count PySem.F.type_list_count (mt_count (by assumption)) ho ha) :
    ED C X (.Call (.Attribute o "count" ap) [.Constant (.bool true) j p] [] cp) (una cntT F) :=
  pe_weak (hs ho (pa_cons pe_bl pa_nil st_Constant)) fun σ H Q yy2 => by
   obtain ⟨ρ, r0, q⟩ := yy2
   exact ⟨ρ, r0, pV_bind (P := fun z H => pV X (HasX C X ρ σ) z σ H Q) (fun _ h => h) (fun h => h) q fun y v H1 s1 h1 q1 => by
    cases y with
    | lst xs =>
      unfold cntT at q1
      dsimp only at q1
      split at q1
      · rename_i bs eb
        obtain ⟨a, vs, rfl, e1, h2⟩ := h1.lst msk_sub
        obtain rfl := hasl_bools eb h2
        exact ⟨.inl ⟨rfl, _, SqL.of e1⟩, a, bs, rfl, rfl, e1, q1 _ H1 s1 (.int _)⟩
      · exact q1.elim
    | _ => exact q1.elim⟩
theorem ed_idxT {o : Expr} {ap cp p : Pos} {j : Nat} {F : Rho → R D} (hu : X.A.units + 9 < cLine) (ho : EB C X o F)
    (hs : ∀ {to : TE} {t : TA}, PE X o to → PA X [.Constant (.bool true) j p] t → PE X (.Call (.Attribute o "index" ap) [.Constant (.bool true) j p] [] cp) (tBM X.K "list" rIdx to t) := by
      exact fun ho ha => pe_bm PySem.F.plainAttrs_list PySem.F.slot_list_index PySem.F.type_list_index (mt_index (by assumption)) ho ha) :
    ED C X (.Call (.Attribute o "index" ap) [.Constant (.bool true) j p] [] cp) (una idxT F) :=
  pe_weak (hs ho (pa_cons pe_bl pa_nil st_Constant)) fun σ H Q yy3 => by
   obtain ⟨ρ, r0, q⟩ := yy3
   exact ⟨ρ, r0, pV_bind (P := fun z H => pV X (HasX C X ρ σ) z σ H Q) (fun _ h => h) (fun h => h) q fun y v H1 s1 h1 q1 => by
    cases y with
    | lst xs =>
      unfold idxT at q1
      dsimp only at q1
      split at q1
      · rename_i bs eb
        by_cases hl : bs.length ≤ 1000
        · rw [if_pos hl] at q1
          split at q1
          · rename_i jj ej
            obtain ⟨a, vs, rfl, e1, h2⟩ := h1.lst msk_sub
            obtain rfl := hasl_bools eb h2
            exact ⟨.inl ⟨rfl, _, SqL.of e1⟩, a, bs, jj, rfl, rfl, e1, hl, ej, q1 _ H1 s1 (.int _)⟩
          · exact q1.elim
        · rw [if_neg hl] at q1; exact q1.elim
      · exact q1.elim
    | _ => exact q1.elim⟩
end
end DL

set_option Elab.async false
set_option linter.all false
set_option maxRecDepth 100000
set_option maxHeartbeats 4000000
namespace DL
open PySem PySem.Spec PyProof.Rows L2
set_option autoImplicit false
noncomputable def reX (X : Cx) (A : Around) (cm : Bool) (pn : List (Addr × Obj)) (xe : Value → Shared → Prop) : Cx := { X with A := A, calm := cm, pn := pn, xe := xe }
section
variable {X : Cx} {pins pins' : List (Addr × Obj)} {σ : St} {H : Hp} {s : Shared} {A : Around} {cm : Bool} {xe : Value → Shared → Prop}
theorem _root_.L2.Inv.re (I : Inv X pins σ H s) (hf : A.frames = X.A.frames) (hh : cm = true → A.handled = none) : Inv (reX X A cm (X.pn ++ pins) xe) [] σ H s :=
  ⟨⟨I.ok.mod, I.ok.kind, I.ok.glob, I.ok.blt, I.ok.above, I.ok.inj, I.ok.has, I.ok.cab, hh, hf.trans I.ok.frames, I.ok.stk, I.ok.exf, I.ok.bs, I.ok.bsz, I.ok.noex, I.ok.exfs, I.ok.funs, I.ok.frf⟩, I.os, I.bare, I.base, I.loc, I.cell, I.free, I.freeC, fun p hp => I.pin p (by have hp : p ∈ (X.pn ++ pins) ++ [] := hp; rw [List.append_nil] at hp; exact hp), I.hok, I.len⟩
theorem _root_.L2.Inv.unre (ok : X.Ok) (J : Inv (reX X A cm (X.pn ++ pins) xe) pins' σ H s) : Inv X pins σ H s :=
  ⟨ok, J.os, J.bare, J.base, J.loc, J.cell, J.free, J.freeC, fun p hp => J.pin p (List.mem_append_left _ hp), J.hok, J.len⟩
theorem _root_.L2.Inv.goes {i : Nat} {x : Str} {h' : Heap} {v : Option Value} {m : Str → Option Value} {t' : Nat} (I : Inv X pins σ H s) (hN : X.N.Nodup) (hi : X.N[i]? = some x) (hn : s.heap.Ns X.env.locals m) (hn' : h'.Ns X.env.locals (fun y => if y = x then v else m y)) (hs : Heap.SameBut X.env.locals s.heap h') :
    Inv X pins (σ.set i none) H { s with heap := h', toks := t' } := by
  have oth : ∀ b, b ≠ X.env.locals → h'.get? b = s.heap.get? b := fun b hb => hs.2 b hb
  have neL : ∀ b o, X.s₀.heap.get? b = some o → b ≠ X.env.locals := fun b o e => Nat.ne_of_lt (Nat.lt_of_lt_of_le (Heap.lt_size e) I.ok.above)
  obtain ⟨m0, hn0, hl⟩ := I.loc
  have em : m0 = m := by
    obtain ⟨o, es, ep, ho, hd, _, hf⟩ := hn0
    obtain ⟨o', es', ep', ho', hd', _, hf'⟩ := hn
    rw [ho] at ho'; cases ho'
    rw [hd] at hd'; cases hd'
    funext y
    rw [← hf y, ← hf' y]
  subst em
  refine ⟨I.ok, I.os, I.bare, ⟨fun b o e n hb hx => ?_, fun b o e n hb hx => ?_, I.base.free, fun b o e hx => ?_, I.base.tups, I.base.frzs, I.base.tbls⟩, ⟨_, hn', fun j y v' e1 e2 e3 => ?_⟩, fun y c e => ?_, I.free, I.freeC, fun p hp => ?_, fun b ob e => ?_, by simpa using I.len⟩
  · exact (oth b (neL b o e)).trans (I.base.keep b o e n hb hx)
  · obtain ⟨sl, q⟩ := I.base.slot b o e n hb hx
    exact ⟨sl, (oth b (neL b o e)).trans q⟩
  · obtain ⟨o', q⟩ := I.base.there b o e hx
    exact ⟨o', (oth b (neL b o e)).trans q⟩
  · have hj : i ≠ j := fun z => by
      subst z
      rw [List.getElem?_set] at e2
      simp only [if_true] at e2
      split at e2 <;> cases e2
    rw [List.getElem?_set_ne hj] at e2
    obtain ⟨u', r', q⟩ := hl j y v' e1 e2 e3
    refine ⟨u', r', ?_⟩
    rcases q with ⟨k, e⟩ | ⟨k, c, e, z⟩
    · refine .inl ⟨k, ?_⟩
      have : y ≠ x := fun e => hj (nodup_ix hN hi (e ▸ e1))
      simp [this, e]
    · exact .inr ⟨k, c, e, z.sameBut hs (I.cne y c e)⟩
  · obtain ⟨w', z⟩ := I.cell y c e
    exact ⟨w', z.sameBut hs (I.cne y c e)⟩
  · obtain ⟨e, n, ne, nf, d⟩ := I.pin p hp
    exact ⟨(oth p.1 ne).trans e, n, ne, nf, d⟩
  · refine (I.hok b ob e).stay (fun c w' hc q => (oth c fun z => ?_).trans q) (fun _ q => q) fun _ _ q => q
    rcases hc with hc | hc
    · rw [← hc, z, I.free] at e; cases e
    · rw [z, I.free] at hc; cases hc
theorem _root_.L2.Inv.adopt {a : Addr} {o : HO} (I : Inv X pins σ H s) (f : FxOk X pins H a) (ok : ObjOk X.prog X.w (upd H a o) s.heap a o) : Inv X pins σ (upd H a o) s := by
  obtain ⟨f1, f2, f3, f4, f5, f6⟩ := f
  have up : ∀ b u, H b = some u → upd H a o b = some u := fun b u e => by rw [upd_ne (fun z => by rw [z, f1] at e; cases e)]; exact e
  refine ⟨I.ok, I.os, I.bare, ⟨I.base.keep, I.base.slot, fun b u e n hx => ?_, I.base.there, fun b xs e => up _ _ (I.base.tups b xs e), fun b u w e => up _ _ (I.base.frzs b u w e), fun b ps e => ?_⟩, I.loc, I.cell, ?_, fun x c e => ?_, fun p hp => ?_, fun b u e => ?_, I.len⟩
  · rw [upd_ne (fun z => by rw [z, f2] at e; cases e)]; exact I.base.free b u e n hx
  · obtain ⟨more, q⟩ := I.base.tbls b ps e
    exact ⟨more, up _ _ q⟩
  · rw [upd_ne f3.symm]; exact I.free
  · rw [upd_ne (f5 x c e)]; exact I.freeC x c e
  · obtain ⟨q1, q2, q3⟩ := I.pin p hp
    exact ⟨q1, by rw [upd_ne (f6 p hp)]; exact q2, q3⟩
  · by_cases hb : b = a
    · subst hb
      rw [upd_same] at e; cases e
      exact ok
    · rw [upd_ne hb] at e
      exact (I.hok b u e).stay (fun c w' _ q => q) (fun c q => up _ _ q) fun c xs q => up _ _ q
end
structure XB (K : PySem.W.Frag) (mg : Str → Option Value) (S : List Nat) (CA : Addr) : Prop where
  nm : mg "ArrowError" = some (.ref CA)
  be : PySem.W.kitOne K (.ref CA) (.type "BaseException") = some true
  up : ∀ c ∈ S, ∀ Cc, PySem.W.nsIn K mainGlobals (exN c) = some (some (.ref Cc)) → PySem.W.kitOne K (.ref Cc) (.ref CA) = some true ∧ Cc ≠ CA
open PySem.W in
theorem kit_looks {K : PySem.W.Frag} {M : Model} {h : Heap} {t c : Value} {v : Bool} (X : K.In h) (e : kitOne K t c = some v) (ne : t ≠ c) : Looks M h (typeOf c) (.type "type") ∧ Looks M h (isType c) true ∧ Looks M h (isSubtype t c) v := by
  unfold kitOne at e
  rw [if_neg (fun z => ne (beq_iff_eq.mp z))] at e
  exact kit_cls X e
theorem match_ok {prog : Program} {w : World} {A : Around} {E : Value → Shared → Prop} {s : Shared} {K : PySem.W.Frag} {mg : Str → Option Value} {S : List Nat} {CA Cc e : Addr} {c : Nat} {Q : Bool → Shared → Prop} {ox : Obj} (X : K.In s.heap) (B : XB K mg S CA) (hc : c ∈ S) (hCc : PySem.W.nsIn K mainGlobals (exN c) = some (some (.ref Cc)))
    (I : PySem.W.InstAt s.heap e ox Cc none) (hq : Q true s) : wpAny (model prog w) A (excMatches (.ref e) (.ref CA)) Q E s := by
  obtain ⟨L1, L2, L3⟩ := kit_looks (M := model prog w) X (B.up c hc Cc hCc).1 (fun z => (B.up c hc Cc hCc).2 (Value.ref.inj z))
  obtain ⟨L4, L5, L6⟩ := kit_looks (M := model prog w) X B.be (fun z => by cases z)
  have L0 := I.type (M := model prog w)
  have f := tc_notTuple
  obtain ⟨h, g, d, t, os⟩ := s
  unfold excMatches isInstance isExcClass
  repeat (any_goals (first | assumption | with_reducible refine L0.at ?_ | with_reducible refine L1.at ?_ | with_reducible refine L2.at ?_ | with_reducible refine L3.at ?_ | with_reducible refine L6.at ?_ | wp_step))
end DL

set_option Elab.async false
set_option linter.all false
set_option maxRecDepth 100000
set_option maxHeartbeats 4000000
namespace DL
open PySem PySem.Spec PyProof.Rows L2
set_option autoImplicit false
structure RoomN (k : Nat) (A : Around) : Prop where
  dp : A.depth + 3 * k + 5 < recursionLimit
  un : A.units + 16 * k + 200 < cLine
theorem RoomN.of {k : Nat} {A : Around} (r : Room k A) : RoomN k A := ⟨r.dp, r.un⟩
theorem RoomN.mark {k : Nat} {A : Around} {h : Option Value} (r : RoomN k A) : RoomN k (A.mark h) := ⟨r.dp, r.un⟩
theorem RoomN.mono {j k : Nat} {A : Around} (r : RoomN k A) (h : j ≤ k) : RoomN j A := ⟨by have := r.dp; omega, by have := r.un; omega⟩
theorem RoomN.deeper {k : Nat} {A : Around} (r : RoomN (k + 1) A) (env : Env) : RoomN k (A.deeper env) :=
  ⟨by have := r.dp; show A.depth + 1 + 3 * k + 5 < _; omega, by have := r.un; show A.units + 3 + 16 * k + 200 < _; omega⟩
theorem room9N {k : Nat} {A : Around} (r : RoomN k A) : A.units + 9 < cLine := by have := r.un; omega
noncomputable def cxN (P : Program) (w : World) (K : PySem.W.Frag) (mg : Str → Option Value) (base : Heap) (N : List Str) (qual : Str) (scope : Scope) (f : Addr) (cd : Value) (A : Around) (outer : List Env) (s : Shared) (H : Hp) : Cx :=
  { cxOf CX0 P w K mg base N qual scope f cd A outer s H E0 with calm := false, xe := fun _ _ => False }
structure FnNk (P : Program) (w : World) (K : PySem.W.Frag) (mg : Str → Option Value) (base : Heap) (k : Nat) (f : Addr) (fd : FuncData) (ps : List Str) (sp : Sp) : Prop where
  len : ∀ vs H Q E, sp vs H Q E → vs.length = ps.length
  run : ∀ (A : Around) (outer : List Env) (s : Shared) (H : Hp) (args : Args) (us : List Value) (vs : List V) (Q : VK) (E : XK), RoomN k A → Env0 P w K mg base A outer s H → BindsTo s fd args (ps.zip us) → Vals vs us → sp vs H Q E →
    codeAny (model P w) A (.call (.ref f) args) (CR CX0 outer P w H s Q E) s
section
variable {P : Program} {w : World} {K : PySem.W.Frag} {mg : Str → Option Value} {base : Heap} {C : Addr}
theorem inv_startN {N ps : List Str} {qual : Str} {scope : Scope} {f : Addr} {cd : Value} {A : Around} {outer : List Env} {s s1 : Shared} {H : Hp} {us : List Value} {vs : List V}
    (S : FnScope N ps scope) (e0 : Env0 P w K mg base A outer s H) (hl : vs.length = ps.length) (r : Vals vs us)
    (x : InCallC s s.heap.objs.size (bindL (envOfC qual scope s.heap.objs.size f cd).kindOf (ps.zip us) fun _ => none) (cellsFrom (s.heap.objs.size + 1) scope.names []) (bindC (envOfC qual scope s.heap.objs.size f cd).kindOf (ps.zip us) fun _ => none) s1) :
    Inv (cxN P w K mg base N qual scope f cd A outer s H) [] (L2.start N vs) H s1 := by
  have e1 : Env0 P w K mg base { A with handled := none } outer s H := ⟨e0.frames, e0.mod, e0.bs, e0.bsz, e0.funs, e0.frf, e0.hok, e0.bare⟩
  have I := inv_start (CX := CX0) (E := E0) S (show ({ A with handled := none } : Around).handled = none from rfl) e1 hl r x
  exact ⟨⟨I.ok.mod, I.ok.kind, I.ok.glob, I.ok.blt, I.ok.above, I.ok.inj, I.ok.has, I.ok.cab, fun z => (by cases z), Around.frames_deeper e0.frames, I.ok.stk, I.ok.exf, I.ok.bs, I.ok.bsz, I.ok.noex, I.ok.exfs, I.ok.funs, I.ok.frf⟩, I.os, I.bare, I.base, I.loc, I.cell, I.free, I.freeC, I.pin, I.hok, I.len⟩
theorem def_okN {x qual : Str} {st : Stmt} {f : Addr} {fd : FuncData} {N ps : List Str} {k : Nat} {den : Rho → R Out} (F : Fun K x qual st f fd) (S : FnScope N ps (defScope st))
    (hb : ∀ (cdv : Value) (A : Around) (outer : List Env) (s : Shared) (H : Hp), RoomN k (A.deeper (envOfC qual (defScope st) s.heap.objs.size f cdv)) →
      SDs C (cxN P w K mg base N qual (defScope st) f cdv A outer s H) (defBody st) den) :
    FnNk P w K mg base (k + 1) f fd ps (spD K C ps.length fun ds => fin (den (st0 N ds))) := by
  obtain ⟨oc, od, kV, doc, pm, an, cdv, ct, osl, rfl, lk, hcd⟩ := F.ex
  refine ⟨fun vs H Q E h => h.1, fun A outer s H args us vs Q E hr e0 hbi r hsp => ?_⟩
  have hl : vs.length = ps.length := hsp.1
  have KX : K.In s.heap := e0.mod.kin.keeps fun b o e => (e0.bs b o e).1
  have lim : s.heap.NoLimit := e0.mod.nolimit.keeps fun b o e => (e0.bs b o e).1
  have hkind : ∀ y ∈ ps.zip us, (defScope st).names.lookup y.1 = some .local ∨ ((defScope st).names.lookup y.1 = some .cell ∧ ((cellsFrom (s.heap.objs.size + 1) (defScope st).names []).lookup y.1).isSome = true) := fun ⟨n, v⟩ hy => by
    rcases S.par n (List.of_mem_zip hy).1 with q | q
    · exact .inl q
    · exact .inr ⟨q, PySem.W.cellsFrom_some _ _ _ (.inl q)⟩
  refine codeAny_call_function (by have := hr.dp; omega) (KX _ _ lk) rfl S.co S.gen rfl (PySem.W.codeRec_of KX hcd) (hbi _ _ _ _ ?_)
  refine wpAny_newFunctionEnv_cells S.kind hkind fun env he s1 x => ?_
  subst he
  refine ⟨lim.keeps x.toInCall.keep, codeAny_func ?_⟩
  have I := inv_startN (cd := cdv) S e0 hl r x
  have hq : tsD C (cxN P w K mg base N qual (defScope st) f cdv A outer s H) den { nx := fun _ H' => Q .non H', rt := Q } (L2.start N vs) H := by
    obtain ⟨_, ds, h, q⟩ := hsp
    refine ⟨st0 N ds, H, rel_start h, ?_⟩
    dsimp only at q
    cases e : den (st0 N ds) with
    | val o =>
      rw [e] at q
      cases o with
      | nx ρ' => exact fun σ' H' r => q _ H' (r.keep.trans msk_sub) .non
      | rt d => exact fun v H' s' h' => q v H' s' h'
      | bk ρ' => exact q.elim
      | ct ρ' => exact q.elim
    | exc c => rw [e] at q; exact q.elim
    | bad => rw [e] at q; exact q.elim
  refine wpAny_mono (hb cdv A outer s H (hr.deeper _) [] s1 (L2.start N vs) H _ I hq) (fun fl s' hs => ?_) fun e s' hs => hs.elim
  have fin : ∀ {σ' : St} {H' : Hp} {v : V} {u : Value}, Inv (cxN P w K mg base N qual (defScope st) f cdv A outer s H) [] σ' H' s' → RelV v u → Q v H' → CE outer P w H s Q u s' :=
    fun {σ' H' v u} J rv q => ⟨v, H', J.os, J.bare, J.base, J.hok, rv, q⟩
  cases fl with
  | ret u =>
    obtain ⟨v, σ', H', J, rv, q⟩ := hs
    exact fin J rv q
  | next =>
    obtain ⟨σ', H', J, q⟩ := hs
    exact fin (v := V.non) (u := Value.none) J rfl q
  | brk =>
    obtain ⟨_, _, _, q⟩ := hs
    exact False.elim q
  | cont =>
    obtain ⟨_, _, _, q⟩ := hs
    exact False.elim q
end
noncomputable def FnN (P : Program) (w : World) (K : PySem.W.Frag) (mg : Str → Option Value) (base : Heap) (C : Addr) (k : Nat) (x : Str) (n : Nat) (den : List D → R D) : Prop :=
  ∃ f fd ps, FnNk P w K mg base k f fd ps (spD K C n den) ∧ mg x = some (.ref f) ∧ PySem.W.keepIn K (.ref f) = true ∧ Binds K fd ps []
section
variable {C : Addr} {X : Cx}
theorem ed_fnN {k n : Nat} {den : List D → R D} {x : Str} {p pos : Pos} {e : Expr} {es : List Expr} {Fa : Rho → R (List D)} (F : FnN X.prog X.w X.K X.mg X.base C k x n den) (hr : RoomN k X.A) (hg : Gl X x) (ha : AD C X (e :: es) Fa)
    (hdb : (x == ("__debug__" : Str)) = false := by decide) (he : starEach (e :: es) X.env = (false, eval e X.env) :: starEach es X.env := by rfl) (hpl : (backTo pos (starEach es X.env)).any (·.1) = false := by rfl) :
    ED C X (.Call (.Name x p) (e :: es) [] pos) (cal n den Fa) := by
  obtain ⟨f, fd, ps, hF, hm, hk, hb⟩ := F
  rintro pins s σ H Q I ⟨ρ, ⟨H0, r0⟩, q⟩
  refine wpAny_Call_Name_kw (ld_glob I hg hm ?_ hdb)
  refine PySem.W.callWith_K (h₀ := X.base) I.ok.mod.kin hk (thn (ha pos pins s σ H (fun vs H1 => ∃ ds d, ds.length = n ∧ Same H H1 ∧ HasLX C X ρ σ H1 vs ds ∧ den ds = .val d ∧ ∀ v H', Same H H' → HasX C X ρ σ H' v d → Q v H') I
    ⟨ρ, ⟨H0, r0⟩, pL_bind (P := fun z H => pV X (HasX C X ρ σ) z σ H Q) (fun _ h => h) (fun h => h) q fun ds vs H1 s1 h1 q1 => ?_⟩) fun us s1 ⟨vs, H1, I1, rv, ds, d, hl, s1', h1, e1, q1⟩ => ⟨I1.kIn, ?_⟩) he hpl
  · split at q1
    · rename_i hl
      cases e1 : den ds with
      | val d => rw [e1] at q1; exact ⟨ds, d, hl, s1, h1, e1, q1⟩
      | exc c => rw [e1] at q1; exact q1.elim
      | bad => rw [e1] at q1; exact q1.elim
    · exact q1.elim
  · have r1 := r0.mono s1'
    have Z := Rel.hid r1 I1
    have J := I1.hide Z
    have hsp : spD X.K C n den vs (cut (owns ρ σ) H1) (fun v M' => Same (cut (owns ρ σ) H1) M' ∧ Has X.K C M' v d) E0 := by
      refine ⟨h1.len.trans hl, ds, by rw [← msk_cut]; exact h1, ?_⟩
      rw [e1]
      exact fun v H' s2 h2 => ⟨s2, h2⟩
    have hlen : (us ++ []).length = ps.length := by rw [List.append_nil, ← rv.length]; exact hF.len _ _ _ _ hsp
    have hbi := hb s1 us J.kIn hlen
    rw [List.append_nil] at hbi
    refine wpAny_call (codeAny_mono (hF.run X.A X.stack s1 _ ⟨us, []⟩ us vs _ E0 hr J.env0 hbi rv hsp) fun r s2 hq => ?_)
    cases r with
    | error e => exact hq.elim
    | ok fl =>
      cases fl with
      | ret u =>
        obtain ⟨v, M', J2, ru, sm, hv⟩ := J.after hq
        obtain ⟨I2, mz⟩ := I1.show' Z J2
        have sj : Same H1 (jn (owns ρ σ) H1 M') := fun b o eb => by
          by_cases hb : b ∈ owns ρ σ
          · rw [jn_in hb]; exact eb
          · rw [jn_out hb]; exact sm b o (cut_some.mpr ⟨hb, eb⟩)
        have em : msk ρ σ (jn (owns ρ σ) H1 M') = M' := by
          rw [msk_cut]
          funext b
          by_cases hb : b ∈ owns ρ σ
          · rw [cut_in hb, mz b hb]
          · unfold cut; rw [if_neg hb, jn_out hb]
        exact ⟨v, _, I2, ru, q1 v _ (s1'.trans sj) (by show Has _ _ (msk ρ σ _) v d; rw [em]; exact hv)⟩
      | next => exact False.elim hq
      | brk => exact False.elim hq
      | cont => exact False.elim hq
end
end DL

set_option Elab.async false
set_option linter.all false
set_option maxRecDepth 100000
set_option maxHeartbeats 4000000
namespace DL
open PySem PySem.Spec PyProof.Rows L2
set_option autoImplicit false
section
variable (C : Addr) (X : Cx)
noncomputable def pE (σ : St) (H : Hp) (o : R Out) (H0 : Hp) (Dn : Ends) : Prop := match o with
  | .exc c => XE X c σ H
  | o => pS C X o H0 Dn
noncomputable def tsE (F : Rho → R Out) : TS := fun Dn σ H => ∃ ρ H0, RelX C X H0 ρ σ H ∧ pE C X σ H (F ρ) H0 Dn
noncomputable def SDe (st : Stmt) (F : Rho → R Out) : Prop := PS X st (tsE C X F)
noncomputable def SDEs (st : List Stmt) (F : Rho → R Out) : Prop := PSs X st (tsE C X F)
end
section
variable {C : Addr} {X : Cx}
theorem pE.mono {σ : St} {H H' : Hp} {o : R Out} {H0 : Hp} {Dn : Ends} (s : Same H H') (h : pE C X σ H o H0 Dn) : pE C X σ H' o H0 Dn := by
  cases o with
  | val o => exact h
  | exc c => exact XE.mono s h
  | bad => exact h
theorem sdes_one {st : Stmt} {F : Rho → R Out} (h : SDe C X st F) : SDEs C X [st] F := pss_one h
theorem sde_set {i : Nat} {x : Str} {e : Expr} {pos pos' : Pos} {F : Rho → R D} (hN : X.N.Nodup) (hi : X.N[i]? = some x) (hx : Loc X.env.scope x) (he : ED C X e F) (hs : swapsWith e (some (.Name x pos')) pos.line X.env = pure false := by rfl)
    (hf : X.fn x = true ∨ X.env.scope.names.lookup x = some .local := by first | exact .inl rfl | exact .inr rfl | assumption) : SDe C X (.Assign [.Name x pos'] e pos) (asg i F) :=
  ps_weak (ps_set hN hi hx he hs hf) fun D σ H yy0 => by
   obtain ⟨ρ, H0, r, q⟩ := yy0
   exact ⟨ρ, ⟨H0, r⟩, pV_bind (P := fun z _ => pE C X σ H z H0 D) (fun c h => h) (fun h => h) q fun d v H1 s1 h1 q1 => q1 _ _ ((r.mono s1).setShr h1)⟩
theorem sde_if {c : Expr} {a b : List Stmt} {pos : Pos} {Ft : Rho → R Bool} {Fa Fb : Rho → R Out} (hc : TD C X c Ft) (ha : SDEs C X a Fa) (hb : SDEs C X b Fb) : SDe C X (.If c a b pos) (iff Ft Fa Fb) :=
  ps_weak (ps_if hc ha hb) fun D σ H yy2 => by
   obtain ⟨ρ, H0, r, q⟩ := yy2
   exact ⟨ρ, ⟨H0, r⟩, pB_bind (P := fun z _ => pE C X σ H z H0 D) (fun c h => h) (fun h => h) q fun c H1 s1 q1 => by
    cases c with
    | true => exact iteT ⟨ρ, H0, r.mono s1, pE.mono s1 q1⟩
    | false => exact iteF ⟨ρ, H0, r.mono s1, pE.mono s1 q1⟩⟩
end
section
variable {K : PySem.W.Frag} {C : Addr} {H0 H : Hp} {ρ : Rho} {σ : St}
theorem Own.goes {i : Nat} {b : Addr} {o : Option V} : Own (ρ.set i none) (σ.set i o) b ↔ Own (ρ.set i none) σ b := by
  constructor
  · rintro ⟨j, sl, e, ow, q⟩
    exact ⟨j, sl, e, ow, by rw [List.getElem?_set_ne (forget_at e).1] at q; exact q⟩
  · rintro ⟨j, sl, e, ow, q⟩
    exact ⟨j, sl, e, ow, by rw [List.getElem?_set_ne (forget_at e).1]; exact q⟩
theorem Rel.goes (r0 : Rel K C H0 ρ σ H) (i : Nat) (o : Option V) : Rel K C H0 (ρ.set i none) (σ.set i o) H := by
  have r := r0.forget i
  have em : msk (ρ.set i none) (σ.set i o) H = msk (ρ.set i none) σ H := by
    funext b
    unfold msk
    by_cases h : Own (ρ.set i none) σ b
    · rw [if_pos h, if_pos (Own.goes.mpr h)]
    · rw [if_neg h, if_neg fun z => h (Own.goes.mp z)]
  refine ⟨by simpa using r.len, by rw [em]; exact r.keep, fun j sl e => ?_, fun j k sl sl' a e ow e' ow' q q' => ?_⟩
  · rw [em, List.getElem?_set_ne (forget_at e).1]
    exact r.at_ j sl e
  · rw [List.getElem?_set_ne (forget_at e).1] at q
    rw [List.getElem?_set_ne (forget_at e').1] at q'
    exact r.inj j k sl sl' a e ow e' ow' q q'
end
noncomputable def tryD (S : List Nat) (ie : Nat) (F G : Rho → R Out) : Rho → R Out := fun ρ => match F ρ with
  | .val o => .val o
  | .bad => .bad
  | .exc c => if c ∈ S then match G (ρ.set ie (some (.shr (.exn c)))) with
    | .val (.nx ρ') => .val (.nx (ρ'.set ie none))
    | _ => .bad
    else .bad
section
variable {C : Addr} {X : Cx}
theorem SP.unre {pins pins' : List (Addr × Obj)} {Dn : Ends} {f : Flow} {s : Shared} {A : Around} {cm : Bool} {xe : Value → Shared → Prop} (ok : X.Ok) (h : SP (reX X A cm (X.pn ++ pins) xe) pins' Dn f s) : SP X pins Dn f s := by
  cases f with
  | next => obtain ⟨σ', H', I, q⟩ := h; exact ⟨σ', H', I.unre ok, q⟩
  | brk => obtain ⟨σ', H', I, q⟩ := h; exact ⟨σ', H', I.unre ok, q⟩
  | cont => obtain ⟨σ', H', I, q⟩ := h; exact ⟨σ', H', I.unre ok, q⟩
  | ret u => obtain ⟨v, σ', H', I, r, q⟩ := h; exact ⟨v, σ', H', I.unre ok, r, q⟩
theorem exc_inst {h : Heap} {ea Cc : Addr} {ch : List Addr} (xr : ExcRec h ea (.ref Cc) ch) : ∃ ox, PySem.W.InstAt h ea ox Cc none ∧ h.get? ea = some ox ∧ ox.cls = .ref Cc ∧ ox.dict = none ∧ ∃ vs, ox.data = .fields vs := by
  obtain ⟨_, ⟨oe, vs, he, hc, hdc, hd, _, _⟩, _⟩ := xr
  refine ⟨oe, ⟨he, hc, ?_, by rw [hdc]; trivial⟩, he, hc, hdc, vs, hd⟩
  unfold PySem.W.notCls
  rw [hd]
theorem sd_try {S : List Nat} {CA : Addr} {ie : Nat} {en : Str} {body : List Stmt} {b0 : Stmt} {bs : List Stmt} {np hp pos : Pos} {F G : Rho → R Out} (B : XB X.K X.mg S CA) (XA : XAll X.K X.mg S) (hS : ∀ c ∈ S, c < 7) (hgA : Gl X "ArrowError")
    (hN : X.N.Nodup) (hie : X.N[ie]? = some en) (hloc : X.env.kindOf en = some .local) (hlo : X.env.scope.names.lookup en = some .local) (hpm : (X.env.scope.kind == .class || (X.env.scope.kind == .module && X.env.locals != X.env.globals)) = false)
    (hex : X.ex = []) (hstk : X.stack = X.env :: X.outer) (hfrm : X.env.frame = some X.env.locals)
    (hb : ∀ pn xe, SDEs C (reX X X.A X.calm pn xe) body F)
    (hh : ∀ ev pn, SDs C (reX X (X.A.mark (some ev)) false pn (fun _ _ => False)) (b0 :: bs) G) :
    SD C X (.Try body [.ExceptHandler (some (.Name "ArrowError" np)) (some en) (b0 :: bs) hp] [] [] pos) (tryD S ie F G) := by
  rintro pins s σ H Dn I ⟨ρ, H0, r, q⟩
  refine wpAny_Try_except ?_
  have I0 : Inv (reX X X.A X.calm (X.pn ++ pins) (fun e s1 => wpAny (model X.prog X.w) X.A (noteFrame e X.env) (fun _ s2 => wpAny (model X.prog X.w) X.A (setFlight e none) (fun _ s3 => wpAny (model X.prog X.w) X.A (handleBy e X.env [.ExceptHandler (some (.Name "ArrowError" np)) (some en) (b0 :: bs) hp]) (SP X pins Dn) X.xe s3) X.xe s2) X.xe s1)) [] σ H s := I.re rfl I.ok.hd
  refine thn (hb _ _ [] s σ H Dn I0 ⟨ρ, H0, r, ?_⟩) fun f s1 hq => ?_
  · unfold tryD at q
    cases e : F ρ with
    | val o => rw [e] at q; cases o <;> exact q
    | bad => rw [e] at q; exact q
    | exc c =>
      rw [e] at q
      dsimp only at q
      by_cases hc : c ∈ S
      · rw [if_pos hc] at q
        rintro pins' H' ev s' I' sm ⟨ea, Cc, ch, he, hm, xr, hfx⟩
        subst he
        have fr : X.A.frames = some (X.env :: X.outer) := by rw [← hstk]; exact I.ok.frames
        have fs : s'.heap.FunFrames X.base (X.env :: X.outer) := by have := I'.stack; rw [show (reX X X.A X.calm (X.pn ++ pins) (fun e s1 => wpAny (model X.prog X.w) X.A (noteFrame e X.env) (fun _ s2 => wpAny (model X.prog X.w) X.A (setFlight e none) (fun _ s3 => wpAny (model X.prog X.w) X.A (handleBy e X.env [.ExceptHandler (some (.Name "ArrowError" np)) (some en) (b0 :: bs) hp]) (SP X pins Dn) X.xe s3) X.xe s2) X.xe s1)).stack = X.env :: X.outer from hstk] at this; exact this
        refine leave_raw fr fs hfrm xr fun h' ch' kb nw xr' => ?_
        rw [← hstk] at kb
        have U' := I'.unre I.ok
        have fx0 : ∀ b ∈ ch, FxOk X pins H' b := fun b hb => by
          obtain ⟨a1, a2, a3, a4, a5, a6⟩ := hfx b hb
          exact ⟨a1, a2, a3, a4, a5, fun p hp => a6 p (List.mem_append_left _ hp)⟩
        have I1 := Inv.callX U' kb fx0
        have fx1 : ∀ b ∈ ch', FxOk X pins H' b := fun b hb => by
          rcases nw b hb with hb | hb
          · exact fx0 b hb
          · exact fx_new U' hex hb
        have I3 : Inv (reX X (X.A.mark (some (.ref ea))) false (X.pn ++ pins) (fun _ _ => False)) [] σ H' { s' with heap := h' } := I1.re rfl (by intro z; cases z)
        obtain ⟨Ck, hCk, hmk⟩ := XA.cls c (hS c hc)
        have hmk' : some (Value.ref Cc) = some (.ref Ck) := hm.symm.trans hmk
        cases hmk'
        obtain ⟨ox, inst, _⟩ := exc_inst xr'
        refine wpAny_handleBy_cons (codeAny_handlers_test (ld_glob (pos := np) I3 hgA B.nm (match_ok (prog := X.prog) (w := X.w) I1.kIn B hc hCk inst (codeAny_handlers_suite_as ?_)))) (by intro z; cases z)
        refine flight_raw (fs := frs X.stack) xr' fun h2 kb2 xr2 => ?_
        have fx3 : ∀ b ∈ ch', FxOk (reX X (X.A.mark (some (.ref ea))) false (X.pn ++ pins) (fun _ _ => False)) [] H' b := fun b hb => by
          obtain ⟨a1, a2, a3, a4, a5, a6⟩ := fx1 b hb
          exact ⟨a1, a2, a3, a4, a5, fun p hp => a6 p (by have hp : p ∈ (X.pn ++ pins) ++ [] := hp; rw [List.append_nil] at hp; exact hp)⟩
        have I4 := Inv.callX I3 kb2 fx3
        obtain ⟨ox2, inst2, g1, g2, g3, g4⟩ := exc_inst xr2
        have I5 := I4.adopt (a := ea) (o := .ext (exP X.K c ea)) (fx3 ea xr2.mem) ⟨⟨ox2, Cc, g1, g2, g3, g4, hCk⟩, ⟨ox2, g1⟩, fun k1 k2 ⟨ox, D, p1, p2⟩ hk => ⟨ox, D, hk _ p1, p2⟩⟩
        have hn : H' ea = none := (fx3 ea xr2.mem).1
        have r1 := (r.mono sm).mono (same_upd (o := .ext (exP X.K c ea)) hn)
        have r2 := r1.setShr (i := ie) (v := .ref ea) (d := .exn c) (.exn ((r.mono sm).new hn))
        refine store_ok (X := reX X (X.A.mark (some (.ref ea))) false (X.pn ++ pins) (fun _ _ => False)) I5 hN hie (.inl hlo) (show RelV (.ref ea) (.ref ea) from rfl) (fun s4 I6 => ?_) (.inr hlo)
        cases eG : G (ρ.set ie (some (.shr (.exn c)))) with
        | exc c => rw [eG] at q; exact q.elim
        | bad => rw [eG] at q; exact q.elim
        | val o =>
          rw [eG] at q
          cases o with
          | rt d => exact q.elim
          | bk ρ' => exact q.elim
          | ct ρ' => exact q.elim
          | nx ρ' =>
            refine wpAny_mono (hh (.ref ea) _ [] s4 _ _ { nx := fun σ' H'' => RelX C X H0 ρ' σ' H'', rt := fun _ _ => False } I6 ⟨_, H0, r2, by rw [eG]; exact fun σ' H'' z => z⟩) (fun f s5 hq => ?_) fun _ _ z => z.elim
            cases f with
            | brk => obtain ⟨_, _, _, z⟩ := hq; exact z.elim
            | cont => obtain ⟨_, _, _, z⟩ := hq; exact z.elim
            | ret u => obtain ⟨_, _, _, _, _, z⟩ := hq; exact z.elim
            | next =>
              obtain ⟨σ5, H5, I7, r5⟩ := hq
              obtain ⟨m, hn5, _⟩ := I7.loc
              refine wpAny_nameGoes_keeps hloc hn5 hpm fun h6 v hn6 hs6 => ?_
              exact ⟨_, H5, (I7.goes (t' := s5.toks + 1) hN hie hn5 hn6 hs6).unre I.ok, q _ _ (r5.goes ie none)⟩
      · rw [if_neg hc] at q; exact q.elim
  · cases f with
    | next =>
      obtain ⟨σ', H', I', q'⟩ := hq
      exact wpAny_execs_nil ⟨σ', H', I'.unre I.ok, q'⟩
    | brk => exact SP.unre (f := .brk) I.ok hq
    | cont => exact SP.unre (f := .cont) I.ok hq
    | ret u => exact SP.unre (f := .ret u) I.ok hq
end
end DL

set_option Elab.async false
set_option linter.all false
set_option maxRecDepth 100000
set_option maxHeartbeats 4000000
namespace DL
open PySem PySem.Spec PyProof.Rows L2
set_option autoImplicit false
section
variable {C : Addr} {X : Cx}
theorem ed_fnA {k n : Nat} {den : List D → R D} {x : Str} {p pos : Pos} {e : Expr} {es : List Expr} {Fa : Rho → R (List D)} (F : Fn X.prog X.w X.K X.mg X.base C k x n den) (hr : Room k X.A) (hg : Gl X x) (ha : AD C X (e :: es) Fa)
    (hdb : (x == ("__debug__" : Str)) = false := by decide) (he : starEach (e :: es) X.env = (false, eval e X.env) :: starEach es X.env := by rfl) (hpl : (backTo pos (starEach es X.env)).any (·.1) = false := by rfl) :
    ED C X (.Call (.Name x p) (e :: es) [] pos) (cal n den Fa) := by
  obtain ⟨f, fd, ps, h1, h2, h3, h4⟩ := F
  exact ed_call h1 hr hg h2 h3 h4 pass0 ha hdb he hpl
end
section
variable {C : Addr} {X : Cx}
end
section
variable {prog : Program} {w : World} {A : Around} {R : Result → Shared → Prop} {I : Addr} {fp wr : List Addr} {n : Nat} {P : Nat → Value → Prop} {St : Nat → Heap → Prop}
end
section
variable {C : Addr} {X : Cx}
end
theorem boo_ve : bootBuiltins "ValueError" = some (.type "ValueError") := by decide +kernel
theorem boo_int : bootBuiltins "int" = some (.type "int") := by decide +kernel
theorem boo_bool : bootBuiltins "bool" = some (.type "bool") := by decide +kernel
end DL

set_option Elab.async false
set_option linter.all false
set_option maxRecDepth 100000
set_option maxHeartbeats 4000000
namespace DL
open PySem PySem.Spec PyProof.Rows L2
set_option autoImplicit false
noncomputable def spF (K : PySem.W.Frag) (C : Addr) (mg : Str → Option Value) (n : Nat) (den : List D → R (List D)) : Sp := fun vs H Q E => vs.length = n ∧ ∃ ds, HasL K C H vs ds ∧ match den ds with
  | .val xs => ∀ a us H', Same H H' → H' a = none → HasL K C H' us xs → Q (.ref a) (upd H' a (.lst us))
  | .exc c => ∀ Cc H', mg (exN c) = some (.ref Cc) → Same H H' → E (.ref Cc) none H'
  | .bad => False
noncomputable def FnF (P : Program) (w : World) (K : PySem.W.Frag) (mg : Str → Option Value) (base : Heap) (C : Addr) (k : Nat) (x : Str) (n : Nat) (den : List D → R (List D)) : Prop :=
  ∃ f fd ps, FnOk P w K mg base (CXd P w) k f fd ps (spF K C mg n den) ∧ mg x = some (.ref f) ∧ PySem.W.keepIn K (.ref f) = true ∧ Binds K fd ps []
noncomputable def lsD (den : List D → R (List D)) (ds : List D) : R D := (den ds).bind fun xs => .val (.lst xs)
theorem FnF.x {P : Program} {w : World} {K : PySem.W.Frag} {mg : Str → Option Value} {base : Heap} {C : Addr} {k : Nat} {x : Str} {n : Nat} {den : List D → R (List D)} (F : FnF P w K mg base C k x n den) : FnX P w K mg base C k x n (lsD den) := by
  obtain ⟨f, fd, ps, h1, h2, h3, h4⟩ := F
  refine ⟨f, fd, ps, h1.imp fun vs H Q E ⟨hl, ds, h, q⟩ => ⟨hl, ds, h, ?_⟩, h2, h3, h4⟩
  unfold lsD at q
  cases e : den ds with
  | val xs => rw [e] at q; exact fun a us H' s hn hv => q _ _ (s.trans (same_upd hn)) (.lst upd_same (hv.mono (same_upd hn)))
  | exc c => rw [e] at q; exact q
  | bad => rw [e] at q; exact q
section
variable (C : Addr) (X : Cx)
noncomputable def tsF (F : Rho → R (List D)) : TS := fun Dn σ H => ∃ ρ H0, RelX C X H0 ρ σ H ∧ match F ρ with
  | .val xs => ∀ a us H', Same H0 H' → H' a = none → HasL X.K C H' us xs → Dn.rt (.ref a) (upd H' a (.lst us))
  | .exc c => XS X c H0
  | .bad => False
noncomputable def SDsF (st : List Stmt) (F : Rho → R (List D)) : Prop := PSs X st (tsF C X F)
end
noncomputable def sqF (F : Rho → R Out) (G : Rho → R (List D)) : Rho → R (List D) := fun ρ => match F ρ with
  | .val (.nx ρ') => G ρ'
  | .exc c => .exc c
  | _ => .bad
section
variable {C : Addr} {X : Cx}
theorem sdf_ret {e : Expr} {pos : Pos} {F : Rho → R (List D)} (he : FD C X e F) : SDsF C X [.Return (some e) pos] F :=
  pss_weak (pss_one (ps_ret he)) fun Dn σ H yy0 => by
   obtain ⟨ρ, H0, r, q⟩ := yy0
   exact ⟨ρ, ⟨H0, r⟩, by
    cases e : F ρ with
    | val xs => rw [e] at q; exact fun a vs H1 s1 hn h1 => q a vs H1 ((r.keep.trans msk_sub).trans s1) hn (h1.mono msk_sub)
    | exc c => rw [e] at q; exact XS.xe (r.keep.trans msk_sub) q
    | bad => rw [e] at q; exact q⟩
theorem sdf_cons {st : Stmt} {rest : List Stmt} {F : Rho → R Out} {G : Rho → R (List D)} (h1 : SD C X st F) (h2 : SDsF C X rest G) : SDsF C X (st :: rest) (sqF F G) :=
  pss_weak (pss_cons h1 h2) fun Dn σ H zz0 => by
    obtain ⟨ρ, H0, r, q⟩ := zz0
    refine ⟨ρ, H0, r, ?_⟩
    unfold sqF at q
    cases e : F ρ with
    | val o =>
      rw [e] at q
      cases o with
      | nx ρ' => exact fun σ' H' r' => ⟨ρ', H0, r', q⟩
      | rt d => exact q.elim
      | bk ρ' => exact q.elim
      | ct ρ' => exact q.elim
    | exc c => rw [e] at q; exact q
    | bad => rw [e] at q; exact q
end
section
variable {P : Program} {w : World} {K : PySem.W.Frag} {mg : Str → Option Value} {base : Heap} {C : Addr}
theorem xs_leave {N : List Str} {qual : Str} {scope : Scope} {f : Addr} {cdv : Value} {A : Around} {outer : List Env} {s : Shared} {H : Hp} {E : XK} {c : Nat} (q : ∀ Cc H', mg (exN c) = some (.ref Cc) → Same H H' → E (.ref Cc) none H') :
    XS (cxOf (CXd P w) P w K mg base N qual scope f cdv A outer s H E) c H := by
  rintro pins σ' H' ev s' I sm ⟨ea, Cc, ch, he, hm, xr, hfx⟩
  subst he
  show wpAny _ _ (leaving _ (.ref ea)) _ _ s'
  unfold leaving
  refine wpAny_bind (leave_raw I.ok.frames I.stack rfl xr fun h' ch' kb nw xr' => ?_)
  have I' := Inv.callX I kb hfx
  refine ⟨ea, .ref Cc, H', ch', rfl, xr', fun b hb => ?_, I.os, I.bare, I'.base, I'.hok, q _ H' hm sm⟩
  rcases nw b hb with hb | hb
  · exact ⟨(hfx b hb).2.1, (hfx b hb).1⟩
  · have fT := fx_new I rfl hb
    exact ⟨fT.2.1, fT.1⟩
theorem def_okF {x qual : Str} {st : Stmt} {f : Addr} {fd : FuncData} {N ps : List Str} {k : Nat} {den : Rho → R (List D)} (F : Fun K x qual st f fd) (sc : FnScope N ps (defScope st))
    (hb : ∀ (cdv : Value) (A : Around) (outer : List Env) (s : Shared) (H : Hp) (E : XK), Room k (A.deeper (envOfC qual (defScope st) s.heap.objs.size f cdv)) →
      SDsF C (cxOf (CXd P w) P w K mg base N qual (defScope st) f cdv A outer s H E) (defBody st) den) :
    FnOk P w K mg base (CXd P w) (k + 1) f fd ps (spF K C mg ps.length fun ds => den (st0 N ds)) := by
  obtain ⟨oc, od, kV, doc, pm, an, cdv, ct, osl, rfl, lk, hcd⟩ := F.ex
  refine fn_of lk hcd sc (fun vs H Q E h => h.1) fun A outer s H vs Q E hr h => ⟨_, hb cdv A outer s H E hr, ?_⟩
  obtain ⟨_, ds, h, q⟩ := h
  refine ⟨st0 N ds, H, rel_start h, ?_⟩
  dsimp only at q
  cases e : den (st0 N ds) with
  | val xs => rw [e] at q; exact q
  | bad => rw [e] at q; exact q.elim
  | exc c => rw [e] at q; exact xs_leave q
end
section
variable {C : Addr} {X : Cx}
theorem call_gen {k : Nat} {sp : Sp} {f : Addr} {fd : FuncData} {ps : List Str} {x : Str} {p pos : Pos} {e : Expr} {es : List Expr} {Fa : Rho → R (List D)} (hF : FnOk X.prog X.w X.K X.mg X.base (CXd X.prog X.w) k f fd ps sp) (hm : X.mg x = some (.ref f)) (hk : PySem.W.keepIn X.K (.ref f) = true) (hb : Binds X.K fd ps [])
    (hr : Room k X.A) (hg : Gl X x) (ha : AD C X (e :: es) Fa) (hex : X.ex = []) (hdb : (x == ("__debug__" : Str)) = false) (he : starEach (e :: es) X.env = (false, eval e X.env) :: starEach es X.env) (hpl : (backTo pos (starEach es X.env)).any (·.1) = false)
    {pins : List (Addr × Obj)} {s : Shared} {σ : St} {H : Hp} {Q : VK} (I : Inv X pins σ H s) {ρ : Rho} {H0 : Hp} (r0 : RelX C X H0 ρ σ H) (hex2 : ∀ c, Fa ρ = .exc c → XE X c σ H) (hbad : Fa ρ = .bad → False)
    (post : ∀ ds vs H1, Fa ρ = .val ds → Same H H1 → HasLX C X ρ σ H1 vs ds →
      sp vs (cut (owns ρ σ) H1) (fun v M' => Same (cut (owns ρ σ) H1) M' ∧ ((∀ z ∈ owns ρ σ, M' z = none) → msk ρ σ (jn (owns ρ σ) H1 M') = M' → Same H1 (jn (owns ρ σ) H1 M') → Q v (jn (owns ρ σ) H1 M')))
        (fun cl _ M' => (∃ c Cc, cl = .ref Cc ∧ X.mg (exN c) = some (.ref Cc) ∧ XE X c σ H) ∧ Same (cut (owns ρ σ) H1) M')) :
    wpAny (model X.prog X.w) X.A (eval (.Call (.Name x p) (e :: es) [] pos) X.env) (EP X pins σ Q) X.xe s := by
  refine wpAny_Call_Name_kw (ld_glob I hg hm ?_ hdb)
  refine PySem.W.callWith_K (h₀ := X.base) I.ok.mod.kin hk (thn (ha pos pins s σ H (fun vs H1 => ∃ ds, Fa ρ = .val ds ∧ Same H H1 ∧ HasLX C X ρ σ H1 vs ds) I ⟨ρ, ⟨H0, r0⟩, ?_⟩) fun us s1 ⟨vs, H1, I1, rv, ds, ed, s1', h1⟩ => ⟨I1.kIn, ?_⟩) he hpl
  · cases ea : Fa ρ with
    | val ds => exact fun vs H1 s1 h1 => ⟨ds, rfl, s1, h1⟩
    | exc c => exact hex2 c ea
    | bad => exact hbad ea
  · have r1 := r0.mono s1'
    have Z := Rel.hid r1 I1
    have J := I1.hide Z
    have em : ∀ M', (∀ z ∈ owns ρ σ, M' z = none) → msk ρ σ (jn (owns ρ σ) H1 M') = M' := fun M' mz => by
      rw [msk_cut]
      funext b
      by_cases hb : b ∈ owns ρ σ
      · rw [cut_in hb, mz b hb]
      · unfold cut; rw [if_neg hb, jn_out hb]
    have sj : ∀ M', Same (cut (owns ρ σ) H1) M' → Same H1 (jn (owns ρ σ) H1 M') := fun M' sm b o eb => by
      by_cases hb : b ∈ owns ρ σ
      · rw [jn_in hb]; exact eb
      · rw [jn_out hb]; exact sm b o (cut_some.mpr ⟨hb, eb⟩)
    refine wpAny_mono (run_fnX hF hr hb J rv (post ds vs H1 ed s1' h1)) (fun u s2 ⟨v, M', J2, ru, sm, hq⟩ => ?_) fun e s2 hq => ?_
    · obtain ⟨I2, mz⟩ := I1.show' Z J2
      exact ⟨v, _, I2, ru, hq mz (em M' mz) (sj M' sm)⟩
    · obtain ⟨ea, cl, M', ch, he', xr, hch, hos, hbare, un, hok, ⟨c, Cc, hcc, hmc, hxe⟩, sm⟩ := hq
      subst he'
      subst hcc
      have J2 : Inv X (pins ++ pinsAt (owns ρ σ) s1.heap) σ M' s2 := J.call' hos un hok hbare (ch := []) (fun b z => nomatch z)
      obtain ⟨I2, mz⟩ := I1.show' Z J2
      refine hxe pins _ _ s2 I2 (s1'.trans (sj M' sm)) ⟨ea, Cc, ch, rfl, hmc, xr, fun b hb => ?_⟩
      have f1 := fx_new I1 hex (hch b hb).1
      refine ⟨?_, f1.2⟩
      rw [jn_out fun z => ?_]
      · exact (hch b hb).2
      · obtain ⟨o, ho, _⟩ := Z.obj b z
        rw [(hch b hb).1] at ho; cases ho
noncomputable def calF {α : Type} (n : Nat) (den : List D → R α) (a : Rho → R (List D)) : Rho → R α := fun ρ => (a ρ).bind fun ds => if ds.length = n then den ds else .bad
theorem fd_fnF {k n : Nat} {den : List D → R (List D)} {x : Str} {p pos : Pos} {e : Expr} {es : List Expr} {Fa : Rho → R (List D)} (F : FnF X.prog X.w X.K X.mg X.base C k x n den) (hr : Room k X.A) (hg : Gl X x) (ha : AD C X (e :: es) Fa) (hex : X.ex = [])
    (hdb : (x == ("__debug__" : Str)) = false := by decide) (he : starEach (e :: es) X.env = (false, eval e X.env) :: starEach es X.env := by rfl) (hpl : (backTo pos (starEach es X.env)).any (·.1) = false := by rfl) :
    FD C X (.Call (.Name x p) (e :: es) [] pos) (calF n den Fa) := by
  obtain ⟨f, fd, ps, hF, hm, hk, hb⟩ := F
  rintro pins s σ H Q I ⟨ρ, ⟨H0, r0⟩, q⟩
  unfold calF at q
  refine call_gen hF hm hk hb hr hg ha hex hdb he hpl I r0 (fun c e => by rw [e] at q; exact q) (fun e => by rw [e] at q; exact q) fun ds vs H1 ed s1 h1 => ?_
  rw [ed] at q
  dsimp only [DL.R.bind] at q
  by_cases hl : ds.length = n
  · rw [if_pos hl] at q
    refine ⟨h1.len.trans hl, ds, by rw [← msk_cut]; exact h1, ?_⟩
    cases e1 : den ds with
    | bad => rw [e1] at q; exact q.elim
    | exc c => rw [e1] at q; exact fun Cc H' hm' s2 => ⟨⟨c, Cc, rfl, hm', q⟩, s2⟩
    | val xs =>
      rw [e1] at q
      intro a us M' s2 hn hv
      refine ⟨s2.trans (same_upd hn), fun mz em sj => ?_⟩
      have na : a ∉ owns ρ σ := fun z => by have := mz a z; rw [upd_same] at this; cases this
      have mz' : ∀ z ∈ owns ρ σ, M' z = none := fun z hz => by
        have := mz z hz
        rw [upd_ne (fun (h : z = a) => na (by rw [← h]; exact hz))] at this
        exact this
      have ej : jn (owns ρ σ) H1 (upd M' a (.lst us)) = upd (jn (owns ρ σ) H1 M') a (.lst us) := by
        funext b
        by_cases hb : b ∈ owns ρ σ
        · rw [jn_in hb, upd_ne (fun (h : b = a) => na (by rw [← h]; exact hb)), jn_in hb]
        · rw [jn_out hb]
          by_cases ha : b = a
          · subst ha; rw [upd_same, upd_same]
          · rw [upd_ne ha, upd_ne ha, jn_out hb]
      rw [ej]
      have sj' : Same H1 (jn (owns ρ σ) H1 M') := fun b o eb => by
        by_cases hb : b ∈ owns ρ σ
        · rw [jn_in hb]; exact eb
        · rw [jn_out hb]; exact s2 b o (cut_some.mpr ⟨hb, eb⟩)
      refine q a us (jn (owns ρ σ) H1 M') (s1.trans sj') (by rw [jn_out na]; exact hn) ?_
      have em' : msk ρ σ (jn (owns ρ σ) H1 M') = M' := by
        rw [msk_cut]
        funext b
        by_cases hb : b ∈ owns ρ σ
        · rw [cut_in hb, mz' b hb]
        · unfold cut; rw [if_neg hb, jn_out hb]
      show HasL _ _ (msk ρ σ _) us xs
      rw [em']; exact hv
  · rw [if_neg hl] at q; exact q.elim
theorem sde_own {i : Nat} {x : Str} {e : Expr} {pos pos' : Pos} {F : Rho → R (List D)} (hN : X.N.Nodup) (hi : X.N[i]? = some x) (hx : Loc X.env.scope x) (he : FD C X e F) (hs : swapsWith e (some (.Name x pos')) pos.line X.env = pure false := by rfl)
    (hf : X.fn x = true ∨ X.env.scope.names.lookup x = some .local := by first | exact .inl rfl | exact .inr rfl | assumption) : SDe C X (.Assign [.Name x pos'] e pos) (own i F) :=
  ps_weak (ps_set hN hi hx he hs hf) fun D σ H yy1 => by
   obtain ⟨ρ, H0, r, q⟩ := yy1
   exact ⟨ρ, ⟨H0, r⟩, by
    unfold own at q
    cases e : F ρ with
    | val xs => rw [e] at q; exact fun a vs H1 s1 hn h1 => q _ _ ((r.mono s1).setOwn hn h1)
    | exc c => rw [e] at q; exact q
    | bad => rw [e] at q; exact q⟩
end
end DL

set_option Elab.async false
set_option linter.all false
set_option maxRecDepth 100000
set_option maxHeartbeats 4000000
namespace DL
open PySem PySem.Spec PyProof.Rows L2
set_option autoImplicit false
inductive PR where
  | pl (d : D) | nw (w : D) (xs : List D)
noncomputable def PR.d : PR → D
  | .pl d => d
  | .nw w xs => .tup [w, .lst xs]
noncomputable def spP (K : PySem.W.Frag) (C : Addr) (n : Nat) (den : List D → R PR) : Sp := fun vs H Q _ => vs.length = n ∧ ∃ ds, HasL K C H vs ds ∧ match den ds with
  | .val (.pl d) => ∀ v H', Same H H' → Has K C H' v d → Q v H'
  | .val (.nw w xs) => ∀ t a vw us H', Same H H' → H a = none → H' t = some (.tup [vw, .ref a]) → H' a = some (.lst us) → Has K C H' vw w → HasL K C H' us xs → Q (.ref t) H'
  | _ => False
noncomputable def FnP (P : Program) (w : World) (K : PySem.W.Frag) (mg : Str → Option Value) (base : Heap) (C : Addr) (k : Nat) (x : Str) (n : Nat) (den : List D → R PR) : Prop :=
  ∃ f fd ps, FnOk P w K mg base CX0 k f fd ps (spP K C n den) ∧ mg x = some (.ref f) ∧ PySem.W.keepIn K (.ref f) = true ∧ Binds K fd ps []
noncomputable def plD' (den : List D → R PR) (ds : List D) : R D := (den ds).bind fun r => .val r.d
theorem FnP.fn {P : Program} {w : World} {K : PySem.W.Frag} {mg : Str → Option Value} {base : Heap} {C : Addr} {k : Nat} {x : Str} {n : Nat} {den : List D → R PR} (F : FnP P w K mg base C k x n den) : Fn P w K mg base C k x n (plD' den) := by
  obtain ⟨f, fd, ps, h1, h2, h3, h4⟩ := F
  refine ⟨f, fd, ps, h1.imp fun vs H Q E ⟨hl, ds, h, q⟩ => ⟨hl, ds, h, ?_⟩, h2, h3, h4⟩
  unfold plD' at q
  cases e : den ds with
  | val r =>
    rw [e] at q
    cases r with
    | pl d => exact q
    | nw w' xs => exact fun t a vw us H' s _ ht ha hw hx => q _ _ s (.tup ht (.cons hw (.cons (.lst ha hx) .nil)))
  | exc c => rw [e] at q; exact q.elim
  | bad => rw [e] at q; exact q.elim
theorem FnOk.cx {P : Program} {w : World} {K : PySem.W.Frag} {mg : Str → Option Value} {base : Heap} {CX : CXT} {k : Nat} {f : Addr} {fd : FuncData} {ps : List Str} {sp : Sp} (F : FnOk P w K mg base CX0 k f fd ps sp) : FnOk P w K mg base CX k f fd ps sp := by
  refine ⟨F.len, fun A outer s H args us vs Q E hr he hb hv hs => codeAny_mono (F.run A outer s H args us vs Q E hr he hb hv hs) fun r s' hq => ?_⟩
  cases r with
  | error e => exact hq.elim
  | ok fl =>
    cases fl with
    | ret u => exact hq
    | next => exact hq
    | brk => exact hq
    | cont => exact hq
section
variable (C : Addr) (X : Cx)
noncomputable def tsP (F : Rho → R PR) : TS := fun Dn σ H => ∃ ρ H0, RelX C X H0 ρ σ H ∧ match F ρ with
  | .val (.pl d) => ∀ v H', Same H0 H' → Has X.K C H' v d → Dn.rt v H'
  | .val (.nw w xs) => ∀ t a vw us H', Same H0 H' → H0 a = none → H' t = some (.tup [vw, .ref a]) → H' a = some (.lst us) → Has X.K C H' vw w → HasL X.K C H' us xs → Dn.rt (.ref t) H'
  | _ => False
noncomputable def SDsP (st : List Stmt) (F : Rho → R PR) : Prop := PSs X st (tsP C X F)
noncomputable def teP (F : Rho → R PR) : TE := fun σ H Q => ∃ ρ, (∃ H0, RelX C X H0 ρ σ H) ∧ match F ρ with
  | .val (.pl d) => ∀ v H', Same H H' → HasX C X ρ σ H' v d → Q v H'
  | .val (.nw w xs) => ∀ t a vw us H', Same H H' → H a = none → msk ρ σ H' t = some (.tup [vw, .ref a]) → msk ρ σ H' a = some (.lst us) → HasX C X ρ σ H' vw w → HasLX C X ρ σ H' us xs → Q (.ref t) H'
  | _ => False
noncomputable def tsN (i : Nat) (F : Rho → D → List D → R Out) : TS := fun Dn σ H => ∃ ρ σ0 Hp H0 t a vw us w xs, RelX C X H0 ρ σ0 Hp ∧ i < σ0.length ∧ σ = σ0.set i (some (.ref t)) ∧ Same Hp H ∧ Hp a = none ∧ msk ρ σ0 H t = some (.tup [vw, .ref a]) ∧ msk ρ σ0 H a = some (.lst us) ∧ HasX C X ρ σ0 H vw w ∧ HasLX C X ρ σ0 H us xs ∧ pS C X (F ρ w xs) H0 Dn
noncomputable def SN (i : Nat) (st : List Stmt) (F : Rho → D → List D → R Out) : Prop := PSs X st (tsN C X i F)
end
noncomputable def sqP (F : Rho → R Out) (G : Rho → R PR) : Rho → R PR := fun ρ => match F ρ with
  | .val (.nx ρ') => G ρ'
  | _ => .bad
noncomputable def retP (j i : Nat) : Rho → R PR := fun ρ => match ρ[j]?, ρ[i]? with
  | some (some (.shr w)), some (some (.shr d)) => .val (.pl (.tup [w, d]))
  | some (some (.shr w)), some (some (.own xs)) => .val (.nw w xs)
  | _, _ => .bad
theorem retP_cases (j i : Nat) (ρ : Rho) : retP j i ρ = .bad ∨ (∃ w d, ρ[j]? = some (some (.shr w)) ∧ ρ[i]? = some (some (.shr d)) ∧ retP j i ρ = .val (.pl (.tup [w, d]))) ∨ ∃ w xs, ρ[j]? = some (some (.shr w)) ∧ ρ[i]? = some (some (.own xs)) ∧ retP j i ρ = .val (.nw w xs) := by
  unfold retP
  split
  · exact .inr (.inl ⟨_, _, by assumption, by assumption, rfl⟩)
  · exact .inr (.inr ⟨_, _, by assumption, by assumption, rfl⟩)
  · exact .inl rfl
noncomputable def pairD (w : D) (xs : List D) : Option Slt := some (.shr (.tup [w, .lst xs]))
noncomputable def ifN (i : Nat) (t : Rho → R Bool) (e : Rho → R D) (F : Rho → D → List D → R Out) : Rho → D → List D → R Out := fun ρ w xs => (t (ρ.set i (pairD w xs))).bind fun b => if b = true then (e (ρ.set i (pairD w xs))).bind fun d => .val (.rt d) else F ρ w xs
noncomputable def appN (i : Nat) (G : Rho → R Out) : Rho → D → List D → R Out := fun ρ _ xs => if xs.length < LIM then G (ρ.set i none) else .bad
noncomputable def newD (i : Nat) (F : Rho → R PR) (G1 : Rho → R Out) (G2 : Rho → D → List D → R Out) : Rho → R Out := fun ρ => match F ρ with
  | .val (.pl d) => G1 (ρ.set i (some (.shr d)))
  | .val (.nw w xs) => if i < ρ.length then G2 ρ w xs else .bad
  | _ => .bad
section
variable {C : Addr} {X : Cx}
theorem sdp_cons {st : Stmt} {rest : List Stmt} {F : Rho → R Out} {G : Rho → R PR} (h1 : SD C X st F) (h2 : SDsP C X rest G) : SDsP C X (st :: rest) (sqP F G) :=
  pss_weak (pss_cons h1 h2) fun Dn σ H zz0 => by
    obtain ⟨ρ, H0, r, q⟩ := zz0
    refine ⟨ρ, H0, r, ?_⟩
    unfold sqP at q
    cases e : F ρ with
    | val o =>
      rw [e] at q
      cases o with
      | nx ρ' => exact fun σ' H' r' => ⟨ρ', H0, r', q⟩
      | rt d => exact q.elim
      | bk ρ' => exact q.elim
      | ct ρ' => exact q.elim
    | exc c => rw [e] at q; exact q.elim
    | bad => rw [e] at q; exact q
theorem sdp_ret {j i : Nat} {x y : Str} {p1 p2 tp rp : Pos} {k} (hj : PE X (.Name x p1) (tVar j)) (hi : PE X (.Name y p2) (tVar i)) : SDsP C X [.Return (some (.Tuple [.Name x p1, .Name y p2] k tp)) rp] (retP j i) :=
  pss_weak (pss_one (ps_ret (pe_tup (pa_cons hj (pa_cons hi pa_nil st_Name) st_Name)))) fun Dn σ H zz1 => by
    obtain ⟨ρ, H0, r, q⟩ := zz1
    rcases retP_cases j i ρ with e0 | ⟨w, d, e1, e2, e0⟩ | ⟨w, xs, e1, e2, e0⟩
    · rw [e0] at q; exact q.elim
    · rw [e0] at q
      obtain ⟨v1, g1, h1⟩ := r.at_ j _ e1
      obtain ⟨v2, g2, h2⟩ := r.at_ i _ e2
      refine ⟨v1, g1, v2, g2, by show 2 ≤ sizeLine; decide, fun p hp => ?_⟩
      refine q _ _ ((r.keep.trans msk_sub).trans (same_upd hp)) (.tup upd_same (.cons ((h1.mono msk_sub).mono (same_upd hp)) (.cons ((h2.mono msk_sub).mono (same_upd hp)) .nil)))
    · rw [e0] at q
      obtain ⟨v1, g1, h1⟩ := r.at_ j _ e1
      obtain ⟨a, us, g2, ha, h2⟩ := r.at_ i _ e2
      refine ⟨v1, g1, .ref a, g2, by show 2 ≤ sizeLine; decide, fun p hp => ?_⟩
      have hn : H0 a = none := by
        cases z : H0 a with
        | none => rfl
        | some o => exact absurd ⟨i, _, e2, rfl, g2⟩ (msk_some.mp (r.keep a o z)).1
      refine q p a v1 us _ ((r.keep.trans msk_sub).trans (same_upd hp)) hn upd_same (same_upd hp _ _ ha) ((h1.mono msk_sub).mono (same_upd hp)) ((h2.mono msk_sub).mono (same_upd hp))
theorem pe_fnP {k n : Nat} {den : List D → R PR} {x : Str} {p pos : Pos} {e : Expr} {es : List Expr} {Fa : Rho → R (List D)} (F : FnP X.prog X.w X.K X.mg X.base C k x n den) (hr : Room k X.A) (hg : Gl X x) (ha : AD C X (e :: es) Fa) (hex : X.ex = [])
    (hdb : (x == ("__debug__" : Str)) = false := by decide) (he : starEach (e :: es) X.env = (false, eval e X.env) :: starEach es X.env := by rfl) (hpl : (backTo pos (starEach es X.env)).any (·.1) = false := by rfl) :
    PE X (.Call (.Name x p) (e :: es) [] pos) (teP C X (calF n den Fa)) := by
  obtain ⟨f, fd, ps, hF, hm, hk, hb⟩ := F
  rintro pins s σ H Q I ⟨ρ, ⟨H0, r0⟩, q⟩
  unfold calF at q
  refine call_gen (FnOk.cx hF) hm hk hb hr hg ha hex hdb he hpl I r0 (fun c e => by rw [e] at q; exact q.elim) (fun e => by rw [e] at q; exact q) fun ds vs H1 ed s1 h1 => ?_
  rw [ed] at q
  dsimp only [DL.R.bind] at q
  by_cases hl : ds.length = n
  · rw [if_pos hl] at q
    refine ⟨h1.len.trans hl, ds, by rw [← msk_cut]; exact h1, ?_⟩
    cases e1 : den ds with
    | bad => rw [e1] at q; exact q.elim
    | exc c => rw [e1] at q; exact q.elim
    | val r =>
      rw [e1] at q
      cases r with
      | pl d =>
        exact fun v M' s2 hv => ⟨s2, fun mz em sj => q v _ (s1.trans sj) (by show Has _ _ (msk ρ σ _) v d; rw [em]; exact hv)⟩
      | nw w xs =>
        intro t a vw us M' s2 hn ht ha' hw hx
        refine ⟨s2, fun mz em sj => ?_⟩
        have na : a ∉ owns ρ σ := fun z => by rw [mz a z] at ha'; cases ha'
        have hn1 : H1 a = none := by
          cases z : H1 a with
          | none => rfl
          | some o => rw [cut_some.mpr ⟨na, z⟩] at hn; cases hn
        have hn0 : H a = none := by
          cases z : H a with
          | none => rfl
          | some o => rw [s1 a o z] at hn1; cases hn1
        exact q t a vw us _ (s1.trans sj) hn0 (by rw [em]; exact ht) (by rw [em]; exact ha') (by show Has _ _ (msk ρ σ _) vw w; rw [em]; exact hw) (by show HasL _ _ (msk ρ σ _) us xs; rw [em]; exact hx)
  · rw [if_neg hl] at q; exact q.elim
theorem tsN.rel {i : Nat} {ρ : Rho} {σ0 : St} {Hp' H0 H : Hp} {t a : Addr} {vw : V} {us : List V} {w : D} {xs : List D} (r : RelX C X H0 ρ σ0 Hp') (s : Same Hp' H) (ht : msk ρ σ0 H t = some (.tup [vw, .ref a])) (ha : msk ρ σ0 H a = some (.lst us)) (hw : HasX C X ρ σ0 H vw w) (hx : HasLX C X ρ σ0 H us xs) :
    RelX C X H0 (ρ.set i (pairD w xs)) (σ0.set i (some (.ref t))) H := (r.mono s).setShr (.tup ht (.cons hw (.cons (.lst ha hx) .nil)))
theorem sn_if {i : Nat} {c e : Expr} {rp pos : Pos} {rest : List Stmt} {Ft : Rho → R Bool} {Fe : Rho → R D} {F : Rho → D → List D → R Out} (hc : TD C X c Ft) (he : ED C X e Fe) (hr : SN C X i rest F) : SN C X i (.If c [.Return (some e) rp] [] pos :: rest) (ifN i Ft Fe F) :=
  pss_weak (pss_cons (ps_if hc (pss_one (ps_ret he)) pss_nil) hr) fun Dn σ H zz2 => by
    obtain ⟨ρ, σ0, Hp', H0, t, a, vw, us, w, xs, r, hi, es, s, hn, ht, ha, hw, hx, q⟩ := zz2
    subst es
    have r' := tsN.rel (i := i) r s ht ha hw hx
    refine ⟨_, ⟨H0, r'⟩, pB_bind (P := fun z _ => pS C X z H0 Dn) (fun c h => pS_exc r' h) (fun h => h) q fun b H1 s1 q1 => ?_⟩
    cases b with
    | true =>
      refine iteT ⟨_, ⟨H0, r'.mono s1⟩, pV_bind (P := fun z _ => pS C X z H0 Dn) (fun c h => pS_exc (r'.mono s1) h) (fun h => h) q1 fun d v H2 s2 h2 q2 => ?_⟩
      exact q2 v H2 (((r'.mono s1).mono s2).keep.trans msk_sub) (h2.mono msk_sub)
    | false => exact iteF ⟨ρ, σ0, Hp', H0, t, a, vw, us, w, xs, r, hi, rfl, s.trans s1, hn, msk_mono s1 _ _ ht, msk_mono s1 _ _ ha, hw.mono (msk_mono s1), hx.mono (msk_mono s1), q1⟩
theorem sn_app {i : Nat} {x : Str} {k : Int} {j j1 : Nat} {p p1 p2 sp ap cp pos : Pos} {rest : List Stmt} {G : Rho → R Out} (hv : PE X (.Name x p) (tVar i)) (hr : SDs C X rest G)
    (hs : ∀ {to : TE} {t : TA}, PE X (.Subscript (.Name x p) (.Constant (.int 1) j p1) sp) to → PA X [.Constant (.int k) j1 p2] t → PS X (.Expr (.Call (.Attribute (.Subscript (.Name x p) (.Constant (.int 1) j p1) sp) "append" ap) [.Constant (.int k) j1 p2] [] cp) pos) (tDrop (tBM X.K "list" rAppend to t)) := by
      exact fun ho ha => ps_expr (pe_bm PySem.F.plainAttrs_list PySem.F.slot_list_append PySem.F.type_list_append mt_append ho ha)) :
    SN C X i (.Expr (.Call (.Attribute (.Subscript (.Name x p) (.Constant (.int 1) j p1) sp) "append" ap) [.Constant (.int k) j1 p2] [] cp) pos :: rest) (appN i G) :=
  pss_weak (pss_cons (hs (pe_ix ix_seq hv pe_int (fun _ _ => rfl)) (pa_cons pe_int pa_nil st_Constant)) hr) fun Dn σ H zz3 => by
    obtain ⟨ρ, σ0, Hp', H0, t, a, vw, us, w, xs, r, hi, es, s, hn, ht, ha, hw, hx, q⟩ := zz3
    subst es
    unfold appN at q
    by_cases hl : xs.length < LIM
    · rw [if_pos hl] at q
      have ht' := (msk_some.mp ht).2
      have ha' := (msk_some.mp ha).2
      refine ⟨.ref t, List.getElem?_set_self hi, .inr (.inl ⟨t, [vw, .ref a], 1, .ref a, rfl, rfl, SqT.of ht', rfl, .inl ⟨rfl, _, SqL.of ha'⟩, a, us, .int k, rfl, rfl, ha', by rw [hx.len]; exact Nat.lt_of_lt_of_le hl (by decide), ?_⟩)⟩
      have sm : Same Hp' (upd H a (.lst (us ++ [.int k]))) := fun b o e => by
        rw [upd_ne (fun z => by rw [z, hn] at e; cases e)]
        exact s b o e
      exact ⟨ρ.set i none, H0, (r.mono sm).goes i _, q⟩
    · rw [if_neg hl] at q; exact q.elim
theorem pss_or {st : List Stmt} {t u : TS} (h1 : PSs X st t) (h2 : PSs X st u) : PSs X st (fun D σ H => t D σ H ∨ u D σ H) := fun pins s σ H D I h => h.elim (h1 pins s σ H D I) (h2 pins s σ H D I)
theorem sds_new {i : Nat} {x : Str} {e : Expr} {pos pos' : Pos} {rest : List Stmt} {F : Rho → R PR} {G1 : Rho → R Out} {G2 : Rho → D → List D → R Out} (hN : X.N.Nodup) (hi : X.N[i]? = some x) (hx : Loc X.env.scope x) (he : PE X e (teP C X F)) (h1 : SDs C X rest G1) (h2 : SN C X i rest G2) (hs : swapsWith e (some (.Name x pos')) pos.line X.env = pure false := by rfl)
    (hf : X.fn x = true ∨ X.env.scope.names.lookup x = some .local := by first | exact .inl rfl | exact .inr rfl | assumption) : SDs C X (.Assign [.Name x pos'] e pos :: rest) (newD i F G1 G2) :=
  pss_weak (pss_cons (ps_set hN hi hx he hs hf) (pss_or h1 h2)) fun Dn σ H yy0 => by
   obtain ⟨ρ, H0, r, q⟩ := yy0
   exact ⟨ρ, ⟨H0, r⟩, by
    unfold newD at q
    cases e : F ρ with
    | exc c => rw [e] at q; exact q.elim
    | bad => rw [e] at q; exact q.elim
    | val z =>
      rw [e] at q
      cases z with
      | pl d => exact fun v H1 s1 hv => .inl ⟨_, H0, (r.mono s1).setShr hv, q⟩
      | nw w xs =>
        dsimp only at q
        by_cases hl : i < ρ.length
        · rw [if_pos hl] at q
          exact fun t a vw us H1 s1 hn ht ha hw hx => .inr ⟨ρ, σ, H, H0, t, a, vw, us, w, xs, r, by rw [← r.len]; exact hl, rfl, s1, hn, ht, ha, hw, hx, q⟩
        · rw [if_neg hl] at q; exact q.elim⟩
end
structure KTy (K : PySem.W.Frag) (T : String) : Prop where
  i : PySem.W.kitOne K (.type "int") (.type T) = some (decide (T = "int"))
  b : PySem.W.kitOne K (.type "bool") (.type T) = some (decide (T = "int") || decide (T = "bool"))
  n : PySem.W.kitOne K (.type "NoneType") (.type T) = some false
  l : PySem.W.kitOne K (.type "list") (.type T) = some (decide (T = "list"))
  t : PySem.W.kitOne K (.type "tuple") (.type T) = some (decide (T = "tuple"))
noncomputable def fisT (T : String) : D → R D
  | .int _ => .val (.bl (decide (T = "int")))
  | .bl _ => .val (.bl (decide (T = "int") || decide (T = "bool")))
  | .non => .val (.bl false)
  | .lst _ => .val (.bl (decide (T = "list")))
  | .tup _ => .val (.bl (decide (T = "tuple")))
  | _ => .bad
section
variable {C : Addr} {X : Cx}
theorem ed_isT {e : Expr} {T : Str} {T' : String} {p p2 pos : Pos} {F : Rho → R D} (KT : KTy X.K T') (hg : Gl X "isinstance") (hm : X.mg "isinstance" = none) (hgT : Gl X T) (hmT : X.mg T = none) (hbT : bootBuiltins T = some (.type T')) (he : EB C X e F) (hst : starEach [e, .Name T p2] X.env = (false, eval e X.env) :: starEach [.Name T p2] X.env)
    (hn : T ≠ "__name__" := by decide) (hdb : (T == ("__debug__" : Str)) = false := by decide) : ED C X (.Call (.Name "isinstance" p) [e, .Name T p2] [] pos) (una (fisT T') F) :=
  pe_weak (pe_isT hg hm hgT hmT hbT he hst hn hdb) fun σ H Q yy1 => by
   obtain ⟨ρ, r0, q⟩ := yy1
   exact ⟨ρ, r0, pV_bind (P := fun z H => pV X (HasX C X ρ σ) z σ H Q) (fun _ h => h) (fun h => h) q fun y v H1 s1 h1 q1 => by
    have go : ∀ {t : Value} {b : Bool}, TyOf X.K H1 v t → PySem.W.kitOne X.K t (.type T') = some b → (∀ v H', Same H H' → HasX C X ρ σ H' v (.bl b) → Q v H') → ∃ b, (∀ (pins : List (Addr × Obj)) (s : Shared) (u : Value) (Q' : Value → Shared → Prop) (E' : Value → Shared → Prop), Inv X pins σ H1 s → RelV v u → (∀ tk, Q' (.bool b) { s with toks := tk }) → wpAny (model X.prog X.w) X.A (call (.builtin "isinstance") [u, .type T']) Q' E' s) ∧ Q (.bl b) H1 :=
      fun {t b} ty ek kq => ⟨b, fun pins s u Q' E' I rv hQ => isinst_ok I rv ty ek hQ, kq _ H1 s1 (.bl b)⟩
    cases y with
    | int i => obtain rfl := h1.int; exact go (.int i) KT.i q1
    | bl i => obtain rfl := h1.bl; exact go (.bl i) KT.b q1
    | non =>
      have hv : v = .non := by cases h1 with | cl h => cases h; rfl
      subst hv
      exact go .non KT.n q1
    | lst xs =>
      obtain ⟨a, vs, rfl, e1, _⟩ := h1.lst msk_sub
      exact go (.lst e1) KT.l q1
    | tup xs =>
      obtain ⟨a, vs, rfl, e1, _⟩ := h1.tup msk_sub
      exact go (.tup e1) KT.t q1
    | _ => exact q1.elim⟩
theorem boo_list : bootBuiltins "list" = some (.type "list") := by decide +kernel
end
section
variable {P : Program} {w : World} {K : PySem.W.Frag} {mg : Str → Option Value} {base : Heap} {C : Addr}
theorem def_okP {x qual : Str} {st : Stmt} {f : Addr} {fd : FuncData} {N ps : List Str} {k : Nat} {den : Rho → R PR} (F : Fun K x qual st f fd) (sc : FnScope N ps (defScope st))
    (hb : ∀ (cdv : Value) (A : Around) (outer : List Env) (s : Shared) (H : Hp) (E : XK), Room k (A.deeper (envOfC qual (defScope st) s.heap.objs.size f cdv)) →
      SDsP C (cxOf CX0 P w K mg base N qual (defScope st) f cdv A outer s H E).nox (defBody st) den) :
    FnOk P w K mg base CX0 (k + 1) f fd ps (spP K C ps.length fun ds => den (st0 N ds)) := by
  refine F.ok sc (fun vs H Q E h => h.1) (fun cdv A outer s H vs Q E hr h => ⟨_, hb cdv A outer s H E hr, ?_⟩)
  obtain ⟨_, ds, h, q⟩ := h
  exact ⟨st0 N ds, H, rel_start h, q⟩
end
end DL

set_option linter.all false
namespace Ar
noncomputable abbrev Arr := Nat × Nat × List Nat
noncomputable def Ok (sz : List Nat) (x : Arr) : Prop := ∃ n m, sz[x.1]? = some n ∧ sz[x.2.1]? = some m ∧ x.2.2.length = n ∧ ∀ y ∈ x.2.2, y < m
noncomputable def comp (x y : Arr) : Arr := (x.1, y.2.1, x.2.2.map fun i => y.2.2.getD i 0)
noncomputable def idm (sz : List Nat) (b : Nat) : Arr := (b, b, List.range (sz.getD b 0))
noncomputable def funs : Nat → Nat → List (List Nat)
  | 0, _ => [[]]
  | n + 1, m => (List.range m).flatMap fun y => (funs n m).map fun l => y :: l
theorem mem_funs : ∀ {l : List Nat} {m : Nat}, (∀ y ∈ l, y < m) → l ∈ funs l.length m
  | [], m, _ => by simp [funs]
  | y :: l, m, h => by
    have h1 : y < m := h y (by simp)
    have h2 : l ∈ funs l.length m := mem_funs fun z hz => h z (by simp [hz])
    show y :: l ∈ funs (l.length + 1) m
    simp only [funs, List.mem_flatMap, List.mem_map, List.mem_range]
    exact ⟨y, h1, l, h2, rfl⟩
noncomputable def univ (sz : List Nat) : List Arr := (List.range sz.length).flatMap fun a => (List.range sz.length).flatMap fun b => (funs (sz.getD a 0) (sz.getD b 0)).map fun f => (a, b, f)
theorem mem_univ {sz : List Nat} {x : Arr} (h : Ok sz x) : x ∈ univ sz := by
  obtain ⟨a, b, f⟩ := x
  obtain ⟨n, m, h1, h2, h3, h4⟩ := h
  have ha : a < sz.length := (List.getElem?_eq_some_iff.mp h1).1
  have hb : b < sz.length := (List.getElem?_eq_some_iff.mp h2).1
  simp only [univ, List.mem_flatMap, List.mem_map, List.mem_range]
  refine ⟨a, ha, b, hb, f, ?_, rfl⟩
  have e1 : sz.getD a 0 = n := by simp only [List.getD, h1]; rfl
  have e2 : sz.getD b 0 = m := by simp only [List.getD, h2]; rfl
  rw [e1, e2, ← h3]
  exact mem_funs h4
theorem len_le_of_sub {α : Type} [DecidableEq α] : ∀ {l u : List α}, l.Nodup → (∀ x ∈ l, x ∈ u) → l.length ≤ u.length
  | [], _, _, _ => by simp
  | x :: l, u, nd, h => by
    obtain ⟨h1, h2⟩ := List.nodup_cons.mp nd
    have hx : x ∈ u := h x (by simp)
    have hl : l.length ≤ (u.erase x).length := len_le_of_sub h2 fun y hy => by
      have : y ≠ x := fun e => h1 (e ▸ hy)
      exact (List.mem_erase_of_ne this).mpr (h y (by simp [hy]))
    rw [List.length_erase_of_mem hx] at hl
    have : 0 < u.length := List.length_pos_of_mem hx
    simp only [List.length_cons]; omega
noncomputable def szs : List (List Nat) := [[1], [1, 1], [1, 1, 1], [1, 1, 1, 1], [1, 2], [2, 1], [2, 2], [0, 2], [2], [3], [1, 1, 2], [0, 1, 2], [1, 2, 2], [2, 1, 0]]
theorem szs_univ : ∀ sz ∈ szs, (univ sz).length ≤ 27 := by decide +kernel
theorem szs_len : ∀ sz ∈ szs, 1 ≤ sz.length ∧ sz.length ≤ 4 ∧ ∀ n ∈ sz, n ≤ 3 := by decide +kernel
noncomputable def add1 (kn : List Arr) (x : Arr) : List Arr := if x ∈ kn then kn else kn ++ [x]
noncomputable def step1 (kn : List Arr) (f s : Arr) : List Arr := if f.2.1 = s.1 then add1 kn (comp f s) else kn
noncomputable def turn (k : Arr) (kn : List Arr) (o : Arr) : List Arr := step1 (step1 kn k o) o k
noncomputable def pass (k : Arr) (kn snap : List Arr) : List Arr := snap.foldl (turn k) kn
theorem add1_pre (kn : List Arr) (x : Arr) : kn <+: add1 kn x := by
  unfold add1; split
  · exact List.prefix_refl _
  · exact List.prefix_append _ _
theorem add1_mem (kn : List Arr) (x : Arr) : x ∈ add1 kn x := by
  unfold add1; split
  · assumption
  · simp
theorem step1_pre (kn : List Arr) (f s : Arr) : kn <+: step1 kn f s := by
  unfold step1; split
  · exact add1_pre _ _
  · exact List.prefix_refl _
theorem turn_pre (k : Arr) (kn : List Arr) (o : Arr) : kn <+: turn k kn o := (step1_pre kn k o).trans (step1_pre _ o k)
theorem pass_pre (k : Arr) : ∀ (snap kn : List Arr), kn <+: pass k kn snap
  | [], kn => List.prefix_refl _
  | o :: r, kn => (turn_pre k kn o).trans (pass_pre k r _)
structure Kn (sz : List Nat) (kn : List Arr) : Prop where
  nd : kn.Nodup
  ok : ∀ x ∈ kn, Ok sz x
theorem comp_ok {sz : List Nat} {x y : Arr} (hx : Ok sz x) (hy : Ok sz y) (e : x.2.1 = y.1) : Ok sz (comp x y) := by
  obtain ⟨n, m, h1, h2, h3, h4⟩ := hx
  obtain ⟨n', m', g1, g2, g3, g4⟩ := hy
  refine ⟨n, m', h1, g2, by simp [comp, h3], fun z hz => ?_⟩
  simp only [comp, List.mem_map] at hz
  obtain ⟨i, hi, rfl⟩ := hz
  have hm : m = n' := by rw [e] at h2; rw [h2] at g1; exact Option.some.inj g1
  have : i < y.2.2.length := by rw [g3, ← hm]; exact h4 i hi
  have e3 : y.2.2.getD i 0 = y.2.2[i] := by simp [List.getD, List.getElem?_eq_getElem this]
  rw [e3]
  exact g4 _ (List.getElem_mem this)
theorem add1_kn {sz kn x} (h : Kn sz kn) (hx : Ok sz x) : Kn sz (add1 kn x) := by
  unfold add1; split
  · exact h
  · rename_i hn
    refine ⟨?_, fun y hy => ?_⟩
    · rw [List.nodup_append]
      refine ⟨h.nd, by simp, fun a ha b hb => ?_⟩
      simp at hb; subst hb
      exact fun e => hn (e ▸ ha)
    · rcases List.mem_append.mp hy with q | q
      · exact h.ok y q
      · simp at q; subst q; exact hx
theorem step1_kn {sz kn f s} (h : Kn sz kn) (hf : Ok sz f) (hs : Ok sz s) : Kn sz (step1 kn f s) := by
  unfold step1; split
  · exact add1_kn h (comp_ok hf hs ‹_›)
  · exact h
theorem turn_kn {sz k kn o} (h : Kn sz kn) (hk : Ok sz k) (ho : Ok sz o) : Kn sz (turn k kn o) := step1_kn (step1_kn h hk ho) ho hk
theorem pass_kn {sz k} (hk : Ok sz k) : ∀ {snap kn : List Arr}, Kn sz kn → (∀ o ∈ snap, Ok sz o) → Kn sz (pass k kn snap)
  | [], kn, h, _ => h
  | o :: r, kn, h, hs => pass_kn hk (snap := r) (turn_kn h hk (hs o (by simp))) fun q hq => hs q (by simp [hq])
theorem step1_has {kn f s} (e : f.2.1 = s.1) : comp f s ∈ step1 kn f s := by
  unfold step1; rw [if_pos e]; exact add1_mem _ _
theorem turn_has {k kn o} : (k.2.1 = o.1 → comp k o ∈ turn k kn o) ∧ (o.2.1 = k.1 → comp o k ∈ turn k kn o) :=
  ⟨fun e => (step1_pre _ o k).subset (step1_has e), fun e => step1_has e⟩
theorem pass_has {k} : ∀ {snap kn : List Arr} {o : Arr}, o ∈ snap → (k.2.1 = o.1 → comp k o ∈ pass k kn snap) ∧ (o.2.1 = k.1 → comp o k ∈ pass k kn snap)
  | q :: r, kn, o, h => by
    rcases List.mem_cons.mp h with e | h
    · subst e
      have t := turn_has (k := k) (kn := kn) (o := o)
      exact ⟨fun e => (pass_pre k r _).subset (t.1 e), fun e => (pass_pre k r _).subset (t.2 e)⟩
    · exact pass_has (snap := r) (kn := turn k kn q) h
noncomputable def Cl (kn : List Arr) (n : Nat) : Prop := ∀ i j x y, i < n → j < n → kn[i]? = some x → kn[j]? = some y → x.2.1 = y.1 → comp x y ∈ kn
theorem pre_get {α : Type} {l l' : List α} (h : l <+: l') {i : Nat} {x : α} (e : l[i]? = some x) : l'[i]? = some x := by
  obtain ⟨t, rfl⟩ := h
  rw [List.getElem?_append_left (List.getElem?_eq_some_iff.mp e).1]; exact e
theorem pass_cl {kn : List Arr} {n : Nat} {k : Arr} (h : Cl kn n) (hk : kn[n]? = some k) : Cl (pass k kn kn) (n + 1) := by
  have pre := pass_pre k kn kn
  have hn : n < kn.length := (List.getElem?_eq_some_iff.mp hk).1
  have back : ∀ {i x}, i < n + 1 → (pass k kn kn)[i]? = some x → kn[i]? = some x := fun {i x} hi e => by
    have hl : i < kn.length := by omega
    have : kn[i]? = some kn[i] := by simp [hl]
    rw [pre_get pre this] at e; rw [this]; exact e
  intro i j x y hi hj hx hy e
  have hx' := back hi hx
  have hy' := back hj hy
  by_cases ei : i = n
  · subst ei
    rw [hk] at hx'; cases hx'
    exact (pass_has (List.mem_of_getElem? hy')).1 e
  · by_cases ej : j = n
    · subst ej
      rw [hk] at hy'; cases hy'
      exact (pass_has (List.mem_of_getElem? hx')).2 e
    · exact pre.subset (h i j x y (by omega) (by omega) hx' hy' e)
theorem cl_all {kn : List Arr} (h : Cl kn kn.length) : ∀ x ∈ kn, ∀ y ∈ kn, x.2.1 = y.1 → comp x y ∈ kn := by
  intro x hx y hy e
  obtain ⟨i, hi, rfl⟩ := List.mem_iff_getElem.mp hx
  obtain ⟨j, hj, rfl⟩ := List.mem_iff_getElem.mp hy
  exact h i j _ _ hi hj (by simp [hi]) (by simp [hj]) e
structure Good (sz : List Nat) (kn : List Arr) : Prop where
  szm : sz ∈ szs
  nd : kn.Nodup
  ok : ∀ x ∈ kn, Ok sz x
  rest : ∀ b, b < sz.length → idm sz b ∈ kn
  cl : ∀ x ∈ kn, ∀ y ∈ kn, x.2.1 = y.1 → comp x y ∈ kn
theorem Good.few {sz kn} (g : Good sz kn) : kn.length ≤ 27 :=
  Nat.le_trans (len_le_of_sub g.nd fun x hx => mem_univ (g.ok x hx)) (szs_univ sz g.szm)
theorem Good.perm {sz kn kn'} (g : Good sz kn) (p : kn'.Perm kn) : Good sz kn' :=
  ⟨g.szm, p.nodup_iff.mpr g.nd, fun x hx => g.ok x (p.mem_iff.mp hx), fun b hb => p.mem_iff.mpr (g.rest b hb), fun x hx y hy e => p.mem_iff.mpr (g.cl x (p.mem_iff.mp hx) y (p.mem_iff.mp hy) e)⟩
end Ar

set_option linter.all false
namespace Ar
theorem getD_lt {α : Type} {l : List α} {i : Nat} {d : α} (h : i < l.length) : l.getD i d = l[i] := by
  rw [List.getD_eq_getElem?_getD, List.getElem?_eq_getElem h]; rfl
structure HallN (en : List (Nat × Nat)) (re : List Nat) (tb : List (List Int)) : Prop where
  nb1 : 1 ≤ re.length
  nb6 : re.length ≤ 6
  na1 : 1 ≤ en.length
  na40 : en.length ≤ 40
  eb : ∀ i, i < en.length → (en.getD i (0, 0)).1 < re.length ∧ (en.getD i (0, 0)).2 < re.length
  rs : ∀ b, b < re.length → re.getD b 0 < en.length ∧ en.getD (re.getD b 0) (0, 0) = (b, b)
  tl : tb.length = en.length
  rl : ∀ i, i < en.length → (tb.getD i []).length = en.length
  tp : ∀ i j, i < en.length → j < en.length → (en.getD i (0, 0)).2 = (en.getD j (0, 0)).1 →
    ∃ k, k < en.length ∧ (tb.getD i []).getD j (-1) = (k : Int) ∧ en.getD k (0, 0) = ((en.getD i (0, 0)).1, (en.getD j (0, 0)).2)
  tn : ∀ i j, i < en.length → j < en.length → (en.getD i (0, 0)).2 ≠ (en.getD j (0, 0)).1 → (tb.getD i []).getD j (-1) = -1
  ul : ∀ i, i < en.length → (tb.getD (re.getD (en.getD i (0, 0)).1 0) []).getD i (-1) = (i : Int)
  ur : ∀ i, i < en.length → (tb.getD i []).getD (re.getD (en.getD i (0, 0)).2 0) (-1) = (i : Int)
  as : ∀ i j k x y : Nat, i < en.length → j < en.length → k < en.length → (tb.getD i []).getD j (-1) = (x : Int) → (tb.getD j []).getD k (-1) = (y : Int) →
    (tb.getD x []).getD k (-1) = (tb.getD i []).getD y (-1)
noncomputable def enOf (kn : List Arr) : List (Nat × Nat) := kn.map fun x => (x.1, x.2.1)
noncomputable def reOf (sz : List Nat) (kn : List Arr) : List Nat := (List.range sz.length).map fun b => kn.idxOf (idm sz b)
noncomputable def mk (kn : List Arr) (x y : Arr) : Int := if x.2.1 = y.1 then (kn.idxOf (comp x y) : Int) else -1
noncomputable def tbOf (kn : List Arr) : List (List Int) := kn.map fun x => kn.map fun y => mk kn x y
theorem comp_assoc {sz : List Nat} {x y z : Arr} (hx : Ok sz x) (hy : Ok sz y) (hz : Ok sz z) (e : x.2.1 = y.1) (e' : y.2.1 = z.1) : comp (comp x y) z = comp x (comp y z) := by
  obtain ⟨n, m, h1, h2, h3, h4⟩ := hx
  obtain ⟨n', m', g1, g2, g3, g4⟩ := hy
  have hm : m = n' := by rw [e] at h2; rw [h2] at g1; exact Option.some.inj g1
  simp only [comp, List.map_map, Prod.mk.injEq, true_and]
  refine List.map_congr_left fun i hi => ?_
  have hl : i < y.2.2.length := by rw [g3, ← hm]; exact h4 i hi
  simp only [Function.comp, List.getD_eq_getElem?_getD, List.getElem?_map]
  rw [List.getElem?_eq_getElem hl]
  simp
theorem map_getD_range (l : List Nat) : (List.range l.length).map (fun i => l.getD i 0) = l := by
  apply List.ext_getElem
  · simp
  · intro i h1 h2
    simp only [List.getElem_map, List.getElem_range]
    exact getD_lt h2
theorem comp_idl {sz : List Nat} {x : Arr} (hx : Ok sz x) : comp (idm sz x.1) x = x := by
  obtain ⟨n, m, h1, h2, h3, h4⟩ := hx
  have e : sz.getD x.1 0 = x.2.2.length := by rw [List.getD_eq_getElem?_getD, h1, h3]; rfl
  simp only [comp, idm, e, map_getD_range]
theorem comp_idr {sz : List Nat} {x : Arr} (hx : Ok sz x) : comp x (idm sz x.2.1) = x := by
  obtain ⟨n, m, h1, h2, h3, h4⟩ := hx
  have e : sz.getD x.2.1 0 = m := by rw [List.getD_eq_getElem?_getD, h2]; rfl
  have : (x.2.2.map fun i => (List.range m).getD i 0) = x.2.2 := by
    conv => rhs; rw [← List.map_id x.2.2]
    refine List.map_congr_left fun i hi => ?_
    have := h4 i hi
    rw [getD_lt (by simpa using this)]; simp
  simp only [comp, idm, e, this]
section
variable {sz : List Nat} {kn : List Arr}
theorem en_len : (enOf kn).length = kn.length := by simp [enOf]
theorem re_len : (reOf sz kn).length = sz.length := by simp [reOf]
theorem en_at {i : Nat} (h : i < kn.length) : (enOf kn).getD i (0, 0) = (kn[i].1, kn[i].2.1) := by
  rw [getD_lt (by rw [en_len]; exact h)]; simp [enOf]
theorem tb_row {i : Nat} (h : i < kn.length) : (tbOf kn).getD i [] = kn.map fun y => mk kn kn[i] y := by
  rw [getD_lt (by simp [tbOf]; exact h)]; simp [tbOf]
theorem tb_at {i j : Nat} (h : i < kn.length) (h' : j < kn.length) : ((tbOf kn).getD i []).getD j (-1) = mk kn kn[i] kn[j] := by
  rw [tb_row h, getD_lt (by simpa using h')]; simp
theorem re_at {b : Nat} (h : b < sz.length) : (reOf sz kn).getD b 0 = kn.idxOf (idm sz b) := by
  rw [getD_lt (by rw [re_len]; exact h)]; simp [reOf]
theorem ok_lt {x : Arr} (h : Ok sz x) : x.1 < sz.length ∧ x.2.1 < sz.length := by
  obtain ⟨n, m, h1, h2, _⟩ := h
  exact ⟨(List.getElem?_eq_some_iff.mp h1).1, (List.getElem?_eq_some_iff.mp h2).1⟩
theorem idx_at {x : Arr} (h : x ∈ kn) : ∃ hl : kn.idxOf x < kn.length, kn[kn.idxOf x] = x :=
  ⟨List.idxOf_lt_length_of_mem h, List.getElem_idxOf _⟩
theorem mk_nat {x y : Arr} {k : Nat} (h : mk kn x y = (k : Int)) : x.2.1 = y.1 ∧ k = kn.idxOf (comp x y) := by
  unfold mk at h
  split at h
  · exact ⟨‹_›, by omega⟩
  · omega
theorem hall_of (g : Good sz kn) : HallN (enOf kn) (reOf sz kn) (tbOf kn) := by
  have few := g.few
  obtain ⟨s1, s4, _⟩ := szs_len sz g.szm
  have okat : ∀ {i} (h : i < kn.length), Ok sz kn[i] := fun h => g.ok _ (List.getElem_mem h)
  have n1 : 1 ≤ kn.length := List.length_pos_of_mem (g.rest 0 (by omega))
  have idn : ∀ {i} (h : i < kn.length), kn.idxOf kn[i] = i := fun {i} h => g.nd.idxOf_getElem i h
  refine ⟨by rw [re_len]; exact s1, by rw [re_len]; omega, by rw [en_len]; exact n1, by rw [en_len]; omega, ?_, ?_, ?_, ?_, ?_, ?_, ?_, ?_, ?_⟩
  · intro i h
    rw [en_len] at h
    rw [en_at h, re_len]
    exact ok_lt (okat h)
  · intro b h
    rw [re_len] at h
    obtain ⟨hl, e⟩ := idx_at (g.rest b h)
    rw [re_at h, en_len, en_at hl, e]
    exact ⟨hl, rfl⟩
  · simp [tbOf, en_len]
  · intro i h
    rw [en_len] at h
    rw [tb_row h, en_len]; simp
  · intro i j hi hj e
    rw [en_len] at hi hj
    rw [en_at hi, en_at hj] at e
    obtain ⟨hl, ek⟩ := idx_at (g.cl _ (List.getElem_mem hi) _ (List.getElem_mem hj) e)
    refine ⟨kn.idxOf (comp kn[i] kn[j]), by rw [en_len]; exact hl, ?_, ?_⟩
    · rw [tb_at hi hj, mk, if_pos e]
    · rw [en_at hl, ek, en_at hi, en_at hj]; rfl
  · intro i j hi hj e
    rw [en_len] at hi hj
    rw [en_at hi, en_at hj] at e
    rw [tb_at hi hj, mk, if_neg e]
  · intro i h
    rw [en_len] at h
    have o := okat h
    obtain ⟨hl, e⟩ := idx_at (g.rest _ (ok_lt o).1)
    rw [en_at h, re_at (ok_lt o).1, tb_at hl h, e, mk, if_pos (show (idm sz kn[i].1).2.1 = kn[i].1 from rfl), comp_idl o, idn h]
  · intro i h
    rw [en_len] at h
    have o := okat h
    obtain ⟨hl, e⟩ := idx_at (g.rest _ (ok_lt o).2)
    rw [en_at h, re_at (ok_lt o).2, tb_at h hl, e, mk, if_pos (show kn[i].2.1 = (idm sz kn[i].2.1).1 from rfl), comp_idr o, idn h]
  · intro i j k x y hi hj hk hx hy
    rw [en_len] at hi hj hk
    rw [tb_at hi hj] at hx
    rw [tb_at hj hk] at hy
    obtain ⟨e1, rfl⟩ := mk_nat hx
    obtain ⟨e2, rfl⟩ := mk_nat hy
    obtain ⟨l1, q1⟩ := idx_at (g.cl _ (List.getElem_mem hi) _ (List.getElem_mem hj) e1)
    obtain ⟨l2, q2⟩ := idx_at (g.cl _ (List.getElem_mem hj) _ (List.getElem_mem hk) e2)
    rw [tb_at l1 hk, tb_at hi l2, q1, q2]
    have a1 : (comp kn[i] kn[j]).2.1 = kn[k].1 := e2
    have a2 : kn[i].2.1 = (comp kn[j] kn[k]).1 := e1
    rw [mk, mk, if_pos a1, if_pos a2, comp_assoc (okat hi) (okat hj) (okat hk) e1 e2]
end
end Ar

set_option linter.all false
namespace Ar
noncomputable abbrev ent (tb : List (List Int)) (a b : Nat) : Int := (tb.getD a []).getD b (-1)
section
variable {en : List (Nat × Nat)} {re : List Nat} {tb : List (List Int)}
end
end Ar

set_option Elab.async false
set_option linter.all false
set_option maxRecDepth 100000
set_option maxHeartbeats 1000000
namespace DL
open L2
set_option autoImplicit false
section
variable {α β : Type}
@[simp] theorem bind_val (a : α) (f : α → R β) : (R.val a).bind f = f a := Eq.trans rfl rfl
@[simp] theorem bind_exc (c : Nat) (f : α → R β) : (R.exc c : R α).bind f = .exc c := Eq.trans rfl rfl
@[simp] theorem noE_val (a : α) : noE (R.val a) = .val a := Eq.trans rfl rfl
@[simp] theorem noex_val (a : D) : noex (R.val a) = .val a := Eq.trans rfl rfl
end
section
variable (ρ : Rho)
@[simp] theorem sq_ev (a b : Rho → R Out) : sq a b ρ = (a ρ).bind fun o => match o with
  | .nx ρ' => b ρ'
  | o => .val o := Eq.trans rfl rfl
@[simp] theorem nxt_ev : nxt ρ = .val (.nx ρ) := Eq.trans rfl rfl
@[simp] theorem asg_ev (i : Nat) (e : Rho → R D) : asg i e ρ = (e ρ).bind fun d => .val (.nx (ρ.set i (some (.shr d)))) := Eq.trans rfl rfl
@[simp] theorem own_ev (i : Nat) (e : Rho → R (List D)) : own i e ρ = (e ρ).bind fun d => .val (.nx (ρ.set i (some (.own d)))) := Eq.trans rfl rfl
@[simp] theorem ret_ev (e : Rho → R D) : ret e ρ = (e ρ).bind fun d => .val (.rt d) := Eq.trans rfl rfl
@[simp] theorem drp_ev (e : Rho → R D) : drp e ρ = (e ρ).bind fun _ => .val (.nx ρ) := Eq.trans rfl rfl
@[simp] theorem iff_ev (t : Rho → R Bool) (a b : Rho → R Out) : DL.iff t a b ρ = (t ρ).bind fun c => if c = true then a ρ else b ρ := Eq.trans rfl rfl
@[simp] theorem tst_ev (F : Rho → R D) : tst F ρ = (F ρ).bind asB := Eq.trans rfl rfl
@[simp] theorem asB_ev (b : Bool) : asB (.bl b) = .val b := Eq.trans rfl rfl
@[simp] theorem andB_ev (a b : Rho → R Bool) : andB a b ρ = (a ρ).bind fun x => if x = true then b ρ else .val false := Eq.trans rfl rfl
@[simp] theorem orB_ev (a b : Rho → R Bool) : orB a b ρ = (a ρ).bind fun x => if x = true then .val true else b ρ := Eq.trans rfl rfl
@[simp] theorem notB_ev (a : Rho → R Bool) : notB a ρ = (a ρ).bind fun x => .val (!x) := Eq.trans rfl rfl
@[simp] theorem vr_ev (i : Nat) : vr i ρ = match ρ[i]? with
  | some (some (.shr d)) => .val d
  | _ => .bad := Eq.trans rfl rfl
@[simp] theorem vb_ev (i : Nat) : vb i ρ = match ρ[i]? with
  | some (some (.shr d)) => .val d
  | some (some (.own xs)) => .val (.lst xs)
  | _ => .bad := Eq.trans rfl rfl
@[simp] theorem kd_ev (d : D) : kd d ρ = .val d := Eq.trans rfl rfl
@[simp] theorem bin_ev (f : D → D → R D) (a b : Rho → R D) : bin f a b ρ = (a ρ).bind fun x => (b ρ).bind fun y => f x y := Eq.trans rfl rfl
@[simp] theorem una_ev (f : D → R D) (a : Rho → R D) : una f a ρ = (a ρ).bind f := Eq.trans rfl rfl
@[simp] theorem aN_ev : aN ρ = .val [] := Eq.trans rfl rfl
@[simp] theorem aC_ev (a : Rho → R D) (r : Rho → R (List D)) : aC a r ρ = (a ρ).bind fun x => (r ρ).bind fun xs => .val (x :: xs) := Eq.trans rfl rfl
@[simp] theorem eT_ev (a : Rho → R (List D)) : eT a ρ = (a ρ).bind mkT := Eq.trans rfl rfl
@[simp] theorem eL_ev (a : Rho → R (List D)) : eL a ρ = (a ρ).bind mkL := Eq.trans rfl rfl
@[simp] theorem mkT2 (a b : D) : mkT [a, b] = .val (.tup [a, b]) := Eq.trans rfl rfl
@[simp] theorem mkT3 (a b c : D) : mkT [a, b, c] = .val (.tup [a, b, c]) := Eq.trans rfl rfl
@[simp] theorem mkT5 (a b c d e : D) : mkT [a, b, c, d, e] = .val (.tup [a, b, c, d, e]) := Eq.trans rfl rfl
@[simp] theorem mkL1 (a : D) : mkL [a] = .val (.lst [a]) := Eq.trans rfl rfl
@[simp] theorem mkL2 (a b : D) : mkL [a, b] = .val (.lst [a, b]) := Eq.trans rfl rfl
@[simp] theorem mkL3 (a b c : D) : mkL [a, b, c] = .val (.lst [a, b, c]) := Eq.trans rfl rfl
@[simp] theorem mkL5 (a b c d e : D) : mkL [a, b, c, d, e] = .val (.lst [a, b, c, d, e]) := Eq.trans rfl rfl
@[simp] theorem mkL6 (a b c d e f : D) : mkL [a, b, c, d, e, f] = .val (.lst [a, b, c, d, e, f]) := Eq.trans rfl rfl
@[simp] theorem eLs_ev (F : Rho → R (List D)) : eLs F ρ = (F ρ).bind fun xs => .val (.lst xs) := Eq.trans rfl rfl
@[simp] theorem fLim_nil : fLim aN ρ = .val [] := Eq.trans rfl rfl
@[simp] theorem fIt_ev (F : Rho → R D) : fIt F ρ = (F ρ).bind itD := Eq.trans rfl rfl
@[simp] theorem itD_lst (xs : List D) : itD (.lst xs) = .val xs := Eq.trans rfl rfl
@[simp] theorem itD_tup (xs : List D) : itD (.tup xs) = .val xs := Eq.trans rfl rfl
@[simp] theorem cal_ev (n : Nat) (den : List D → R D) (a : Rho → R (List D)) : cal n den a ρ = (a ρ).bind fun ds => if ds.length = n then noex (den ds) else .bad := Eq.trans rfl rfl
@[simp] theorem fz_ev (i : Nat) (F : Rho → R Out) : fz i F ρ = F (frz i ρ) := Eq.trans rfl rfl
@[simp] theorem forS_ev (src : Rho → R (List D)) (T : D → Rho → Option Rho) (F : Rho → R Out) : forS src T F ρ = (src ρ).bind fun xs => loopD T F xs ρ := Eq.trans rfl rfl
@[simp] theorem fRng_ev (F : Rho → R (List D)) : fRng F ρ = (F ρ).bind rngD := Eq.trans rfl rfl
@[simp] theorem fEnu_ev (F : Rho → R (List D)) : fEnu F ρ = (F ρ).bind enuD := Eq.trans rfl rfl
@[simp] theorem enuD_ev (xs : List D) : enuD [.lst xs] = .val (enu 0 xs) := Eq.trans rfl rfl
@[simp] theorem eTupRg_ev (F : Rho → R (List D)) : eTupRg F ρ = (F ρ).bind rgT := Eq.trans rfl rfl
@[simp] theorem eMax_ev (F : Rho → R (List D)) : eMax F ρ = (F ρ).bind fmax := Eq.trans rfl rfl
@[simp] theorem fmax_ev (i j : Int) : fmax [.int i, .int j] = .val (.int (if j > i then j else i)) := Eq.trans rfl rfl
@[simp] theorem fin_rt (d : D) : fin (.val (.rt d)) = .val d := Eq.trans rfl rfl
@[simp] theorem fin_nx (ρ : Rho) : fin (.val (.nx ρ)) = .val .non := Eq.trans rfl rfl
@[simp] theorem mkH_ev (den : Rho → R D) (Fa : Rho → R (List D)) : mkH den Fa ρ = (Fa ρ).bind fun ds => match ds with
  | [e, r, t] => noex (den (rho3 e r t))
  | _ => .bad := Eq.trans rfl rfl
@[simp] theorem flen_l (xs : List D) : flen (.lst xs) = .val (.int xs.length) := Eq.trans rfl rfl
@[simp] theorem flen_s (xs : List Int) : flen (.scr xs) = .val (.int xs.length) := Eq.trans rfl rfl
@[simp] theorem ftup_l (xs : List D) : ftup (.lst xs) = .val (.tup xs) := Eq.trans rfl rfl
@[simp] theorem fneg_ev (i : Int) : fneg (.int i) = .val (.int (-i)) := Eq.trans rfl rfl
@[simp] theorem iI_ev (f : Int → Int → R D) (i j : Int) : iI f (.int i) (.int j) = f i j := Eq.trans rfl rfl
@[simp] theorem fsub_ev (i j : Int) : fsub i j = .val (.int (i - j)) := Eq.trans rfl rfl
@[simp] theorem flt_ev (i j : Int) : flt i j = .val (.bl (decide (i < j))) := Eq.trans rfl rfl
@[simp] theorem fgt_ev (i j : Int) : fgt i j = .val (.bl (decide (j < i))) := Eq.trans rfl rfl
@[simp] theorem fge_ev (i j : Int) : fge i j = .val (.bl (decide (j ≤ i))) := Eq.trans rfl rfl
@[simp] theorem fadd_ii (i j : Int) : fadd (.int i) (.int j) = .val (.int (i + j)) := Eq.trans rfl rfl
theorem fmod_ok {i j : Int} (h : 0 < j) : fmod i j = .val (.int (i % j)) := if_pos h
theorem fdiv_ok {i j : Int} (h : 0 < j ∧ j < 1073741824) : fdiv i j = .val (.int (i / j)) := if_pos h
theorem fmul_ok {i j : Int} (h : -(2 ^ 64) < j ∧ j < 2 ^ 64) : fmul i j = .val (.int (i * j)) := if_pos (.inr h)
@[simp] theorem chn_ev (f g : Int → Int → Bool) (a b c : Rho → R D) : chn f g a b c ρ = (a ρ).bind fun x => (b ρ).bind fun y => match x, y with
  | .int i, .int j => if f i j = true then (c ρ).bind fun z => match z with
      | .int k => .val (.bl (g j k))
      | _ => .bad
    else .val (.bl false)
  | _, _ => .bad := Eq.trans rfl rfl
end
theorem atI_nat {α : Type} (xs : List α) (i : Nat) : atI xs (i : Int) = xs[i]? := by
  unfold atI ixN
  rw [if_pos (Int.natCast_nonneg i)]
  by_cases h : i < xs.length
  · rw [if_pos (by exact_mod_cast h)]; simp
  · rw [if_neg (by intro z; exact h (by exact_mod_cast z))]
    simp at h
    simp [List.getElem?_eq_none h]
theorem fix_l {xs : List D} {i : Nat} {d : D} (h : xs[i]? = some d) : fix (.lst xs) (.int (i : Int)) = .val d := by
  show (match atI xs (i : Int) with | some d => R.val d | none => .bad) = _
  rw [atI_nat, h]
theorem fix_t {xs : List D} {i : Nat} {d : D} (h : xs[i]? = some d) : fix (.tup xs) (.int (i : Int)) = .val d := by
  show (match atI xs (i : Int) with | some d => R.val d | none => .bad) = _
  rw [atI_nat, h]
theorem fix_s {xs : List Int} {i : Nat} {d : Int} (h : xs[i]? = some d) : fix (.scr xs) (.int (i : Int)) = .val (.int d) := by
  show (match atI xs (i : Int) with | some d => R.val (D.int d) | none => R.bad) = _
  rw [atI_nat, h]
@[simp] theorem fix_t0 (a : D) (r : List D) : fix (.tup (a :: r)) (.int 0) = .val a := fix_t (i := 0) rfl
@[simp] theorem fix_t1 (a b : D) (r : List D) : fix (.tup (a :: b :: r)) (.int 1) = .val b := fix_t (i := 1) rfl
@[simp] theorem fix_t2 (a b c : D) (r : List D) : fix (.tup (a :: b :: c :: r)) (.int 2) = .val c := fix_t (i := 2) rfl
theorem cmpD_map {T : D → Rho → Option Rho} {e : Rho → R D} {g : D → D} {ρ : Rho} : ∀ {xs : List D}, (∀ x ∈ xs, ∃ ρ1, T x ρ = some ρ1 ∧ e ρ1 = .val (g x)) → cmpD T tT e xs ρ = .val (xs.map g)
  | [], _ => rfl
  | x :: r, h => by
    obtain ⟨ρ1, h1, h2⟩ := h x (by simp)
    have ih := cmpD_map (T := T) (e := e) (g := g) (ρ := ρ) (xs := r) fun y hy => h y (by simp [hy])
    unfold cmpD
    rw [h1]
    show (noE (tT ρ1)).bind _ = _
    simp [tT, h2, ih]
theorem loopD_inv {T : D → Rho → Option Rho} {F : Rho → R Out} (I : Nat → Rho → Prop) {xs : List D} (step : ∀ (i : Nat) x ρ, xs[i]? = some x → I i ρ → ∃ ρ1 ρ2, T x ρ = some ρ1 ∧ F ρ1 = .val (.nx ρ2) ∧ I (i + 1) ρ2) {ρ : Rho} (h : I 0 ρ) : ∃ ρ', loopD T F xs ρ = .val (.nx ρ') ∧ I xs.length ρ' := by
  suffices ∀ (n k : Nat) (ρ : Rho), k + n = xs.length → I k ρ → ∃ ρ', loopD T F (xs.drop k) ρ = .val (.nx ρ') ∧ I xs.length ρ' by
    have := this xs.length 0 ρ (by omega) h
    rwa [List.drop_zero] at this
  intro n
  induction n with
  | zero =>
    intro k ρ hk hI
    have hk : k = xs.length := by omega
    subst hk
    rw [List.drop_length]
    exact ⟨ρ, rfl, hI⟩
  | succ n ih =>
    intro k ρ hk hI
    have hlt : k < xs.length := by omega
    obtain ⟨ρ1, ρ2, h1, h2, h3⟩ := step k xs[k] ρ (by simp [hlt]) hI
    rw [List.drop_eq_getElem_cons hlt]
    unfold loopD
    rw [h1]
    show ∃ ρ', (F ρ1).bind _ = _ ∧ _
    rw [h2]
    exact ih (k + 1) ρ2 (by omega) h3
end DL

set_option Elab.async false
set_option linter.all false
set_option maxRecDepth 100000
set_option maxHeartbeats 1000000
namespace DL
open L2 Ar
set_option autoImplicit false
noncomputable def pln : Nat → D → Bool
  | _, .non => true
  | _, .int _ => true
  | n + 1, .lst xs => xs.all (pln n)
  | n + 1, .tup xs => xs.all (pln n)
  | _, _ => false
theorem pln_eqb : ∀ {n : Nat} {x : D}, pln n x = true → eqb n x = true := by
  intro n
  induction n with
  | zero =>
    intro x h
    cases x with
    | non => rfl
    | int _ => rfl
    | _ => cases h
  | succ n ih =>
    intro x h
    cases x with
    | non => rfl
    | int _ => rfl
    | lst xs => exact List.all_eq_true.mpr fun y hy => ih (List.all_eq_true.mp h y hy)
    | tup xs => exact List.all_eq_true.mpr fun y hy => ih (List.all_eq_true.mp h y hy)
    | _ => cases h
theorem pyq_list {n : Nat} (ih : ∀ {x y : D}, pln n x = true → pln n y = true → (pyq n x y = true ↔ x = y)) {xs ys : List D} (hx : xs.all (pln n) = true) (hy : ys.all (pln n) = true) :
    (decide (xs.length = ys.length) && (List.range xs.length).all fun j => pyq n (xs.getD j .non) (ys.getD j .non)) = true ↔ xs = ys := by
  rw [Bool.and_eq_true, decide_eq_true_iff, List.all_eq_true]
  rw [List.all_eq_true] at hx hy
  constructor
  · rintro ⟨hl, h⟩
    apply List.ext_getElem hl
    intro j h1 h2
    have := h j (List.mem_range.mpr h1)
    rw [getD_lt h1, getD_lt h2] at this
    exact (ih (hx _ (List.getElem_mem h1)) (hy _ (List.getElem_mem h2))).mp this
  · rintro rfl
    refine ⟨rfl, fun j hj => ?_⟩
    have h1 := List.mem_range.mp hj
    rw [getD_lt h1]
    exact (ih (hx _ (List.getElem_mem h1)) (hx _ (List.getElem_mem h1))).mpr rfl
theorem iff_no {p q : Prop} (h : ¬ p) (g : ¬ q) : p ↔ q := ⟨fun x => absurd x h, fun x => absurd x g⟩
theorem int_iff {a b : Int} : (a == b) = true ↔ D.int a = D.int b := beq_iff_eq.trans ⟨congrArg D.int, fun h => by cases h; rfl⟩
theorem pyq_iff : ∀ (n : Nat) {x y : D}, pln n x = true → pln n y = true → (pyq n x y = true ↔ x = y) := by
  intro n
  induction n with
  | zero =>
    intro x y hx hy
    cases x with
    | non =>
      cases y with
      | non => exact ⟨fun _ => rfl, fun _ => rfl⟩
      | int b => exact iff_no Bool.false_ne_true (fun h => by cases h)
      | _ => cases hy
    | int a =>
      cases y with
      | int b => exact int_iff
      | non => exact iff_no Bool.false_ne_true (fun h => by cases h)
      | _ => cases hy
    | _ => cases hx
  | succ n ih =>
    intro x y hx hy
    cases x with
    | lst xs =>
      cases y with
      | lst ys => rw [pyq_ll, pyq_list ih hx hy]; exact ⟨congrArg D.lst, fun h => by cases h; rfl⟩
      | non => exact iff_no Bool.false_ne_true (fun h => by cases h)
      | int _ => exact iff_no Bool.false_ne_true (fun h => by cases h)
      | tup _ => exact iff_no Bool.false_ne_true (fun h => by cases h)
      | _ => cases hy
    | tup xs =>
      cases y with
      | tup ys => rw [pyq_tt, pyq_list ih hx hy]; exact ⟨congrArg D.tup, fun h => by cases h; rfl⟩
      | non => exact iff_no Bool.false_ne_true (fun h => by cases h)
      | int _ => exact iff_no Bool.false_ne_true (fun h => by cases h)
      | lst _ => exact iff_no Bool.false_ne_true (fun h => by cases h)
      | _ => cases hy
    | non =>
      cases y with
      | non => exact ⟨fun _ => rfl, fun _ => rfl⟩
      | int b => exact iff_no Bool.false_ne_true (fun h => by cases h)
      | lst _ => exact iff_no Bool.false_ne_true (fun h => by cases h)
      | tup _ => exact iff_no Bool.false_ne_true (fun h => by cases h)
      | _ => cases hy
    | int a =>
      cases y with
      | int b => exact int_iff
      | non => exact iff_no Bool.false_ne_true (fun h => by cases h)
      | lst _ => exact iff_no Bool.false_ne_true (fun h => by cases h)
      | tup _ => exact iff_no Bool.false_ne_true (fun h => by cases h)
      | _ => cases hy
    | _ => cases hx
theorem feq_same {x : D} (h : pln 9 x = true) : feq x x = .val (.bl true) := by
  unfold feq; rw [if_pos ⟨pln_eqb h, pln_eqb h⟩, (pyq_iff 9 h h).mpr rfl]
theorem feq_diff {x y : D} (h : pln 9 x = true) (h' : pln 9 y = true) (e : x ≠ y) : feq x y = .val (.bl false) := by
  unfold feq; rw [if_pos ⟨pln_eqb h, pln_eqb h'⟩]
  cases q : pyq 9 x y with
  | false => rfl
  | true => exact absurd ((pyq_iff 9 h h').mp q) e
theorem fne_same {x : D} (h : pln 9 x = true) : fne x x = .val (.bl false) := by
  unfold fne; rw [if_pos ⟨pln_eqb h, pln_eqb h⟩, (pyq_iff 9 h h).mpr rfl]; rfl
theorem fne_diff {x y : D} (h : pln 9 x = true) (h' : pln 9 y = true) (e : x ≠ y) : fne x y = .val (.bl true) := by
  unfold fne; rw [if_pos ⟨pln_eqb h, pln_eqb h'⟩]
  cases q : pyq 9 x y with
  | false => rfl
  | true => exact absurd ((pyq_iff 9 h h').mp q) e
@[simp] theorem feq_ii (a b : Int) : feq (.int a) (.int b) = .val (.bl (decide (a = b))) := by
  by_cases h : a = b
  · subst h; rw [feq_same rfl]; simp
  · rw [feq_diff rfl rfl (by simpa using h)]; simp [h]
@[simp] theorem fne_ii (a b : Int) : fne (.int a) (.int b) = .val (.bl (decide (a ≠ b))) := by
  by_cases h : a = b
  · subst h; rw [fne_same rfl]; simp
  · rw [fne_diff rfl rfl (by simpa using h)]; simp [h]
noncomputable abbrev nD (n : Nat) : D := .int (n : Int)
noncomputable def arrD (x : Arr) : D := .tup [nD x.1, nD x.2.1, .tup (x.2.2.map nD)]
noncomputable def endD (p : Nat × Nat) : D := .tup [nD p.1, nD p.2]
noncomputable def ensD (en : List (Nat × Nat)) : D := .lst (en.map endD)
noncomputable def resD (re : List Nat) : D := .lst (re.map nD)
noncomputable def rowD (r : List Int) : D := .lst (r.map D.int)
noncomputable def tabD (tb : List (List Int)) : D := .lst (tb.map rowD)
theorem nD_inj {a b : Nat} : nD a = nD b ↔ a = b := by
  simp only [nD, D.int.injEq]; omega
theorem endD_inj {p q : Nat × Nat} : endD p = endD q ↔ p = q := by
  obtain ⟨a, b⟩ := p
  obtain ⟨c, d⟩ := q
  simp only [endD, nD, D.tup.injEq, List.cons.injEq, D.int.injEq, and_true, Prod.mk.injEq]; omega
theorem map_inj {α : Type} {f : α → D} (hf : ∀ a b, f a = f b → a = b) : ∀ {l m : List α}, l.map f = m.map f → l = m
  | [], [], _ => rfl
  | [], _ :: _, h => by simp at h
  | _ :: _, [], h => by simp at h
  | a :: l, b :: m, h => by
    simp only [List.map_cons, List.cons.injEq] at h
    rw [hf _ _ h.1, map_inj hf h.2]
theorem arrD_inj {x y : Arr} : arrD x = arrD y ↔ x = y := by
  obtain ⟨a, b, l⟩ := x
  obtain ⟨c, d, m⟩ := y
  constructor
  · intro h
    simp only [arrD, nD, D.tup.injEq, List.cons.injEq, D.int.injEq, Int.natCast_inj, and_true] at h
    obtain ⟨h1, h2, h3⟩ := h
    rw [h1, h2, map_inj (fun a b e => nD_inj.mp e) h3]
  · rintro h; rw [h]
theorem all_map {α : Type} {f : α → D} {n : Nat} (h : ∀ a, pln n (f a) = true) (l : List α) : (l.map f).all (pln n) = true := by
  rw [List.all_eq_true]
  intro y hy
  obtain ⟨a, _, rfl⟩ := List.mem_map.mp hy
  exact h a
theorem pln_n {k : Nat} (n : Nat) : pln k (nD n) = true := by unfold nD pln; rfl
theorem pln_tup {k : Nat} {xs : List D} (h : xs.all (pln k) = true) : pln (k + 1) (.tup xs) = true := h
theorem pln_end {k : Nat} (p : Nat × Nat) : pln (k + 1) (endD p) = true := pln_tup (by simp [pln_n])
theorem pln_arr {k : Nat} (x : Arr) : pln (k + 2) (arrD x) = true := pln_tup (by simp [pln_n]; exact pln_tup (all_map (fun a => pln_n a) _))
theorem map_at {α : Type} {f : α → D} {l : List α} {i : Nat} {d : α} (h : i < l.length) : (l.map f)[i]? = some (f (l.getD i d)) := by
  rw [getD_lt h]; simp [h]
theorem fix_ens {en : List (Nat × Nat)} {i : Nat} (h : i < en.length) : fix (ensD en) (.int (i : Int)) = .val (endD (en.getD i (0, 0))) := fix_l (map_at h)
theorem fix_res {re : List Nat} {i : Nat} (h : i < re.length) : fix (resD re) (.int (i : Int)) = .val (nD (re.getD i 0)) := fix_l (map_at h)
theorem fix_tab {tb : List (List Int)} {i : Nat} (h : i < tb.length) : fix (tabD tb) (.int (i : Int)) = .val (rowD (tb.getD i [])) := fix_l (map_at h)
theorem fix_row {r : List Int} {i : Nat} (h : i < r.length) : fix (rowD r) (.int (i : Int)) = .val (.int (r.getD i (-1))) := fix_l (map_at h)
@[simp] theorem fix_e0 (p : Nat × Nat) : fix (endD p) (.int 0) = .val (nD p.1) := fix_t0 _ _
@[simp] theorem fix_e1 (p : Nat × Nat) : fix (endD p) (.int 1) = .val (nD p.2) := fix_t1 _ _ _
@[simp] theorem fix_a0 (x : Arr) : fix (arrD x) (.int 0) = .val (nD x.1) := fix_t0 _ _
@[simp] theorem fix_a1 (x : Arr) : fix (arrD x) (.int 1) = .val (nD x.2.1) := fix_t1 _ _ _
@[simp] theorem fix_a2 (x : Arr) : fix (arrD x) (.int 2) = .val (.tup (x.2.2.map nD)) := fix_t2 _ _ _ _
@[simp] theorem flen_ens (en : List (Nat × Nat)) : flen (ensD en) = .val (.int en.length) := by unfold ensD; simp
@[simp] theorem flen_res (re : List Nat) : flen (resD re) = .val (.int re.length) := by unfold resD; simp
@[simp] theorem flen_row (r : List Int) : flen (rowD r) = .val (.int r.length) := by unfold rowD; simp
@[simp] theorem flen_tab (r : List (List Int)) : flen (tabD r) = .val (.int r.length) := by unfold tabD; simp
@[simp] theorem flen_end (p : Nat × Nat) : flen (endD p) = .val (.int 2) := Eq.trans rfl rfl
theorem loop_enu {F : Rho → R Out} {i j : Nat} (I : Rho → Prop) {xs : List D} (step : ∀ (k : Nat) x ρ, xs[k]? = some x → I ρ → ∃ ρ2, F ((ρ.set i (some (.shr (.int (k : Int))))).set j (some (.shr x))) = .val (.nx ρ2) ∧ I ρ2) {ρ : Rho} (h : I ρ) :
    ∃ ρ', loopD (tg2 i j) F (enu 0 xs) ρ = .val (.nx ρ') ∧ I ρ' := by
  refine loopD_inv (fun _ => I) (fun k y ρ e hI => ?_) h
  obtain ⟨x, e1, rfl⟩ := enu_at e
  rw [Nat.zero_add]
  obtain ⟨ρ2, h1, h2⟩ := step k x ρ e1 hI
  exact ⟨_, ρ2, rfl, h1, h2⟩
theorem loop_rng {F : Rho → R Out} {i n : Nat} (I : Nat → Rho → Prop) (step : ∀ (k : Nat) ρ, k < n → I k ρ → ∃ ρ2, F (ρ.set i (some (.shr (.int (k : Int))))) = .val (.nx ρ2) ∧ I (k + 1) ρ2) {ρ : Rho} (h : I 0 ρ) :
    ∃ ρ', loopD (tgN i) F (rng 0 n) ρ = .val (.nx ρ') ∧ I n ρ' := by
  have hl : (rng 0 n).length = n := by unfold rng; simp
  obtain ⟨ρ', h1, h2⟩ := loopD_inv (T := tgN i) (F := F) I (xs := rng 0 n) (fun k y ρ e hI => by
    have hk : k < n := by rw [← hl]; exact (List.getElem?_eq_some_iff.mp e).1
    have : y = .int (k : Int) := by
      unfold rng at e
      rw [List.getElem?_map, List.getElem?_range hk] at e
      simp at e; exact e.symm
    subst this
    obtain ⟨ρ2, h1, h2⟩ := step k ρ hk hI
    exact ⟨_, ρ2, rfl, h1, h2⟩) h
  exact ⟨ρ', h1, by rw [hl] at h2; exact h2⟩
theorem rngD_nat {n : Nat} (h : n ≤ 100000) : rngD [.int (n : Int)] = .val (rng 0 n) := by
  have : -(2 ^ 62) ≤ (n : Int) ∧ (n : Int) < 2 ^ 62 := by constructor <;> omega
  unfold rngD
  dsimp only
  rw [if_pos this, Int.toNat_natCast]
theorem rngD_int {z : Int} (h : 0 ≤ z) (h' : z ≤ 100000) : rngD [.int z] = .val (rng 0 z.toNat) := by
  have : -(2 ^ 62) ≤ z ∧ z < 2 ^ 62 := by constructor <;> omega
  unfold rngD
  dsimp only
  rw [if_pos this]
theorem rng_len (n : Nat) : (rng 0 n).length = n := by unfold rng; simp
theorem mem_rng {n : Nat} {x : D} (h : x ∈ rng 0 n) : ∃ k : Nat, k < n ∧ x = .int (k : Int) := by
  unfold rng at h
  obtain ⟨k, hk, rfl⟩ := List.mem_map.mp h
  exact ⟨k, List.mem_range.mp hk, by simp⟩
theorem fCmp_rng {src : Rho → R (List D)} {m n : Nat} {e : Rho → R D} {g : Nat → D} {ρ : Rho} {i : Nat} (hs : src ρ = .val (rng 0 m)) (hl : m ≤ 100000) (h : ∀ k : Nat, k < m → e ((ρ ++ List.replicate n none).set i (some (.shr (.int (k : Int))))) = .val (g k)) :
    fCmp src n (tgN i) tT e ρ = .val ((List.range m).map g) := by
  unfold fCmp
  rw [hs, bind_val, if_pos (show (rng 0 m).length ≤ LIM by rw [rng_len]; exact hl)]
  have : cmpD (tgN i) tT e (rng 0 m) (ρ ++ List.replicate n none) = .val ((rng 0 m).map fun x => match x with | .int z => g z.toNat | _ => .non) := cmpD_map fun x hx => by
    obtain ⟨k, hk, rfl⟩ := mem_rng hx
    exact ⟨_, rfl, by rw [h k hk]; simp⟩
  rw [this, noE_val]
  unfold rng
  rw [List.map_map]
  congr 1
  apply List.map_congr_left
  intro k hk
  simp
theorem fCmp_lst {α : Type} {src : Rho → R (List D)} {n : Nat} {e : Rho → R D} {f g : α → D} {l : List α} {ρ : Rho} {i : Nat} (hs : src ρ = .val (l.map f)) (hl : l.length ≤ 100000) (h : ∀ a ∈ l, e ((ρ ++ List.replicate n none).set i (some (.shr (f a)))) = .val (g a)) :
    fCmp src n (tgN i) tT e ρ = .val (l.map g) := by
  unfold fCmp
  rw [hs, bind_val, if_pos (show (l.map f).length ≤ LIM by rw [List.length_map]; exact hl)]
  suffices ∀ l : List α, (∀ a ∈ l, e ((ρ ++ List.replicate n none).set i (some (.shr (f a)))) = .val (g a)) → cmpD (tgN i) tT e (l.map f) (ρ ++ List.replicate n none) = .val (l.map g) by
    rw [this l h]; rfl
  intro l
  induction l with
  | nil => intro _; rfl
  | cons a r ih =>
    intro h
    have h1 := h a (by simp)
    have h2 := ih fun b hb => h b (by simp [hb])
    rw [List.map_cons]
    unfold cmpD
    show (noE (tT _)).bind _ = _
    rw [h2]
    simp only [tT, noE_val, bind_val, if_true]
    rw [h1]; rfl
end DL

set_option Elab.async false
set_option linter.all false
set_option maxRecDepth 100000
set_option maxHeartbeats 4000000
namespace DL
open PySem PySem.Spec PyProof.Rows L2
set_option autoImplicit false
structure Txt (K : PySem.W.Frag) (mg : Str → Option Value) (C : Addr) : Prop where
  cl : Cls K C
  nE : NoAttr K C "ends"
  nR : NoAttr K C "rests"
  nT : NoAttr K C "table"
  len : mg "len" = none
  list : mg "list" = none
  tuple : mg "tuple" = none
  range : mg "range" = none
  enumerate : mg "enumerate" = none
  max : mg "max" = none
  isinstance : mg "isinstance" = none
  min : mg "min" = none
  int : mg "int" = none
  bool : mg "bool" = none
  verr : mg "ValueError" = none
  ih : IsH K C
  hall : mg "Hall" = some (.ref C)
  most_boxes : ∃ t, mg "MOST_BOXES" = some (.int 6 t)
  most_arrows : ∃ t, mg "MOST_ARROWS" = some (.int 40 t)
  xc1 : XC K mg 1
  xc2 : XC K mg 2
  xa : XAll K mg [1, 2]
  xb : ∃ CA, XB K mg [1, 2] CA
  kt_int : KTy K "int"
  kt_bool : KTy K "bool"
  kt_list : KTy K "list"
seal ED EB TD AD FD ID GD WD IfsD SD SDs
variable {P : Program} {w : World} {K : PySem.W.Frag} {mg : Str → Option Value} {base : Heap} {C : Addr}
noncomputable abbrev s_is_below : Stmt := PySem.Challenge.pw_arrowhall_k02_arrows_that_follow.main.body.getD 12 (.Pass ⟨0, 0, 0, 0⟩)
noncomputable abbrev N_is_below : List Str := ["number", "count"]
theorem sc_is_below : FnScope N_is_below ["number", "count"] (defScope s_is_below) := ⟨rfl, rfl, rfl, by decide +kernel, rfl, by decide +kernel, by decide +kernel⟩
noncomputable def den_is_below : Rho → R Out := (ret (chn (fun i j => decide (i ≤ j)) (fun i j => decide (i < j)) (kd (.int 0)) (vb 0) (vb 1)))
noncomputable def dn_is_below (ds : List D) : R D := fin (den_is_below (st0 N_is_below ds))
theorem body_is_below {f : Addr}  (T : Txt K mg C) (cdv : Value) (A : Around) (outer : List Env) (s : Shared) (H : Hp) (E : XK) (hr : Room 0 (A.deeper (envOfC "is_below" (defScope s_is_below) s.heap.objs.size f cdv))) :
    SDs C (cxOf CX0 P w K mg base N_is_below "is_below" (defScope s_is_below) f cdv A outer s H E).nox (defBody s_is_below) den_is_below :=
  (sds_one (sd_ret (ed_chain (f := fun i j => decide (i ≤ j)) (g := fun i j => decide (i < j)) op_le op_lt (EB.of ed_int) (eb_var (pv 0)) (eb_var (pv 1)))))
theorem mk_is_below {a : Addr} {fd : FuncData}  (T : Txt K mg C) (F : Fun K "is_below" "is_below" s_is_below a fd) (hm : mg "is_below" = some (.ref a)) (hb : Binds K fd ["number", "count"] []) : Fn P w K mg base C 1 "is_below" 2 dn_is_below :=
  ⟨a, fd, _, def_ok F sc_is_below (fun cdv A outer s H E hr => body_is_below  T cdv A outer s H E hr), hm, F.kp, hb⟩
noncomputable abbrev s_check_counts : Stmt := PySem.Challenge.pw_arrowhall_k02_arrows_that_follow.main.body.getD 13 (.Pass ⟨0, 0, 0, 0⟩)
noncomputable abbrev N_check_counts : List Str := ["ends", "rests"]
theorem sc_check_counts : FnScope N_check_counts ["ends", "rests"] (defScope s_check_counts) := ⟨rfl, rfl, rfl, by decide +kernel, rfl, by decide +kernel, by decide +kernel⟩
noncomputable def den_check_counts : Rho → R Out := (sq (iff (notB (tst (chn (fun i j => decide (i ≤ j)) (fun i j => decide (i ≤ j)) (kd (.int 1)) (una flen (vb 1)) (kd (.int 6)))))
  bad
  nxt)
  (iff (notB (tst (chn (fun i j => decide (i ≤ j)) (fun i j => decide (i ≤ j)) (kd (.int 1)) (una flen (vb 0)) (kd (.int 40)))))
  bad
  nxt))
noncomputable def dn_check_counts (ds : List D) : R D := fin (den_check_counts (st0 N_check_counts ds))
theorem body_check_counts {f : Addr}  (T : Txt K mg C) (cdv : Value) (A : Around) (outer : List Env) (s : Shared) (H : Hp) (E : XK) (hr : Room 0 (A.deeper (envOfC "check_counts" (defScope s_check_counts) s.heap.objs.size f cdv))) :
    SDs C (cxOf CX0 P w K mg base N_check_counts "check_counts" (defScope s_check_counts) f cdv A outer s H E).nox (defBody s_check_counts) den_check_counts :=
  (sds_cons (sd_if (td_not (td_chain (f := fun i j => decide (i ≤ j)) (g := fun i j => decide (i ≤ j)) op_le op_le (EB.of ed_int) (EB.of (ed_len (eb_var (pv 1)) rfl T.len st_Name (fun t ha => pe_callB call_len_seq rfl T.len PySem.boot_len ha (he := st_Name) (hpl := pl_nil)))) (EB.of (ed_globI rfl T.most_boxes.choose_spec))))
  (sds_one sd_bad)
  sds_nil)
  (sds_one (sd_if (td_not (td_chain (f := fun i j => decide (i ≤ j)) (g := fun i j => decide (i ≤ j)) op_le op_le (EB.of ed_int) (EB.of (ed_len (eb_var (pv 0)) rfl T.len st_Name (fun t ha => pe_callB call_len_seq rfl T.len PySem.boot_len ha (he := st_Name) (hpl := pl_nil)))) (EB.of (ed_globI rfl T.most_arrows.choose_spec))))
  (sds_one sd_bad)
  sds_nil)))
theorem mk_check_counts {a : Addr} {fd : FuncData}  (T : Txt K mg C) (F : Fun K "check_counts" "check_counts" s_check_counts a fd) (hm : mg "check_counts" = some (.ref a)) (hb : Binds K fd ["ends", "rests"] []) : Fn P w K mg base C 1 "check_counts" 2 dn_check_counts :=
  ⟨a, fd, _, def_ok F sc_check_counts (fun cdv A outer s H E hr => body_check_counts  T cdv A outer s H E hr), hm, F.kp, hb⟩
noncomputable abbrev s_check_ends : Stmt := PySem.Challenge.pw_arrowhall_k02_arrows_that_follow.main.body.getD 14 (.Pass ⟨0, 0, 0, 0⟩)
noncomputable abbrev N_check_ends : List Str := ["ends", "boxes", "arrow", "pair"]
theorem sc_check_ends : FnScope N_check_ends ["ends", "boxes"] (defScope s_check_ends) := ⟨rfl, rfl, rfl, by decide +kernel, rfl, by decide +kernel, by decide +kernel⟩
noncomputable def den_check_ends : Rho → R Out := (forS (fEnu (aC (vr 0) aN)) (tg2 2 3)
  (iff (orB (tst (bin fne (una flen (vb 3)) (kd (.int 2)))) (orB (notB (tst (cal 2 dn_is_below (aC (bin fix (vb 3) (kd (.int 0))) (aC (vr 1) aN))))) (notB (tst (cal 2 dn_is_below (aC (bin fix (vb 3) (kd (.int 1))) (aC (vr 1) aN)))))))
  bad
  nxt))
noncomputable def dn_check_ends (ds : List D) : R D := fin (den_check_ends (st0 N_check_ends ds))
theorem body_check_ends {f : Addr} (fn_is_below : Fn P w K mg base C 1 "is_below" 2 dn_is_below) (T : Txt K mg C) (cdv : Value) (A : Around) (outer : List Env) (s : Shared) (H : Hp) (E : XK) (hr : Room 1 (A.deeper (envOfC "check_ends" (defScope s_check_ends) s.heap.objs.size f cdv))) :
    SDs C (cxOf CX0 P w K mg base N_check_ends "check_ends" (defScope s_check_ends) f cdv A outer s H E).nox (defBody s_check_ends) den_check_ends :=
  (sds_one (sd_for PassesOwn.never rfl (id_enum rfl T.enumerate (ad_cons (ed_var (pv 0)) ad_nil st_Name) (st_one st_Name)) (gd_two rfl (pg_name (i := 2) sc_check_ends.nd rfl (Or.inl rfl)) (pg_name (i := 3) sc_check_ends.nd rfl (Or.inl rfl)))
  (sds_one (sd_if (td_w (wd_or (td_ne (room9 hr) (EB.of (ed_len (eb_var (pv 3)) rfl T.len st_Name (fun t ha => pe_callB call_len_seq rfl T.len PySem.boot_len ha (he := st_Name) (hpl := pl_nil)))) (EB.of ed_int)) (wd_or (td_not (td_val (ed_fnA fn_is_below (hr.mono (by decide)) rfl (ad_cons (ed_at (eb_var (pv 3)) (EB.of ed_int)) (ad_cons (ed_var (pv 1)) ad_nil st_Name) st_Subscript) (he := st_Subscript) (hpl := (pl_cons st_Name pl_nil))))) (wd_or1 (td_not (td_val (ed_fnA fn_is_below (hr.mono (by decide)) rfl (ad_cons (ed_at (eb_var (pv 3)) (EB.of ed_int)) (ad_cons (ed_var (pv 1)) ad_nil st_Name) st_Subscript) (he := st_Subscript) (hpl := (pl_cons st_Name pl_nil)))))))))
  (sds_one sd_bad)
  sds_nil))))
theorem mk_check_ends {a : Addr} {fd : FuncData} (fn_is_below : Fn P w K mg base C 1 "is_below" 2 dn_is_below) (T : Txt K mg C) (F : Fun K "check_ends" "check_ends" s_check_ends a fd) (hm : mg "check_ends" = some (.ref a)) (hb : Binds K fd ["ends", "boxes"] []) : Fn P w K mg base C 2 "check_ends" 2 dn_check_ends :=
  ⟨a, fd, _, def_ok F sc_check_ends (fun cdv A outer s H E hr => body_check_ends fn_is_below T cdv A outer s H E hr), hm, F.kp, hb⟩
noncomputable abbrev s_check_rests : Stmt := PySem.Challenge.pw_arrowhall_k02_arrows_that_follow.main.body.getD 15 (.Pass ⟨0, 0, 0, 0⟩)
noncomputable abbrev N_check_rests : List Str := ["ends", "rests", "box", "rest"]
theorem sc_check_rests : FnScope N_check_rests ["ends", "rests"] (defScope s_check_rests) := ⟨rfl, rfl, rfl, by decide +kernel, rfl, by decide +kernel, by decide +kernel⟩
noncomputable def den_check_rests : Rho → R Out := (forS (fEnu (aC (vr 1) aN)) (tg2 2 3)
  (iff (orB (notB (tst (cal 2 dn_is_below (aC (vr 3) (aC (una flen (vb 0)) aN))))) (tst (bin fne (bin fix (vb 0) (vb 3)) (eT (aC (vr 2) (aC (vr 2) aN))))))
  bad
  nxt))
noncomputable def dn_check_rests (ds : List D) : R D := fin (den_check_rests (st0 N_check_rests ds))
theorem body_check_rests {f : Addr} (fn_is_below : Fn P w K mg base C 1 "is_below" 2 dn_is_below) (T : Txt K mg C) (cdv : Value) (A : Around) (outer : List Env) (s : Shared) (H : Hp) (E : XK) (hr : Room 1 (A.deeper (envOfC "check_rests" (defScope s_check_rests) s.heap.objs.size f cdv))) :
    SDs C (cxOf CX0 P w K mg base N_check_rests "check_rests" (defScope s_check_rests) f cdv A outer s H E).nox (defBody s_check_rests) den_check_rests :=
  (sds_one (sd_for PassesOwn.never rfl (id_enum rfl T.enumerate (ad_cons (ed_var (pv 1)) ad_nil st_Name) (st_one st_Name)) (gd_two rfl (pg_name (i := 2) sc_check_rests.nd rfl (Or.inl rfl)) (pg_name (i := 3) sc_check_rests.nd rfl (Or.inl rfl)))
  (sds_one (sd_if (td_w (wd_or (td_not (td_val (ed_fnA fn_is_below (hr.mono (by decide)) rfl (ad_cons (ed_var (pv 3)) (ad_cons (ed_len (eb_var (pv 0)) rfl T.len st_Name (fun t ha => pe_callB call_len_seq rfl T.len PySem.boot_len ha (he := st_Name) (hpl := pl_nil))) ad_nil st_Call) st_Name) (he := st_Name) (hpl := (pl_cons st_Call pl_nil))))) (wd_or1 (td_ne (room9 hr) (EB.of (ed_at (eb_var (pv 0)) (eb_var (pv 3)))) (EB.of (ed_tup (ad_cons (ed_var (pv 2)) (ad_cons (ed_var (pv 2)) ad_nil st_Name) st_Name)))))))
  (sds_one sd_bad)
  sds_nil))))
theorem mk_check_rests {a : Addr} {fd : FuncData} (fn_is_below : Fn P w K mg base C 1 "is_below" 2 dn_is_below) (T : Txt K mg C) (F : Fun K "check_rests" "check_rests" s_check_rests a fd) (hm : mg "check_rests" = some (.ref a)) (hb : Binds K fd ["ends", "rests"] []) : Fn P w K mg base C 2 "check_rests" 2 dn_check_rests :=
  ⟨a, fd, _, def_ok F sc_check_rests (fun cdv A outer s H E hr => body_check_rests fn_is_below T cdv A outer s H E hr), hm, F.kp, hb⟩
noncomputable abbrev s_check_form : Stmt := PySem.Challenge.pw_arrowhall_k02_arrows_that_follow.main.body.getD 16 (.Pass ⟨0, 0, 0, 0⟩)
noncomputable abbrev N_check_form : List Str := ["table", "arrows", "one", "row"]
theorem sc_check_form : FnScope N_check_form ["table", "arrows"] (defScope s_check_form) := ⟨rfl, rfl, rfl, by decide +kernel, rfl, by decide +kernel, by decide +kernel⟩
noncomputable def den_check_form : Rho → R Out := (sq (iff (tst (bin fne (una flen (vb 0)) (vb 1)))
  bad
  nxt)
  (forS (fEnu (aC (vr 0) aN)) (tg2 2 3)
  (iff (tst (bin fne (una flen (vb 3)) (vb 1)))
  bad
  nxt)))
noncomputable def dn_check_form (ds : List D) : R D := fin (den_check_form (st0 N_check_form ds))
theorem body_check_form {f : Addr}  (T : Txt K mg C) (cdv : Value) (A : Around) (outer : List Env) (s : Shared) (H : Hp) (E : XK) (hr : Room 0 (A.deeper (envOfC "check_form" (defScope s_check_form) s.heap.objs.size f cdv))) :
    SDs C (cxOf CX0 P w K mg base N_check_form "check_form" (defScope s_check_form) f cdv A outer s H E).nox (defBody s_check_form) den_check_form :=
  (sds_cons (sd_if (td_ne (room9 hr) (EB.of (ed_len (eb_var (pv 0)) rfl T.len st_Name (fun t ha => pe_callB call_len_seq rfl T.len PySem.boot_len ha (he := st_Name) (hpl := pl_nil)))) (eb_var (pv 1)))
  (sds_one sd_bad)
  sds_nil)
  (sds_one (sd_for PassesOwn.never rfl (id_enum rfl T.enumerate (ad_cons (ed_var (pv 0)) ad_nil st_Name) (st_one st_Name)) (gd_two rfl (pg_name (i := 2) sc_check_form.nd rfl (Or.inl rfl)) (pg_name (i := 3) sc_check_form.nd rfl (Or.inl rfl)))
  (sds_one (sd_if (td_ne (room9 hr) (EB.of (ed_len (eb_var (pv 3)) rfl T.len st_Name (fun t ha => pe_callB call_len_seq rfl T.len PySem.boot_len ha (he := st_Name) (hpl := pl_nil)))) (eb_var (pv 1)))
  (sds_one sd_bad)
  sds_nil)))))
theorem mk_check_form {a : Addr} {fd : FuncData}  (T : Txt K mg C) (F : Fun K "check_form" "check_form" s_check_form a fd) (hm : mg "check_form" = some (.ref a)) (hb : Binds K fd ["table", "arrows"] []) : Fn P w K mg base C 1 "check_form" 2 dn_check_form :=
  ⟨a, fd, _, def_ok F sc_check_form (fun cdv A outer s H E hr => body_check_form  T cdv A outer s H E hr), hm, F.kp, hb⟩
noncomputable abbrev s_check_entry : Stmt := PySem.Challenge.pw_arrowhall_k02_arrows_that_follow.main.body.getD 18 (.Pass ⟨0, 0, 0, 0⟩)
noncomputable abbrev N_check_entry : List Str := ["ends", "one", "other", "made"]
theorem sc_check_entry : FnScope N_check_entry ["ends", "one", "other", "made"] (defScope s_check_entry) := ⟨rfl, rfl, rfl, by decide +kernel, rfl, by decide +kernel, by decide +kernel⟩
noncomputable def den_check_entry : Rho → R Out := (iff (tst (bin fne (bin fix (bin fix (vb 0) (vb 1)) (kd (.int 1))) (bin fix (bin fix (vb 0) (vb 2)) (kd (.int 0)))))
  (iff (tst (bin fne (vb 3) (una fneg (kd (.int 1)))))
  bad
  nxt)
  (iff (orB (notB (tst (cal 2 dn_is_below (aC (vr 3) (aC (una flen (vb 0)) aN))))) (tst (bin fne (bin fix (vb 0) (vb 3)) (eT (aC (bin fix (bin fix (vb 0) (vb 1)) (kd (.int 0))) (aC (bin fix (bin fix (vb 0) (vb 2)) (kd (.int 1))) aN))))))
  bad
  nxt))
noncomputable def dn_check_entry (ds : List D) : R D := fin (den_check_entry (st0 N_check_entry ds))
theorem body_check_entry {f : Addr} (fn_is_below : Fn P w K mg base C 1 "is_below" 2 dn_is_below) (T : Txt K mg C) (cdv : Value) (A : Around) (outer : List Env) (s : Shared) (H : Hp) (E : XK) (hr : Room 1 (A.deeper (envOfC "check_entry" (defScope s_check_entry) s.heap.objs.size f cdv))) :
    SDs C (cxOf CX0 P w K mg base N_check_entry "check_entry" (defScope s_check_entry) f cdv A outer s H E).nox (defBody s_check_entry) den_check_entry :=
  (sds_one (sd_if (td_ne (room9 hr) (EB.of (ed_at (EB.of (ed_at (eb_var (pv 0)) (eb_var (pv 1)))) (EB.of ed_int))) (EB.of (ed_at (EB.of (ed_at (eb_var (pv 0)) (eb_var (pv 2)))) (EB.of ed_int))))
  (sds_one (sd_if (td_ne (room9 hr) (eb_var (pv 3)) (EB.of (ed_neg (EB.of ed_int))))
  (sds_one sd_bad)
  sds_nil))
  (sds_one (sd_if (td_w (wd_or (td_not (td_val (ed_fnA fn_is_below (hr.mono (by decide)) rfl (ad_cons (ed_var (pv 3)) (ad_cons (ed_len (eb_var (pv 0)) rfl T.len st_Name (fun t ha => pe_callB call_len_seq rfl T.len PySem.boot_len ha (he := st_Name) (hpl := pl_nil))) ad_nil st_Call) st_Name) (he := st_Name) (hpl := (pl_cons st_Call pl_nil))))) (wd_or1 (td_ne (room9 hr) (EB.of (ed_at (eb_var (pv 0)) (eb_var (pv 3)))) (EB.of (ed_tup (ad_cons (ed_at (EB.of (ed_at (eb_var (pv 0)) (eb_var (pv 1)))) (EB.of ed_int)) (ad_cons (ed_at (EB.of (ed_at (eb_var (pv 0)) (eb_var (pv 2)))) (EB.of ed_int)) ad_nil st_Subscript) st_Subscript)))))))
  (sds_one sd_bad)
  sds_nil))))
theorem mk_check_entry {a : Addr} {fd : FuncData} (fn_is_below : Fn P w K mg base C 1 "is_below" 2 dn_is_below) (T : Txt K mg C) (F : Fun K "check_entry" "check_entry" s_check_entry a fd) (hm : mg "check_entry" = some (.ref a)) (hb : Binds K fd ["ends", "one", "other", "made"] []) : Fn P w K mg base C 2 "check_entry" 4 dn_check_entry :=
  ⟨a, fd, _, def_ok F sc_check_entry (fun cdv A outer s H E hr => body_check_entry fn_is_below T cdv A outer s H E hr), hm, F.kp, hb⟩
noncomputable abbrev s_check_table : Stmt := PySem.Challenge.pw_arrowhall_k02_arrows_that_follow.main.body.getD 17 (.Pass ⟨0, 0, 0, 0⟩)
noncomputable abbrev N_check_table : List Str := ["ends", "table", "one", "row", "other", "made"]
theorem sc_check_table : FnScope N_check_table ["ends", "table"] (defScope s_check_table) := ⟨rfl, rfl, rfl, by decide +kernel, rfl, by decide +kernel, by decide +kernel⟩
noncomputable def den_check_table : Rho → R Out := (forS (fEnu (aC (vr 1) aN)) (tg2 2 3)
  (forS (fEnu (aC (vr 3) aN)) (tg2 4 5)
  (drp (cal 4 dn_check_entry (aC (vr 0) (aC (vr 2) (aC (vr 4) (aC (vr 5) aN))))))))
noncomputable def dn_check_table (ds : List D) : R D := fin (den_check_table (st0 N_check_table ds))
theorem body_check_table {f : Addr} (fn_check_entry : Fn P w K mg base C 2 "check_entry" 4 dn_check_entry) (T : Txt K mg C) (cdv : Value) (A : Around) (outer : List Env) (s : Shared) (H : Hp) (E : XK) (hr : Room 2 (A.deeper (envOfC "check_table" (defScope s_check_table) s.heap.objs.size f cdv))) :
    SDs C (cxOf CX0 P w K mg base N_check_table "check_table" (defScope s_check_table) f cdv A outer s H E).nox (defBody s_check_table) den_check_table :=
  (sds_one (sd_for PassesOwn.never rfl (id_enum rfl T.enumerate (ad_cons (ed_var (pv 1)) ad_nil st_Name) (st_one st_Name)) (gd_two rfl (pg_name (i := 2) sc_check_table.nd rfl (Or.inl rfl)) (pg_name (i := 3) sc_check_table.nd rfl (Or.inl rfl)))
  (sds_one (sd_for PassesOwn.never rfl (id_enum rfl T.enumerate (ad_cons (ed_var (pv 3)) ad_nil st_Name) (st_one st_Name)) (gd_two rfl (pg_name (i := 4) sc_check_table.nd rfl (Or.inl rfl)) (pg_name (i := 5) sc_check_table.nd rfl (Or.inl rfl)))
  (sds_one (sd_expr (EB.of (ed_fnA fn_check_entry (hr.mono (by decide)) rfl (ad_cons (ed_var (pv 0)) (ad_cons (ed_var (pv 2)) (ad_cons (ed_var (pv 4)) (ad_cons (ed_var (pv 5)) ad_nil st_Name) st_Name) st_Name) st_Name) (he := st_Name) (hpl := (pl_cons st_Name (pl_cons st_Name (pl_cons st_Name pl_nil))))))))))))
theorem mk_check_table {a : Addr} {fd : FuncData} (fn_check_entry : Fn P w K mg base C 2 "check_entry" 4 dn_check_entry) (T : Txt K mg C) (F : Fun K "check_table" "check_table" s_check_table a fd) (hm : mg "check_table" = some (.ref a)) (hb : Binds K fd ["ends", "table"] []) : Fn P w K mg base C 3 "check_table" 2 dn_check_table :=
  ⟨a, fd, _, def_ok F sc_check_table (fun cdv A outer s H E hr => body_check_table fn_check_entry T cdv A outer s H E hr), hm, F.kp, hb⟩
noncomputable abbrev s_check_beside_rests : Stmt := PySem.Challenge.pw_arrowhall_k02_arrows_that_follow.main.body.getD 19 (.Pass ⟨0, 0, 0, 0⟩)
noncomputable abbrev N_check_beside_rests : List Str := ["ends", "rests", "table", "arrow", "pair"]
theorem sc_check_beside_rests : FnScope N_check_beside_rests ["ends", "rests", "table"] (defScope s_check_beside_rests) := ⟨rfl, rfl, rfl, by decide +kernel, rfl, by decide +kernel, by decide +kernel⟩
noncomputable def den_check_beside_rests : Rho → R Out := (forS (fEnu (aC (vr 0) aN)) (tg2 3 4)
  (iff (orB (tst (bin fne (bin fix (bin fix (vb 2) (bin fix (vb 1) (bin fix (vb 4) (kd (.int 0))))) (vb 3)) (vb 3))) (tst (bin fne (bin fix (bin fix (vb 2) (vb 3)) (bin fix (vb 1) (bin fix (vb 4) (kd (.int 1))))) (vb 3))))
  bad
  nxt))
noncomputable def dn_check_beside_rests (ds : List D) : R D := fin (den_check_beside_rests (st0 N_check_beside_rests ds))
theorem body_check_beside_rests {f : Addr}  (T : Txt K mg C) (cdv : Value) (A : Around) (outer : List Env) (s : Shared) (H : Hp) (E : XK) (hr : Room 0 (A.deeper (envOfC "check_beside_rests" (defScope s_check_beside_rests) s.heap.objs.size f cdv))) :
    SDs C (cxOf CX0 P w K mg base N_check_beside_rests "check_beside_rests" (defScope s_check_beside_rests) f cdv A outer s H E).nox (defBody s_check_beside_rests) den_check_beside_rests :=
  (sds_one (sd_for PassesOwn.never rfl (id_enum rfl T.enumerate (ad_cons (ed_var (pv 0)) ad_nil st_Name) (st_one st_Name)) (gd_two rfl (pg_name (i := 3) sc_check_beside_rests.nd rfl (Or.inl rfl)) (pg_name (i := 4) sc_check_beside_rests.nd rfl (Or.inl rfl)))
  (sds_one (sd_if (td_w (wd_or (td_ne (room9 hr) (EB.of (ed_at (EB.of (ed_at (eb_var (pv 2)) (EB.of (ed_at (eb_var (pv 1)) (EB.of (ed_at (eb_var (pv 4)) (EB.of ed_int))))))) (eb_var (pv 3)))) (eb_var (pv 3))) (wd_or1 (td_ne (room9 hr) (EB.of (ed_at (EB.of (ed_at (eb_var (pv 2)) (eb_var (pv 3)))) (EB.of (ed_at (eb_var (pv 1)) (EB.of (ed_at (eb_var (pv 4)) (EB.of ed_int))))))) (eb_var (pv 3))))))
  (sds_one sd_bad)
  sds_nil))))
theorem mk_check_beside_rests {a : Addr} {fd : FuncData}  (T : Txt K mg C) (F : Fun K "check_beside_rests" "check_beside_rests" s_check_beside_rests a fd) (hm : mg "check_beside_rests" = some (.ref a)) (hb : Binds K fd ["ends", "rests", "table"] []) : Fn P w K mg base C 1 "check_beside_rests" 3 dn_check_beside_rests :=
  ⟨a, fd, _, def_ok F sc_check_beside_rests (fun cdv A outer s H E hr => body_check_beside_rests  T cdv A outer s H E hr), hm, F.kp, hb⟩
noncomputable abbrev s_check_thirds : Stmt := PySem.Challenge.pw_arrowhall_k02_arrows_that_follow.main.body.getD 21 (.Pass ⟨0, 0, 0, 0⟩)
noncomputable abbrev N_check_thirds : List Str := ["table", "one", "other", "made", "third", "later"]
theorem sc_check_thirds : FnScope N_check_thirds ["table", "one", "other", "made"] (defScope s_check_thirds) := ⟨rfl, rfl, rfl, by decide +kernel, rfl, by decide +kernel, by decide +kernel⟩
noncomputable def den_check_thirds : Rho → R Out := (forS (fEnu (aC (bin fix (vb 0) (vb 2)) aN)) (tg2 4 5)
  (iff (andB (tst (bin fne (vb 5) (una fneg (kd (.int 1))))) (tst (bin fne (bin fix (bin fix (vb 0) (vb 3)) (vb 4)) (bin fix (bin fix (vb 0) (vb 1)) (vb 5)))))
  bad
  nxt))
noncomputable def dn_check_thirds (ds : List D) : R D := fin (den_check_thirds (st0 N_check_thirds ds))
theorem body_check_thirds {f : Addr}  (T : Txt K mg C) (cdv : Value) (A : Around) (outer : List Env) (s : Shared) (H : Hp) (E : XK) (hr : Room 0 (A.deeper (envOfC "check_thirds" (defScope s_check_thirds) s.heap.objs.size f cdv))) :
    SDs C (cxOf CX0 P w K mg base N_check_thirds "check_thirds" (defScope s_check_thirds) f cdv A outer s H E).nox (defBody s_check_thirds) den_check_thirds :=
  (sds_one (sd_for PassesOwn.never rfl (id_enum rfl T.enumerate (ad_cons (ed_at (eb_var (pv 0)) (eb_var (pv 2))) ad_nil st_Subscript) (st_one st_Subscript)) (gd_two rfl (pg_name (i := 4) sc_check_thirds.nd rfl (Or.inl rfl)) (pg_name (i := 5) sc_check_thirds.nd rfl (Or.inl rfl)))
  (sds_one (sd_if (td_w (wd_and (td_ne (room9 hr) (eb_var (pv 5)) (EB.of (ed_neg (EB.of ed_int)))) (wd_and1 (td_ne (room9 hr) (EB.of (ed_at (EB.of (ed_at (eb_var (pv 0)) (eb_var (pv 3)))) (eb_var (pv 4)))) (EB.of (ed_at (EB.of (ed_at (eb_var (pv 0)) (eb_var (pv 1)))) (eb_var (pv 5))))))))
  (sds_one sd_bad)
  sds_nil))))
theorem mk_check_thirds {a : Addr} {fd : FuncData}  (T : Txt K mg C) (F : Fun K "check_thirds" "check_thirds" s_check_thirds a fd) (hm : mg "check_thirds" = some (.ref a)) (hb : Binds K fd ["table", "one", "other", "made"] []) : Fn P w K mg base C 1 "check_thirds" 4 dn_check_thirds :=
  ⟨a, fd, _, def_ok F sc_check_thirds (fun cdv A outer s H E hr => body_check_thirds  T cdv A outer s H E hr), hm, F.kp, hb⟩
noncomputable abbrev s_check_threes : Stmt := PySem.Challenge.pw_arrowhall_k02_arrows_that_follow.main.body.getD 20 (.Pass ⟨0, 0, 0, 0⟩)
noncomputable abbrev N_check_threes : List Str := ["table", "one", "row", "other", "made"]
theorem sc_check_threes : FnScope N_check_threes ["table"] (defScope s_check_threes) := ⟨rfl, rfl, rfl, by decide +kernel, rfl, by decide +kernel, by decide +kernel⟩
noncomputable def den_check_threes : Rho → R Out := (forS (fEnu (aC (vr 0) aN)) (tg2 1 2)
  (forS (fEnu (aC (vr 2) aN)) (tg2 3 4)
  (iff (tst (bin fne (vb 4) (una fneg (kd (.int 1)))))
  (drp (cal 4 dn_check_thirds (aC (vr 0) (aC (vr 1) (aC (vr 3) (aC (vr 4) aN))))))
  nxt)))
noncomputable def dn_check_threes (ds : List D) : R D := fin (den_check_threes (st0 N_check_threes ds))
theorem body_check_threes {f : Addr} (fn_check_thirds : Fn P w K mg base C 1 "check_thirds" 4 dn_check_thirds) (T : Txt K mg C) (cdv : Value) (A : Around) (outer : List Env) (s : Shared) (H : Hp) (E : XK) (hr : Room 1 (A.deeper (envOfC "check_threes" (defScope s_check_threes) s.heap.objs.size f cdv))) :
    SDs C (cxOf CX0 P w K mg base N_check_threes "check_threes" (defScope s_check_threes) f cdv A outer s H E).nox (defBody s_check_threes) den_check_threes :=
  (sds_one (sd_for PassesOwn.never rfl (id_enum rfl T.enumerate (ad_cons (ed_var (pv 0)) ad_nil st_Name) (st_one st_Name)) (gd_two rfl (pg_name (i := 1) sc_check_threes.nd rfl (Or.inl rfl)) (pg_name (i := 2) sc_check_threes.nd rfl (Or.inl rfl)))
  (sds_one (sd_for PassesOwn.never rfl (id_enum rfl T.enumerate (ad_cons (ed_var (pv 2)) ad_nil st_Name) (st_one st_Name)) (gd_two rfl (pg_name (i := 3) sc_check_threes.nd rfl (Or.inl rfl)) (pg_name (i := 4) sc_check_threes.nd rfl (Or.inl rfl)))
  (sds_one (sd_if (td_ne (room9 hr) (eb_var (pv 4)) (EB.of (ed_neg (EB.of ed_int))))
  (sds_one (sd_expr (EB.of (ed_fnA fn_check_thirds (hr.mono (by decide)) rfl (ad_cons (ed_var (pv 0)) (ad_cons (ed_var (pv 1)) (ad_cons (ed_var (pv 3)) (ad_cons (ed_var (pv 4)) ad_nil st_Name) st_Name) st_Name) st_Name) (he := st_Name) (hpl := (pl_cons st_Name (pl_cons st_Name (pl_cons st_Name pl_nil))))))))
  sds_nil))))))
theorem mk_check_threes {a : Addr} {fd : FuncData} (fn_check_thirds : Fn P w K mg base C 1 "check_thirds" 4 dn_check_thirds) (T : Txt K mg C) (F : Fun K "check_threes" "check_threes" s_check_threes a fd) (hm : mg "check_threes" = some (.ref a)) (hb : Binds K fd ["table"] []) : Fn P w K mg base C 2 "check_threes" 1 dn_check_threes :=
  ⟨a, fd, _, def_ok F sc_check_threes (fun cdv A outer s H E hr => body_check_threes fn_check_thirds T cdv A outer s H E hr), hm, F.kp, hb⟩
noncomputable abbrev s_Hall___init : Stmt := inClass (PySem.Challenge.pw_arrowhall_k02_arrows_that_follow.main.body.getD 22 (.Pass ⟨0, 0, 0, 0⟩)) 0
noncomputable abbrev N_Hall___init : List Str := ["self", "ends", "rests", "table"]
theorem sc_Hall___init : FnScope N_Hall___init ["self", "ends", "rests", "table"] (defScope s_Hall___init) := ⟨rfl, rfl, rfl, by decide +kernel, rfl, by decide +kernel, by decide +kernel⟩
noncomputable abbrev Nc_Hall___init_0 : List Str := ["self", "ends", "rests", "table", "row"]
theorem nd_Hall___init_0 : Nc_Hall___init_0.Nodup := by decide +kernel
noncomputable def den_Hall : Rho → R D := denI [(cal 2 dn_check_counts (aC (vr 1) (aC (vr 2) aN))), (cal 2 dn_check_ends (aC (vr 1) (aC (una flen (vb 2)) aN))), (cal 2 dn_check_rests (aC (vr 1) (aC (vr 2) aN))), (cal 2 dn_check_form (aC (vr 3) (aC (una flen (vb 1)) aN))), (cal 2 dn_check_table (aC (vr 1) (aC (vr 3) aN))), (cal 3 dn_check_beside_rests (aC (vr 1) (aC (vr 2) (aC (vr 3) aN)))), (cal 1 dn_check_threes (aC (vr 3) aN))] (fIt (vb 1)) (fIt (vb 2)) (fCmp (fIt (vr 3)) 1 (tgN 4) tT (eLs (fIt (vb 4))))
theorem body_Hall___init {f : Addr} (fn_check_beside_rests : Fn P w K mg base C 1 "check_beside_rests" 3 dn_check_beside_rests) (fn_check_counts : Fn P w K mg base C 1 "check_counts" 2 dn_check_counts) (fn_check_ends : Fn P w K mg base C 2 "check_ends" 2 dn_check_ends) (fn_check_form : Fn P w K mg base C 1 "check_form" 2 dn_check_form) (fn_check_rests : Fn P w K mg base C 2 "check_rests" 2 dn_check_rests) (fn_check_table : Fn P w K mg base C 3 "check_table" 2 dn_check_table) (fn_check_threes : Fn P w K mg base C 2 "check_threes" 1 dn_check_threes) (T : Txt K mg C) (cdv : Value) (A : Around) (outer : List Env) (s : Shared) (H : Hp) (E : XK) (hr : Room 3 (A.deeper (envOfC "Hall.__init__" (defScope s_Hall___init) s.heap.objs.size f cdv))) :
    PSs (cxOf CX0 P w K mg base N_Hall___init "Hall.__init__" (defScope s_Hall___init) f cdv A outer s H E).nox (defBody s_Hall___init) (tCk C (cxOf CX0 P w K mg base N_Hall___init "Hall.__init__" (defScope s_Hall___init) f cdv A outer s H E).nox [(cal 2 dn_check_counts (aC (vr 1) (aC (vr 2) aN))), (cal 2 dn_check_ends (aC (vr 1) (aC (una flen (vb 2)) aN))), (cal 2 dn_check_rests (aC (vr 1) (aC (vr 2) aN))), (cal 2 dn_check_form (aC (vr 3) (aC (una flen (vb 1)) aN))), (cal 2 dn_check_table (aC (vr 1) (aC (vr 3) aN))), (cal 3 dn_check_beside_rests (aC (vr 1) (aC (vr 2) (aC (vr 3) aN)))), (cal 1 dn_check_threes (aC (vr 3) aN))] (tI C (cxOf CX0 P w K mg base N_Hall___init "Hall.__init__" (defScope s_Hall___init) f cdv A outer s H E).nox (fIt (vb 1)) (fIt (vb 2)) (fCmp (fIt (vr 3)) 1 (tgN 4) tT (eLs (fIt (vb 4)))))) :=
  (pss_ck (ps_ck (EB.of (ed_fnA fn_check_counts (hr.mono (by decide)) rfl (ad_cons (ed_var (pv 1)) (ad_cons (ed_var (pv 2)) ad_nil st_Name) st_Name) (he := st_Name) (hpl := (pl_cons st_Name pl_nil)))))
  (pss_ck (ps_ck (EB.of (ed_fnA fn_check_ends (hr.mono (by decide)) rfl (ad_cons (ed_var (pv 1)) (ad_cons (ed_len (eb_var (pv 2)) rfl T.len st_Name (fun t ha => pe_callB call_len_seq rfl T.len PySem.boot_len ha (he := st_Name) (hpl := pl_nil))) ad_nil st_Call) st_Name) (he := st_Name) (hpl := (pl_cons st_Call pl_nil)))))
  (pss_ck (ps_ck (EB.of (ed_fnA fn_check_rests (hr.mono (by decide)) rfl (ad_cons (ed_var (pv 1)) (ad_cons (ed_var (pv 2)) ad_nil st_Name) st_Name) (he := st_Name) (hpl := (pl_cons st_Name pl_nil)))))
  (pss_ck (ps_ck (EB.of (ed_fnA fn_check_form (hr.mono (by decide)) rfl (ad_cons (ed_var (pv 3)) (ad_cons (ed_len (eb_var (pv 1)) rfl T.len st_Name (fun t ha => pe_callB call_len_seq rfl T.len PySem.boot_len ha (he := st_Name) (hpl := pl_nil))) ad_nil st_Call) st_Name) (he := st_Name) (hpl := (pl_cons st_Call pl_nil)))))
  (pss_ck (ps_ck (EB.of (ed_fnA fn_check_table (hr.mono (by decide)) rfl (ad_cons (ed_var (pv 1)) (ad_cons (ed_var (pv 3)) ad_nil st_Name) st_Name) (he := st_Name) (hpl := (pl_cons st_Name pl_nil)))))
  (pss_ck (ps_ck (EB.of (ed_fnA fn_check_beside_rests (hr.mono (by decide)) rfl (ad_cons (ed_var (pv 1)) (ad_cons (ed_var (pv 2)) (ad_cons (ed_var (pv 3)) ad_nil st_Name) st_Name) st_Name) (he := st_Name) (hpl := (pl_cons st_Name (pl_cons st_Name pl_nil))))))
  (pss_ck (ps_ck (EB.of (ed_fnA fn_check_threes (hr.mono (by decide)) rfl (ad_cons (ed_var (pv 3)) ad_nil st_Name) (he := st_Name) (hpl := pl_nil))))
  (pss_I (ps_st (pv 0) (fd_list (eb_var (pv 1)) rfl T.list st_Name (fun t ha => pe_callTy call_list_of rfl T.list boot_list ha (he := st_Name) (hpl := pl_nil)))) (ps_st (pv 0) (fd_list (eb_var (pv 2)) rfl T.list st_Name (fun t ha => pe_callTy call_list_of rfl T.list boot_list ha (he := st_Name) (hpl := pl_nil)))) (ps_st (pv 0) (fd_comp (N' := Nc_Hall___init_0) (n := 1) rfl rfl rfl (hix1 4) tgok_N (id_seq (ed_var (pv 3))) (fun L cs s H fp => (gd_name (i := 4) nd_Hall___init_0 rfl (Or.inl rfl))) (fun L cs s H fp => ifs_nil) (fun L cs s H fp => (ed_fd (fd_list (eb_var (pv 4)) rfl T.list st_Name (fun t ha => pe_callTy call_list_of rfl T.list boot_list ha (he := st_Name) (hpl := pl_nil)))))))))))))))
theorem mk_Hall___init {a : Addr} {fd : FuncData} (fn_check_beside_rests : Fn P w K mg base C 1 "check_beside_rests" 3 dn_check_beside_rests) (fn_check_counts : Fn P w K mg base C 1 "check_counts" 2 dn_check_counts) (fn_check_ends : Fn P w K mg base C 2 "check_ends" 2 dn_check_ends) (fn_check_form : Fn P w K mg base C 1 "check_form" 2 dn_check_form) (fn_check_rests : Fn P w K mg base C 2 "check_rests" 2 dn_check_rests) (fn_check_table : Fn P w K mg base C 3 "check_table" 2 dn_check_table) (fn_check_threes : Fn P w K mg base C 2 "check_threes" 1 dn_check_threes) (T : Txt K mg C) (F : Fun K "__init__" "Hall.__init__" s_Hall___init a fd) (M : Mk K C a) (hb : Binds K fd ["self", "ends", "rests", "table"] []) : FnH P w K mg base C 4 den_Hall :=
  ⟨a, fd, M, init_ok F sc_Hall___init T.cl T.nE T.nR T.nT (fun cdv A outer s H E hr => body_Hall___init fn_check_beside_rests fn_check_counts fn_check_ends fn_check_form fn_check_rests fn_check_table fn_check_threes T cdv A outer s H E hr), T.hall, hb⟩
noncomputable abbrev s_check_arrow : Stmt := PySem.Challenge.pw_arrowhall_k02_arrows_that_follow.main.body.getD 23 (.Pass ⟨0, 0, 0, 0⟩)
noncomputable abbrev N_check_arrow : List Str := ["hall", "arrow"]
theorem sc_check_arrow : FnScope N_check_arrow ["hall", "arrow"] (defScope s_check_arrow) := ⟨rfl, rfl, rfl, by decide +kernel, rfl, by decide +kernel, by decide +kernel⟩
noncomputable def den_check_arrow : Rho → R Out := (iff (notB (tst (cal 2 dn_is_below (aC (vr 1) (aC (una flen (una (fldD 0) (vb 0))) aN)))))
  (rse 1 (fS (vb 1)))
  nxt)
noncomputable def dn_check_arrow (ds : List D) : R D := fin (den_check_arrow (st0 N_check_arrow ds))
theorem body_check_arrow {f : Addr} (fn_is_below : Fn P w K mg base C 1 "is_below" 2 dn_is_below) (T : Txt K mg C) (cdv : Value) (A : Around) (outer : List Env) (s : Shared) (H : Hp) (E : XK) (hr : Room 1 (A.deeper (envOfC "check_arrow" (defScope s_check_arrow) s.heap.objs.size f cdv))) :
    SDs C (cxOf (CXd P w) P w K mg base N_check_arrow "check_arrow" (defScope s_check_arrow) f cdv A outer s H E) (defBody s_check_arrow) den_check_arrow :=
  (sds_one (sd_if (td_not (td_val (ed_fnA fn_is_below (hr.mono (by decide)) rfl (ad_cons (ed_var (pv 1)) (ad_cons (ed_len (EB.of (ed_fld (k := 0) (eb_var (pv 0)) T.cl T.nE rfl (fun _ _ _ => rfl))) rfl T.len st_Attribute (fun t ha => pe_callB call_len_seq rfl T.len PySem.boot_len ha (he := st_Attribute) (hpl := pl_nil))) ad_nil st_Call) st_Name) (he := st_Name) (hpl := (pl_cons st_Call pl_nil)))))
  (sds_one (sd_raise (c := 1) T.xc1 rfl rfl rfl rfl (se_f1 (eb_var (pv 1)) (by decide)) rfl))
  sds_nil))
theorem mk_check_arrow {a : Addr} {fd : FuncData} (fn_is_below : Fn P w K mg base C 1 "is_below" 2 dn_is_below) (T : Txt K mg C) (F : Fun K "check_arrow" "check_arrow" s_check_arrow a fd) (hm : mg "check_arrow" = some (.ref a)) (hb : Binds K fd ["hall", "arrow"] []) : FnX P w K mg base C 2 "check_arrow" 2 dn_check_arrow :=
  ⟨a, fd, _, def_okX F sc_check_arrow (fun cdv A outer s H E hr => body_check_arrow fn_is_below T cdv A outer s H E hr), hm, F.kp, hb⟩
noncomputable abbrev s_check_box : Stmt := PySem.Challenge.pw_arrowhall_k02_arrows_that_follow.main.body.getD 24 (.Pass ⟨0, 0, 0, 0⟩)
noncomputable abbrev N_check_box : List Str := ["hall", "box"]
theorem sc_check_box : FnScope N_check_box ["hall", "box"] (defScope s_check_box) := ⟨rfl, rfl, rfl, by decide +kernel, rfl, by decide +kernel, by decide +kernel⟩
noncomputable def den_check_box : Rho → R Out := (iff (notB (tst (cal 2 dn_is_below (aC (vr 1) (aC (una flen (una (fldD 1) (vb 0))) aN)))))
  (rse 2 (fS (vb 1)))
  nxt)
noncomputable def dn_check_box (ds : List D) : R D := fin (den_check_box (st0 N_check_box ds))
theorem body_check_box {f : Addr} (fn_is_below : Fn P w K mg base C 1 "is_below" 2 dn_is_below) (T : Txt K mg C) (cdv : Value) (A : Around) (outer : List Env) (s : Shared) (H : Hp) (E : XK) (hr : Room 1 (A.deeper (envOfC "check_box" (defScope s_check_box) s.heap.objs.size f cdv))) :
    SDs C (cxOf (CXd P w) P w K mg base N_check_box "check_box" (defScope s_check_box) f cdv A outer s H E) (defBody s_check_box) den_check_box :=
  (sds_one (sd_if (td_not (td_val (ed_fnA fn_is_below (hr.mono (by decide)) rfl (ad_cons (ed_var (pv 1)) (ad_cons (ed_len (EB.of (ed_fld (k := 1) (eb_var (pv 0)) T.cl T.nR rfl (fun _ _ _ => rfl))) rfl T.len st_Attribute (fun t ha => pe_callB call_len_seq rfl T.len PySem.boot_len ha (he := st_Attribute) (hpl := pl_nil))) ad_nil st_Call) st_Name) (he := st_Name) (hpl := (pl_cons st_Call pl_nil)))))
  (sds_one (sd_raise (c := 2) T.xc2 rfl rfl rfl rfl (se_f1 (eb_var (pv 1)) (by decide)) rfl))
  sds_nil))
theorem mk_check_box {a : Addr} {fd : FuncData} (fn_is_below : Fn P w K mg base C 1 "is_below" 2 dn_is_below) (T : Txt K mg C) (F : Fun K "check_box" "check_box" s_check_box a fd) (hm : mg "check_box" = some (.ref a)) (hb : Binds K fd ["hall", "box"] []) : FnX P w K mg base C 2 "check_box" 2 dn_check_box :=
  ⟨a, fd, _, def_okX F sc_check_box (fun cdv A outer s H E hr => body_check_box fn_is_below T cdv A outer s H E hr), hm, F.kp, hb⟩
noncomputable abbrev s_then : Stmt := PySem.Challenge.pw_arrowhall_k02_arrows_that_follow.main.body.getD 25 (.Pass ⟨0, 0, 0, 0⟩)
noncomputable abbrev N_then : List Str := ["hall", "one", "other", "made"]
theorem sc_then : FnScope N_then ["hall", "one", "other"] (defScope s_then) := ⟨rfl, rfl, rfl, by decide +kernel, rfl, by decide +kernel, by decide +kernel⟩
noncomputable def den_then : Rho → R Out := (sq (drp (calX 2 dn_check_arrow (aC (vr 0) (aC (vr 1) aN))))
  (sq (drp (calX 2 dn_check_arrow (aC (vr 0) (aC (vr 2) aN))))
  (sq (asg 3 (bin fix (bin fix (una (fldD 2) (vb 0)) (vb 1)) (vb 2)))
  (ret (ifV (tst (bin feq (vb 3) (una fneg (kd (.int 1))))) (kd .non) (vr 3))))))
noncomputable def dn_then (ds : List D) : R D := fin (den_then (st0 N_then ds))
theorem body_then {f : Addr} (fn_check_arrow : FnX P w K mg base C 2 "check_arrow" 2 dn_check_arrow) (T : Txt K mg C) (cdv : Value) (A : Around) (outer : List Env) (s : Shared) (H : Hp) (E : XK) (hr : Room 2 (A.deeper (envOfC "then" (defScope s_then) s.heap.objs.size f cdv))) :
    SDs C (cxOf (CXd P w) P w K mg base N_then "then" (defScope s_then) f cdv A outer s H E) (defBody s_then) den_then :=
  (sds_cons (sd_expr (EB.of (ed_fnX fn_check_arrow (hr.mono (by decide)) rfl (ad_cons (ed_var (pv 0)) (ad_cons (ed_var (pv 1)) ad_nil st_Name) st_Name) rfl (he := st_Name) (hpl := (pl_cons st_Name pl_nil)))))
  (sds_cons (sd_expr (EB.of (ed_fnX fn_check_arrow (hr.mono (by decide)) rfl (ad_cons (ed_var (pv 0)) (ad_cons (ed_var (pv 2)) ad_nil st_Name) st_Name) rfl (he := st_Name) (hpl := (pl_cons st_Name pl_nil)))))
  (sds_cons (sd_set (i := 3) sc_then.nd rfl (Or.inl rfl) (ed_at (EB.of (ed_at (EB.of (ed_fld (k := 2) (eb_var (pv 0)) T.cl T.nT rfl (fun _ _ _ => rfl))) (eb_var (pv 1)))) (eb_var (pv 2))))
  (sds_one (sd_ret (ed_if (td_eq (room9 hr) (eb_var (pv 3)) (EB.of (ed_neg (EB.of ed_int)))) ed_non (ed_var (pv 3))))))))
theorem mk_then {a : Addr} {fd : FuncData} (fn_check_arrow : FnX P w K mg base C 2 "check_arrow" 2 dn_check_arrow) (T : Txt K mg C) (F : Fun K "then" "then" s_then a fd) (hm : mg "then" = some (.ref a)) (hb : Binds K fd ["hall", "one", "other"] []) : FnX P w K mg base C 3 "then" 3 dn_then :=
  ⟨a, fd, _, def_okX F sc_then (fun cdv A outer s H E hr => body_then fn_check_arrow T cdv A outer s H E hr), hm, F.kp, hb⟩
noncomputable abbrev s_between : Stmt := PySem.Challenge.pw_arrowhall_k02_arrows_that_follow.main.body.getD 26 (.Pass ⟨0, 0, 0, 0⟩)
noncomputable abbrev N_between : List Str := ["hall", "box", "other"]
theorem sc_between : FnScope N_between ["hall", "box", "other"] (defScope s_between) := ⟨rfl, rfl, rfl, by decide +kernel, rfl, by decide +kernel, by decide +kernel⟩
noncomputable abbrev Nc_between_0 : List Str := ["hall", "box", "other", "arrow", "pair"]
theorem nd_between_0 : Nc_between_0.Nodup := by decide +kernel
noncomputable def den_between : Rho → R (List D) := (sqF (drp (calX 2 dn_check_box (aC (vr 0) (aC (vr 1) aN))))
  (sqF (drp (calX 2 dn_check_box (aC (vr 0) (aC (vr 2) aN))))
  (fCmp (fEnu (aC (una (fldD 0) (vb 0)) aN)) 2 (tg2 3 4) (tst (bin feq (vb 4) (eT (aC (vr 1) (aC (vr 2) aN))))) (vr 3))))
noncomputable def dn_between (ds : List D) : R (List D) := den_between (st0 N_between ds)
theorem body_between {f : Addr} (fn_check_box : FnX P w K mg base C 2 "check_box" 2 dn_check_box) (T : Txt K mg C) (cdv : Value) (A : Around) (outer : List Env) (s : Shared) (H : Hp) (E : XK) (hr : Room 2 (A.deeper (envOfC "between" (defScope s_between) s.heap.objs.size f cdv))) :
    SDsF C (cxOf (CXd P w) P w K mg base N_between "between" (defScope s_between) f cdv A outer s H E) (defBody s_between) den_between :=
  (sdf_cons (sd_expr (EB.of (ed_fnX fn_check_box (hr.mono (by decide)) rfl (ad_cons (ed_var (pv 0)) (ad_cons (ed_var (pv 1)) ad_nil st_Name) st_Name) rfl (he := st_Name) (hpl := (pl_cons st_Name pl_nil)))))
  (sdf_cons (sd_expr (EB.of (ed_fnX fn_check_box (hr.mono (by decide)) rfl (ad_cons (ed_var (pv 0)) (ad_cons (ed_var (pv 2)) ad_nil st_Name) st_Name) rfl (he := st_Name) (hpl := (pl_cons st_Name pl_nil)))))
  (sdf_ret (fd_comp (N' := Nc_between_0) (n := 2) rfl rfl rfl (hix2 3) tgok_2 (id_enum rfl T.enumerate (ad_cons (ed_fld (k := 0) (eb_var (pv 0)) T.cl T.nE rfl (fun _ _ _ => rfl)) ad_nil st_Attribute) (st_one st_Attribute)) (fun L cs s H fp => (gd_two rfl (pg_name (i := 3) nd_between_0 rfl (Or.inl rfl)) (pg_name (i := 4) nd_between_0 rfl (Or.inl rfl)))) (fun L cs s H fp => (ifs_one (td_eq (room9 hr) (eb_var (pv 4)) (EB.of (ed_tup (ad_cons (ed_var (pv 1)) (ad_cons (ed_var (pv 2)) ad_nil st_Name) st_Name)))))) (fun L cs s H fp => (ed_var (pv 3)))))))
theorem mk_between {a : Addr} {fd : FuncData} (fn_check_box : FnX P w K mg base C 2 "check_box" 2 dn_check_box) (T : Txt K mg C) (F : Fun K "between" "between" s_between a fd) (hm : mg "between" = some (.ref a)) (hb : Binds K fd ["hall", "box", "other"] []) : FnF P w K mg base C 3 "between" 3 dn_between :=
  ⟨a, fd, _, def_okF F sc_between (fun cdv A outer s H E hr => body_between fn_check_box T cdv A outer s H E hr), hm, F.kp, hb⟩
noncomputable abbrev s_law_cell : Stmt := PySem.Challenge.pw_arrowhall_k02_arrows_that_follow.main.body.getD 28 (.Pass ⟨0, 0, 0, 0⟩)
noncomputable abbrev N_law_cell : List Str := ["script", "k", "base"]
theorem sc_law_cell : FnScope N_law_cell ["script", "k"] (defScope s_law_cell) := ⟨rfl, rfl, rfl, by decide +kernel, rfl, by decide +kernel, by decide +kernel⟩
noncomputable def den_law_cell : Rho → R Out := (sq (iff (tst (bin (iI flt) (vb 1) (una flen (vb 0))))
  (ret (bin fix (vb 0) (vb 1)))
  nxt)
  (sq (asg 2 (kd (.int 0)))
  (sq (iff (tst (bin (iI fgt) (una flen (vb 0)) (kd (.int 0))))
  (asg 2 (bin fix (vb 0) (kd (.int 0))))
  nxt)
  (ret (bin (iI fmod) (bin fadd (bin (iI fmul) (bin (iI fmod) (vb 2) (kd (.int 65521))) (kd (.int 48271))) (bin (iI fmul) (vb 1) (kd (.int 30103)))) (kd (.int 65521)))))))
noncomputable def dn_law_cell (ds : List D) : R D := fin (den_law_cell (st0 N_law_cell ds))
theorem body_law_cell {f : Addr}  (T : Txt K mg C) (cdv : Value) (A : Around) (outer : List Env) (s : Shared) (H : Hp) (E : XK) (hr : Room 0 (A.deeper (envOfC "_law_cell" (defScope s_law_cell) s.heap.objs.size f cdv))) :
    SDs C (cxOf CX0 P w K mg base N_law_cell "_law_cell" (defScope s_law_cell) f cdv A outer s H E).nox (defBody s_law_cell) den_law_cell :=
  (sds_cons (sd_if (td_lt (eb_var (pv 1)) (EB.of (ed_len (eb_var (pv 0)) rfl T.len st_Name (fun t ha => pe_callB call_len_seq rfl T.len PySem.boot_len ha (he := st_Name) (hpl := pl_nil)))))
  (sds_one (sd_ret (ed_at (eb_var (pv 0)) (eb_var (pv 1)))))
  sds_nil)
  (sds_cons (sd_set (i := 2) sc_law_cell.nd rfl (Or.inl rfl) ed_int)
  (sds_cons (sd_if (td_gt (EB.of (ed_len (eb_var (pv 0)) rfl T.len st_Name (fun t ha => pe_callB call_len_seq rfl T.len PySem.boot_len ha (he := st_Name) (hpl := pl_nil)))) (EB.of ed_int))
  (sds_one (sd_set (i := 2) sc_law_cell.nd rfl (Or.inl rfl) (ed_at (eb_var (pv 0)) (EB.of ed_int))))
  sds_nil)
  (sds_one (sd_ret (ed_mod (EB.of (ed_add (EB.of (ed_mul (EB.of (ed_mod (eb_var (pv 2)) (EB.of ed_int))) (EB.of ed_int))) (EB.of (ed_mul (eb_var (pv 1)) (EB.of ed_int))))) (EB.of ed_int)))))))
theorem mk_law_cell {a : Addr} {fd : FuncData}  (T : Txt K mg C) (F : Fun K "_law_cell" "_law_cell" s_law_cell a fd) (hm : mg "_law_cell" = some (.ref a)) (hb : Binds K fd ["script", "k"] []) : Fn P w K mg base C 1 "_law_cell" 2 dn_law_cell :=
  ⟨a, fd, _, def_ok F sc_law_cell (fun cdv A outer s H E hr => body_law_cell  T cdv A outer s H E hr), hm, F.kp, hb⟩
noncomputable abbrev s_law_whole : Stmt := PySem.Challenge.pw_arrowhall_k02_arrows_that_follow.main.body.getD 29 (.Pass ⟨0, 0, 0, 0⟩)
noncomputable abbrev N_law_whole : List Str := ["found"]
theorem sc_law_whole : FnScope N_law_whole ["found"] (defScope s_law_whole) := ⟨rfl, rfl, rfl, by decide +kernel, rfl, by decide +kernel, by decide +kernel⟩
noncomputable def den_law_whole : Rho → R Out := (ret (andV (una (fisT "int") (vb 0)) (notV (una (fisT "bool") (vb 0)))))
noncomputable def dn_law_whole (ds : List D) : R D := fin (den_law_whole (st0 N_law_whole ds))
theorem body_law_whole {f : Addr}  (T : Txt K mg C) (cdv : Value) (A : Around) (outer : List Env) (s : Shared) (H : Hp) (E : XK) (hr : Room 0 (A.deeper (envOfC "_law_whole" (defScope s_law_whole) s.heap.objs.size f cdv))) :
    SDs C (cxOf CX0 P w K mg base N_law_whole "_law_whole" (defScope s_law_whole) f cdv A outer s H E).nox (defBody s_law_whole) den_law_whole :=
  (sds_one (sd_ret (ed_and (ed_isT T.kt_int rfl T.isinstance rfl T.int boo_int (eb_var (pv 0)) st_Name) (ed_one (ed_not (ed_isT T.kt_bool rfl T.isinstance rfl T.bool boo_bool (eb_var (pv 0)) st_Name))))))
theorem mk_law_whole {a : Addr} {fd : FuncData}  (T : Txt K mg C) (F : Fun K "_law_whole" "_law_whole" s_law_whole a fd) (hm : mg "_law_whole" = some (.ref a)) (hb : Binds K fd ["found"] []) : Fn P w K mg base C 1 "_law_whole" 1 dn_law_whole :=
  ⟨a, fd, _, def_ok F sc_law_whole (fun cdv A outer s H E hr => body_law_whole  T cdv A outer s H E hr), hm, F.kp, hb⟩
noncomputable abbrev s_law_ints : Stmt := PySem.Challenge.pw_arrowhall_k02_arrows_that_follow.main.body.getD 30 (.Pass ⟨0, 0, 0, 0⟩)
noncomputable abbrev N_law_ints : List Str := ["found", "due", "k"]
theorem sc_law_ints : FnScope N_law_ints ["found", "due"] (defScope s_law_ints) := ⟨rfl, rfl, rfl, by decide +kernel, rfl, by decide +kernel, by decide +kernel⟩
noncomputable def den_law_ints : Rho → R Out := (sq (iff (orB (notB (tst (una (fisT "list") (vb 0)))) (tst (bin fne (una flen (vb 0)) (una flen (vb 1)))))
  (ret (kd (.bl false)))
  nxt)
  (sq (forS (fRng (aC (una flen (vb 1)) aN)) (tgN 2)
  (iff (orB (notB (tst (una (fisT "int") (bin fix (vb 0) (vb 2))))) (orB (tst (una (fisT "bool") (bin fix (vb 0) (vb 2)))) (tst (bin fne (bin fix (vb 0) (vb 2)) (bin fix (vb 1) (vb 2))))))
  (ret (kd (.bl false)))
  nxt))
  (ret (kd (.bl true)))))
noncomputable def dn_law_ints (ds : List D) : R D := fin (den_law_ints (st0 N_law_ints ds))
theorem body_law_ints {f : Addr}  (T : Txt K mg C) (cdv : Value) (A : Around) (outer : List Env) (s : Shared) (H : Hp) (E : XK) (hr : Room 0 (A.deeper (envOfC "_law_ints" (defScope s_law_ints) s.heap.objs.size f cdv))) :
    SDs C (cxOf CX0 P w K mg base N_law_ints "_law_ints" (defScope s_law_ints) f cdv A outer s H E).nox (defBody s_law_ints) den_law_ints :=
  (sds_cons (sd_if (td_w (wd_or (td_not (td_val (ed_isT T.kt_list rfl T.isinstance rfl T.list boo_list (eb_var (pv 0)) st_Name))) (wd_or1 (td_ne (room9 hr) (EB.of (ed_len (eb_var (pv 0)) rfl T.len st_Name (fun t ha => pe_callB call_len_seq rfl T.len PySem.boot_len ha (he := st_Name) (hpl := pl_nil)))) (EB.of (ed_len (eb_var (pv 1)) rfl T.len st_Name (fun t ha => pe_callB call_len_seq rfl T.len PySem.boot_len ha (he := st_Name) (hpl := pl_nil))))))))
  (sds_one (sd_ret ed_bl))
  sds_nil)
  (sds_cons (sd_for PassesOwn.never rfl (id_range rfl T.range (ad_cons (ed_len (eb_var (pv 1)) rfl T.len st_Name (fun t ha => pe_callB call_len_seq rfl T.len PySem.boot_len ha (he := st_Name) (hpl := pl_nil))) ad_nil st_Call) (st_one st_Call)) (gd_name (i := 2) sc_law_ints.nd rfl (Or.inl rfl))
  (sds_one (sd_if (td_w (wd_or (td_not (td_val (ed_isT T.kt_int rfl T.isinstance rfl T.int boo_int (EB.of (ed_at (eb_var (pv 0)) (eb_var (pv 2)))) st_Subscript))) (wd_or (td_val (ed_isT T.kt_bool rfl T.isinstance rfl T.bool boo_bool (EB.of (ed_at (eb_var (pv 0)) (eb_var (pv 2)))) st_Subscript)) (wd_or1 (td_ne (room9 hr) (EB.of (ed_at (eb_var (pv 0)) (eb_var (pv 2)))) (EB.of (ed_at (eb_var (pv 1)) (eb_var (pv 2)))))))))
  (sds_one (sd_ret ed_bl))
  sds_nil)))
  (sds_one (sd_ret ed_bl))))
theorem mk_law_ints {a : Addr} {fd : FuncData}  (T : Txt K mg C) (F : Fun K "_law_ints" "_law_ints" s_law_ints a fd) (hm : mg "_law_ints" = some (.ref a)) (hb : Binds K fd ["found", "due"] []) : Fn P w K mg base C 1 "_law_ints" 2 dn_law_ints :=
  ⟨a, fd, _, def_ok F sc_law_ints (fun cdv A outer s H E hr => body_law_ints  T cdv A outer s H E hr), hm, F.kp, hb⟩
noncomputable abbrev s_law_next : Stmt := PySem.Challenge.pw_arrowhall_k02_arrows_that_follow.main.body.getD 31 (.Pass ⟨0, 0, 0, 0⟩)
noncomputable abbrev N_law_next : List Str := ["step"]
theorem sc_law_next : FnScope N_law_next ["step"] (defScope s_law_next) := ⟨rfl, rfl, rfl, by decide +kernel, rfl, by decide +kernel, by decide +kernel⟩
noncomputable def den_law_next : Rho → R Out := (ret (bin (iI fmod) (bin fadd (bin (iI fmul) (vb 0) (kd (.int 48271))) (kd (.int 11))) (kd (.int 2147483647))))
noncomputable def dn_law_next (ds : List D) : R D := fin (den_law_next (st0 N_law_next ds))
theorem body_law_next {f : Addr}  (T : Txt K mg C) (cdv : Value) (A : Around) (outer : List Env) (s : Shared) (H : Hp) (E : XK) (hr : Room 0 (A.deeper (envOfC "_law_next" (defScope s_law_next) s.heap.objs.size f cdv))) :
    SDs C (cxOf CX0 P w K mg base N_law_next "_law_next" (defScope s_law_next) f cdv A outer s H E).nox (defBody s_law_next) den_law_next :=
  (sds_one (sd_ret (ed_mod (EB.of (ed_add (EB.of (ed_mul (eb_var (pv 0)) (EB.of ed_int))) (EB.of ed_int))) (EB.of ed_int))))
theorem mk_law_next {a : Addr} {fd : FuncData}  (T : Txt K mg C) (F : Fun K "_law_next" "_law_next" s_law_next a fd) (hm : mg "_law_next" = some (.ref a)) (hb : Binds K fd ["step"] []) : Fn P w K mg base C 1 "_law_next" 1 dn_law_next :=
  ⟨a, fd, _, def_ok F sc_law_next (fun cdv A outer s H E hr => body_law_next  T cdv A outer s H E hr), hm, F.kp, hb⟩
noncomputable abbrev s_law_sizes : Stmt := PySem.Challenge.pw_arrowhall_k02_arrows_that_follow.main.body.getD 32 (.Pass ⟨0, 0, 0, 0⟩)
noncomputable abbrev N_law_sizes : List Str := ["script", "k", "cell", "way"]
theorem sc_law_sizes : FnScope N_law_sizes ["script", "k"] (defScope s_law_sizes) := ⟨rfl, rfl, rfl, by decide +kernel, rfl, by decide +kernel, by decide +kernel⟩
noncomputable abbrev Nc_law_sizes_0 : List Str := ["script", "k", "cell", "way", "box"]
theorem nd_law_sizes_0 : Nc_law_sizes_0.Nodup := by decide +kernel
noncomputable def den_law_sizes : Rho → R Out := (sq (asg 2 (cal 2 dn_law_cell (aC (vr 0) (aC (vr 1) aN))))
  (sq (asg 3 (bin (iI fmod) (vb 2) (kd (.int 4))))
  (sq (iff (tst (bin feq (vb 3) (kd (.int 0))))
  (ret (eLs (fCmp (fRng (aC (bin fadd (kd (.int 1)) (bin (iI fmod) (bin (iI fdiv) (vb 2) (kd (.int 4))) (kd (.int 4)))) aN)) 1 (tgN 4) tT (kd (.int 1)))))
  nxt)
  (sq (iff (tst (bin feq (vb 3) (kd (.int 1))))
  (ret (bin fix (eL (aC (eL (aC (kd (.int 1)) (aC (kd (.int 2)) aN))) (aC (eL (aC (kd (.int 2)) (aC (kd (.int 1)) aN))) (aC (eL (aC (kd (.int 2)) (aC (kd (.int 2)) aN))) (aC (eL (aC (kd (.int 0)) (aC (kd (.int 2)) aN))) (aC (eL (aC (kd (.int 2)) aN)) (aC (eL (aC (kd (.int 1)) aN)) aN))))))) (bin (iI fmod) (bin (iI fdiv) (vb 2) (kd (.int 4))) (kd (.int 6)))))
  nxt)
  (sq (iff (tst (bin feq (vb 3) (kd (.int 2))))
  (ret (eL (aC (kd (.int 3)) aN)))
  nxt)
  (ret (bin fix (eL (aC (eL (aC (kd (.int 1)) (aC (kd (.int 1)) (aC (kd (.int 2)) aN)))) (aC (eL (aC (kd (.int 0)) (aC (kd (.int 1)) (aC (kd (.int 2)) aN)))) (aC (eL (aC (kd (.int 1)) (aC (kd (.int 2)) (aC (kd (.int 2)) aN)))) (aC (eL (aC (kd (.int 2)) (aC (kd (.int 1)) (aC (kd (.int 0)) aN)))) (aC (eL (aC (kd (.int 2)) (aC (kd (.int 2)) aN))) aN)))))) (bin (iI fmod) (bin (iI fdiv) (vb 2) (kd (.int 4))) (kd (.int 5))))))))))
noncomputable def dn_law_sizes (ds : List D) : R D := fin (den_law_sizes (st0 N_law_sizes ds))
theorem body_law_sizes {f : Addr} (fn_law_cell : Fn P w K mg base C 1 "_law_cell" 2 dn_law_cell) (T : Txt K mg C) (cdv : Value) (A : Around) (outer : List Env) (s : Shared) (H : Hp) (E : XK) (hr : Room 1 (A.deeper (envOfC "_law_sizes" (defScope s_law_sizes) s.heap.objs.size f cdv))) :
    SDs C (cxOf CX0 P w K mg base N_law_sizes "_law_sizes" (defScope s_law_sizes) f cdv A outer s H E).nox (defBody s_law_sizes) den_law_sizes :=
  (sds_cons (sd_set (i := 2) sc_law_sizes.nd rfl (Or.inl rfl) (ed_fnA fn_law_cell (hr.mono (by decide)) rfl (ad_cons (ed_var (pv 0)) (ad_cons (ed_var (pv 1)) ad_nil st_Name) st_Name) (he := st_Name) (hpl := (pl_cons st_Name pl_nil))))
  (sds_cons (sd_set (i := 3) sc_law_sizes.nd rfl (Or.inl rfl) (ed_mod (eb_var (pv 2)) (EB.of ed_int)))
  (sds_cons (sd_if (td_eq (room9 hr) (eb_var (pv 3)) (EB.of ed_int))
  (sds_one (sd_ret (ed_fd (fd_comp (N' := Nc_law_sizes_0) (n := 1) rfl rfl rfl (hix1 4) tgok_N (id_range rfl T.range (ad_cons (ed_add (EB.of ed_int) (EB.of (ed_mod (EB.of (ed_fdiv (eb_var (pv 2)) (EB.of ed_int))) (EB.of ed_int)))) ad_nil st_BinOp) (st_one st_BinOp)) (fun L cs s H fp => (gd_name (i := 4) nd_law_sizes_0 rfl (Or.inl rfl))) (fun L cs s H fp => ifs_nil) (fun L cs s H fp => ed_int)))))
  sds_nil)
  (sds_cons (sd_if (td_eq (room9 hr) (eb_var (pv 3)) (EB.of ed_int))
  (sds_one (sd_ret (ed_at (EB.of (ed_lst (ad_cons (ed_lst (ad_cons ed_int (ad_cons ed_int ad_nil st_Constant) st_Constant)) (ad_cons (ed_lst (ad_cons ed_int (ad_cons ed_int ad_nil st_Constant) st_Constant)) (ad_cons (ed_lst (ad_cons ed_int (ad_cons ed_int ad_nil st_Constant) st_Constant)) (ad_cons (ed_lst (ad_cons ed_int (ad_cons ed_int ad_nil st_Constant) st_Constant)) (ad_cons (ed_lst (ad_cons ed_int ad_nil st_Constant)) (ad_cons (ed_lst (ad_cons ed_int ad_nil st_Constant)) ad_nil st_List) st_List) st_List) st_List) st_List) st_List))) (EB.of (ed_mod (EB.of (ed_fdiv (eb_var (pv 2)) (EB.of ed_int))) (EB.of ed_int))))))
  sds_nil)
  (sds_cons (sd_if (td_eq (room9 hr) (eb_var (pv 3)) (EB.of ed_int))
  (sds_one (sd_ret (ed_lst (ad_cons ed_int ad_nil st_Constant))))
  sds_nil)
  (sds_one (sd_ret (ed_at (EB.of (ed_lst (ad_cons (ed_lst (ad_cons ed_int (ad_cons ed_int (ad_cons ed_int ad_nil st_Constant) st_Constant) st_Constant)) (ad_cons (ed_lst (ad_cons ed_int (ad_cons ed_int (ad_cons ed_int ad_nil st_Constant) st_Constant) st_Constant)) (ad_cons (ed_lst (ad_cons ed_int (ad_cons ed_int (ad_cons ed_int ad_nil st_Constant) st_Constant) st_Constant)) (ad_cons (ed_lst (ad_cons ed_int (ad_cons ed_int (ad_cons ed_int ad_nil st_Constant) st_Constant) st_Constant)) (ad_cons (ed_lst (ad_cons ed_int (ad_cons ed_int ad_nil st_Constant) st_Constant)) ad_nil st_List) st_List) st_List) st_List) st_List))) (EB.of (ed_mod (EB.of (ed_fdiv (eb_var (pv 2)) (EB.of ed_int))) (EB.of ed_int)))))))))))
theorem mk_law_sizes {a : Addr} {fd : FuncData} (fn_law_cell : Fn P w K mg base C 1 "_law_cell" 2 dn_law_cell) (T : Txt K mg C) (F : Fun K "_law_sizes" "_law_sizes" s_law_sizes a fd) (hm : mg "_law_sizes" = some (.ref a)) (hb : Binds K fd ["script", "k"] []) : Fn P w K mg base C 2 "_law_sizes" 2 dn_law_sizes :=
  ⟨a, fd, _, def_ok F sc_law_sizes (fun cdv A outer s H E hr => body_law_sizes fn_law_cell T cdv A outer s H E hr), hm, F.kp, hb⟩
noncomputable abbrev s_law_closed : Stmt := PySem.Challenge.pw_arrowhall_k02_arrows_that_follow.main.body.getD 33 (.Pass ⟨0, 0, 0, 0⟩)
noncomputable abbrev N_law_closed : List Str := ["known", "met", "arrow", "at", "other", "first", "second", "made"]
theorem sc_law_closed : FnScope N_law_closed ["known"] (defScope s_law_closed) := ⟨rfl, rfl, rfl, by decide +kernel, rfl, by decide +kernel, by decide +kernel⟩
noncomputable abbrev Nc_law_closed_0 : List Str := ["known", "met", "arrow", "at", "other", "first", "second", "made", "x"]
theorem nd_law_closed_0 : Nc_law_closed_0.Nodup := by decide +kernel
noncomputable def den_law_closed : Rho → R Out := (sq (dnew 1)
  (sq (forMet 0 2 1)
  (sq (asg 3 (kd (.int 0)))
  (sq (whD (tst (bin (iI flt) (vb 3) (una flen (vb 0))))
  (sq (forS (fIt (eLs (fIt (vb 0)))) (tgN 4)
  (forS (fIt (eL (aC (eT (aC (bin fix (vb 0) (vb 3)) (aC (vr 4) aN))) (aC (eT (aC (vr 4) (aC (bin fix (vb 0) (vb 3)) aN))) aN)))) (tg2 5 6)
  (iff (tst (bin feq (bin fix (vb 5) (kd (.int 1))) (bin fix (vb 6) (kd (.int 0)))))
  (sq (asg 7 (eT (aC (bin fix (vb 5) (kd (.int 0))) (aC (bin fix (vb 6) (kd (.int 1))) (aC (una ftup (eLs (fCmp (fIt (bin fix (vb 5) (kd (.int 2)))) 1 (tgN 8) tT (bin fix (bin fix (vb 6) (kd (.int 2))) (vb 8))))) aN)))))
  (iff (dnin 1 (vr 7))
  (sq (dput 1 (vr 7) (kd (.bl true)))
  (app 0 (vr 7)))
  nxt))
  nxt)))
  (asg 3 (bin fadd (vb 3) (kd (.int 1))))) 30)
  (fz 0 (ret (vr 0)))))))
noncomputable def dm_law_closed (xs : List D) : R D := fin (den_law_closed (st1 N_law_closed xs))
theorem body_law_closed {f : Addr}  (T : Txt K mg C) (cdv : Value) (A : Around) (outer : List Env) (s : Shared) (H : Hp) (E : XK) (hr : Room 0 (A.deeper (envOfC "_law_closed" (defScope s_law_closed) s.heap.objs.size f cdv))) :
    SDs C (cxOf CX0 P w K mg base N_law_closed "_law_closed" (defScope s_law_closed) f cdv A outer s H E).nox (defBody s_law_closed) den_law_closed :=
  (sds_cons (sd_dnew (i := 1) sc_law_closed.nd rfl (Or.inl rfl))
  (sds_cons (sd_forMet (room3 hr) PassesOwn.never rfl (pv 0) (pg_name (i := 2) sc_law_closed.nd rfl (Or.inl rfl)) (pv 1) (pv 2))
  (sds_cons (sd_set (i := 3) sc_law_closed.nd rfl (Or.inl rfl) ed_int)
  (sds_cons (sd_while 30 PassesOwn.never (td_lt (eb_var (pv 3)) (EB.of (ed_len (eb_var (pv 0)) rfl T.len st_Name (fun t ha => pe_callB call_len_seq rfl T.len PySem.boot_len ha (he := st_Name) (hpl := pl_nil)))))
  (sds_cons (sd_for PassesOwn.never rfl (id_seq (ed_fd (fd_list (eb_var (pv 0)) rfl T.list st_Name (fun t ha => pe_callTy call_list_of rfl T.list boot_list ha (he := st_Name) (hpl := pl_nil))))) (gd_name (i := 4) sc_law_closed.nd rfl (Or.inl rfl))
  (sds_one (sd_for PassesOwn.never rfl (id_seq (ed_lst (ad_cons (ed_tup (ad_cons (ed_at (eb_var (pv 0)) (eb_var (pv 3))) (ad_cons (ed_var (pv 4)) ad_nil st_Name) st_Subscript)) (ad_cons (ed_tup (ad_cons (ed_var (pv 4)) (ad_cons (ed_at (eb_var (pv 0)) (eb_var (pv 3))) ad_nil st_Subscript) st_Name)) ad_nil st_Tuple) st_Tuple))) (gd_two rfl (pg_name (i := 5) sc_law_closed.nd rfl (Or.inl rfl)) (pg_name (i := 6) sc_law_closed.nd rfl (Or.inr rfl)))
  (sds_one (sd_if (td_eq (room9 hr) (EB.of (ed_at (eb_var (pv 5)) (EB.of ed_int))) (EB.of (ed_at (eb_var (pv 6)) (EB.of ed_int))))
  (sds_cons (sd_set (i := 7) sc_law_closed.nd rfl (Or.inl rfl) (ed_tup (ad_cons (ed_at (eb_var (pv 5)) (EB.of ed_int)) (ad_cons (ed_at (eb_var (pv 6)) (EB.of ed_int)) (ad_cons (ed_tuple (EB.of (ed_fd (fd_comp (N' := Nc_law_closed_0) (n := 1) rfl rfl rfl (hix1 8) tgok_N (id_seq (ed_at (eb_var (pv 5)) (EB.of ed_int))) (fun L cs s H fp => (gd_name (i := 8) nd_law_closed_0 rfl (Or.inl rfl))) (fun L cs s H fp => ifs_nil) (fun L cs s H fp => (ed_at (EB.of (ed_at (eb_var (pv 6)) (EB.of ed_int))) (eb_var (pv 8))))))) rfl T.tuple st_ListComp (fun t ha => pe_callTy call_tuple_of rfl T.tuple boot_tuple ha (he := st_ListComp) (hpl := pl_nil))) ad_nil st_Call) st_Subscript) st_Subscript)))
  (sds_one (sd_if (td_dnin (room3 hr) (pv 1) (ed_var (pv 7)))
  (sds_cons (sd_dput (room3 hr) (pv 1) (ed_var (pv 7)) ed_bl)
  (sds_one (sd_app (pv 0) (ed_var (pv 7)) (hst := st_Name))))
  sds_nil)))
  sds_nil)))))
  (sds_one (sd_set (i := 3) sc_law_closed.nd rfl (Or.inl rfl) (ed_add (eb_var (pv 3)) (EB.of ed_int))))))
  (sds_fz 0 (sds_one (sd_ret (ed_var (pv 0)))))))))
theorem mk_law_closed {a : Addr} {fd : FuncData}  (T : Txt K mg C) (F : Fun K "_law_closed" "_law_closed" s_law_closed a fd) (hm : mg "_law_closed" = some (.ref a)) (hb : Binds K fd ["known"] []) : Mv P w K mg base C 1 "_law_closed" dm_law_closed :=
  ⟨a, fd, _, mv_ok F sc_law_closed (fun cdv A outer s H E hr => body_law_closed T cdv A outer s H E hr), hm, F.kp, hb⟩
noncomputable abbrev s_law_arrows : Stmt := PySem.Challenge.pw_arrowhall_k02_arrows_that_follow.main.body.getD 34 (.Pass ⟨0, 0, 0, 0⟩)
noncomputable abbrev N_law_arrows : List Str := ["script", "k", "sizes", "known", "step", "turn", "one", "other", "row", "x", "mixed", "arrow"]
theorem sc_law_arrows : FnScope N_law_arrows ["script", "k", "sizes"] (defScope s_law_arrows) := ⟨rfl, rfl, rfl, by decide +kernel, rfl, by decide +kernel, by decide +kernel⟩
noncomputable abbrev Nc_law_arrows_0 : List Str := ["script", "k", "sizes", "known", "step", "turn", "one", "other", "row", "x", "mixed", "arrow", "box"]
theorem nd_law_arrows_0 : Nc_law_arrows_0.Nodup := by decide +kernel
noncomputable def den_law_arrows : Rho → R Out := (sq (own 3 (fCmp (fRng (aC (una flen (vb 2)) aN)) 1 (tgN 12) tT (eT (aC (vr 12) (aC (vr 12) (aC (eTupRg (aC (bin fix (vb 2) (vb 12)) aN)) aN))))))
  (sq (asg 4 (cal 1 dn_law_next (aC (bin fadd (bin (iI fmod) (bin (iI fmul) (cal 2 dn_law_cell (aC (vr 0) (aC (vr 1) aN))) (kd (.int 1000003))) (kd (.int 2147483647))) (kd (.int 17))) aN)))
  (sq (forS (fRng (aC (bin (iI fmod) (cal 2 dn_law_cell (aC (vr 0) (aC (bin fadd (vb 1) (kd (.int 1))) aN))) (kd (.int 5))) aN)) (tgN 5)
  (sq (asg 4 (cal 1 dn_law_next (aC (vr 4) aN)))
  (sq (asg 6 (bin (iI fmod) (bin (iI fdiv) (vb 4) (kd (.int 64))) (una flen (vb 2))))
  (sq (asg 4 (cal 1 dn_law_next (aC (vr 4) aN)))
  (sq (asg 7 (bin (iI fmod) (bin (iI fdiv) (vb 4) (kd (.int 64))) (una flen (vb 2))))
  (sq (own 8 (fLim aN))
  (sq (forS (fRng (aC (bin fix (vb 2) (vb 6)) aN)) (tgN 9)
  (sq (asg 4 (cal 1 dn_law_next (aC (vr 4) aN)))
  (iff (tst (bin feq (bin fix (vb 2) (vb 6)) (kd (.int 3))))
  (ins 8 (bin (iI fmod) (bin (iI fdiv) (vb 4) (kd (.int 64))) (bin fadd (vb 9) (kd (.int 1)))) (vr 9))
  (app 8 (bin (iI fmod) (bin (iI fdiv) (vb 4) (kd (.int 64))) (eMax (aC (kd (.int 1)) (aC (bin fix (vb 2) (vb 7)) aN))))))))
  (iff (orB (tst (bin feq (bin fix (vb 2) (vb 6)) (kd (.int 0)))) (tst (bin (iI fgt) (bin fix (vb 2) (vb 7)) (kd (.int 0)))))
  (iff (tst (bin (fnin true) (eT (aC (vr 6) (aC (vr 7) (aC (una ftup (vb 8)) aN)))) (vb 3)))
  (app 3 (eT (aC (vr 6) (aC (vr 7) (aC (una ftup (vb 8)) aN)))))
  nxt)
  nxt))))))))
  (sq (movD 3 dm_law_closed)
  (sq (own 10 (fLim aN))
  (fz 3 (sq (forS (fIt (vr 3)) (tgN 11)
  (sq (asg 4 (cal 1 dn_law_next (aC (vr 4) aN)))
  (ins 10 (bin (iI fmod) (bin (iI fdiv) (vb 4) (kd (.int 64))) (bin fadd (una flen (vb 10)) (kd (.int 1)))) (vr 11))))
  (fz 10 (ret (vr 10))))))))))
noncomputable def dn_law_arrows (ds : List D) : R D := fin (den_law_arrows (st0 N_law_arrows ds))
theorem body_law_arrows {f : Addr} (fn_law_cell : Fn P w K mg base C 1 "_law_cell" 2 dn_law_cell) (mv_law_closed : Mv P w K mg base C 1 "_law_closed" dm_law_closed) (fn_law_next : Fn P w K mg base C 1 "_law_next" 1 dn_law_next) (T : Txt K mg C) (cdv : Value) (A : Around) (outer : List Env) (s : Shared) (H : Hp) (E : XK) (hr : Room 1 (A.deeper (envOfC "_law_arrows" (defScope s_law_arrows) s.heap.objs.size f cdv))) :
    SDs C (cxOf CX0 P w K mg base N_law_arrows "_law_arrows" (defScope s_law_arrows) f cdv A outer s H E).nox (defBody s_law_arrows) den_law_arrows :=
  (sds_cons (sd_ownC (ps_setComp (i := 3) (pg_name (i := 3) sc_law_arrows.nd rfl (Or.inl rfl)) (N' := Nc_law_arrows_0) (n := 1) rfl rfl rfl (hix1 12) tgok_N (id_range rfl T.range (ad_cons (ed_len (eb_var (pv 2)) rfl T.len st_Name (fun t ha => pe_callB call_len_seq rfl T.len PySem.boot_len ha (he := st_Name) (hpl := pl_nil))) ad_nil st_Call) (st_one st_Call)) (fun L cs s H fp => (gd_name (i := 12) nd_law_arrows_0 rfl (Or.inl rfl))) (fun L cs s H fp => ifs_nil) (fun L cs s H fp => (ed_tup (ad_cons (ed_var (pv 12)) (ad_cons (ed_var (pv 12)) (ad_cons (ed_tupRg rfl (ad_cons (ed_at (eb_var (pv 2)) (eb_var (pv 12))) ad_nil st_Subscript) rfl T.range rfl T.tuple (st_one st_Subscript) st_Call (fun t ha => pe_callTy (call_tup_rg rfl) rfl T.tuple boot_tuple ha (he := st_Call) (hpl := pl_nil))) ad_nil st_Call) st_Name) st_Name))) rfl))
  (sds_cons (sd_set (i := 4) sc_law_arrows.nd rfl (Or.inl rfl) (ed_fnA fn_law_next (hr.mono (by decide)) rfl (ad_cons (ed_add (EB.of (ed_mod (EB.of (ed_mul (EB.of (ed_fnA fn_law_cell (hr.mono (by decide)) rfl (ad_cons (ed_var (pv 0)) (ad_cons (ed_var (pv 1)) ad_nil st_Name) st_Name) (he := st_Name) (hpl := (pl_cons st_Name pl_nil)))) (EB.of ed_int))) (EB.of ed_int))) (EB.of ed_int)) ad_nil st_BinOp) (he := st_BinOp) (hpl := pl_nil)))
  (sds_cons (sd_for PassesOwn.never rfl (id_range rfl T.range (ad_cons (ed_mod (EB.of (ed_fnA fn_law_cell (hr.mono (by decide)) rfl (ad_cons (ed_var (pv 0)) (ad_cons (ed_add (eb_var (pv 1)) (EB.of ed_int)) ad_nil st_BinOp) st_Name) (he := st_Name) (hpl := (pl_cons st_BinOp pl_nil)))) (EB.of ed_int)) ad_nil st_BinOp) (st_one st_BinOp)) (gd_name (i := 5) sc_law_arrows.nd rfl (Or.inl rfl))
  (sds_cons (sd_set (i := 4) sc_law_arrows.nd rfl (Or.inl rfl) (ed_fnA fn_law_next (hr.mono (by decide)) rfl (ad_cons (ed_var (pv 4)) ad_nil st_Name) (he := st_Name) (hpl := pl_nil)))
  (sds_cons (sd_set (i := 6) sc_law_arrows.nd rfl (Or.inl rfl) (ed_mod (EB.of (ed_fdiv (eb_var (pv 4)) (EB.of ed_int))) (EB.of (ed_len (eb_var (pv 2)) rfl T.len st_Name (fun t ha => pe_callB call_len_seq rfl T.len PySem.boot_len ha (he := st_Name) (hpl := pl_nil))))))
  (sds_cons (sd_set (i := 4) sc_law_arrows.nd rfl (Or.inl rfl) (ed_fnA fn_law_next (hr.mono (by decide)) rfl (ad_cons (ed_var (pv 4)) ad_nil st_Name) (he := st_Name) (hpl := pl_nil)))
  (sds_cons (sd_set (i := 7) sc_law_arrows.nd rfl (Or.inl rfl) (ed_mod (EB.of (ed_fdiv (eb_var (pv 4)) (EB.of ed_int))) (EB.of (ed_len (eb_var (pv 2)) rfl T.len st_Name (fun t ha => pe_callB call_len_seq rfl T.len PySem.boot_len ha (he := st_Name) (hpl := pl_nil))))))
  (sds_cons (sd_own (i := 8) sc_law_arrows.nd rfl (Or.inl rfl) (fd_lst ad_nil))
  (sds_cons (sd_for PassesOwn.never rfl (id_range rfl T.range (ad_cons (ed_at (eb_var (pv 2)) (eb_var (pv 6))) ad_nil st_Subscript) (st_one st_Subscript)) (gd_name (i := 9) sc_law_arrows.nd rfl (Or.inl rfl))
  (sds_cons (sd_set (i := 4) sc_law_arrows.nd rfl (Or.inl rfl) (ed_fnA fn_law_next (hr.mono (by decide)) rfl (ad_cons (ed_var (pv 4)) ad_nil st_Name) (he := st_Name) (hpl := pl_nil)))
  (sds_one (sd_if (td_eq (room9 hr) (EB.of (ed_at (eb_var (pv 2)) (eb_var (pv 6)))) (EB.of ed_int))
  (sds_one (sd_ins (pv 8) (ed_mod (EB.of (ed_fdiv (eb_var (pv 4)) (EB.of ed_int))) (EB.of (ed_add (eb_var (pv 9)) (EB.of ed_int)))) (ed_var (pv 9)) (hst := st_BinOp) (hst2 := st_Name)))
  (sds_one (sd_app (pv 8) (ed_mod (EB.of (ed_fdiv (eb_var (pv 4)) (EB.of ed_int))) (EB.of (ed_max rfl (ad_cons ed_int (ad_cons (ed_at (eb_var (pv 2)) (eb_var (pv 7))) ad_nil st_Subscript) st_Constant) rfl T.max (fun t ha => pe_callB (call_max2 rfl) rfl T.max boot_max ha (he := st_Constant) (hpl := (pl_cons st_Subscript pl_nil)))))) (hst := st_BinOp)))))))
  (sds_one (sd_if (td_w (wd_or (td_eq (room9 hr) (EB.of (ed_at (eb_var (pv 2)) (eb_var (pv 6)))) (EB.of ed_int)) (wd_or1 (td_gt (EB.of (ed_at (eb_var (pv 2)) (eb_var (pv 7)))) (EB.of ed_int)))))
  (sds_one (sd_if (td_nin (room9 hr) (EB.of (ed_tup (ad_cons (ed_var (pv 6)) (ad_cons (ed_var (pv 7)) (ad_cons (ed_tuple (eb_var (pv 8)) rfl T.tuple st_Name (fun t ha => pe_callTy call_tuple_of rfl T.tuple boot_tuple ha (he := st_Name) (hpl := pl_nil))) ad_nil st_Call) st_Name) st_Name))) (eb_var (pv 3)))
  (sds_one (sd_app (pv 3) (ed_tup (ad_cons (ed_var (pv 6)) (ad_cons (ed_var (pv 7)) (ad_cons (ed_tuple (eb_var (pv 8)) rfl T.tuple st_Name (fun t ha => pe_callTy call_tuple_of rfl T.tuple boot_tuple ha (he := st_Name) (hpl := pl_nil))) ad_nil st_Call) st_Name) st_Name)) (hst := st_Tuple)))
  sds_nil))
  sds_nil)))))))))
  (sds_cons (sd_move mv_law_closed (hr.mono (by decide)) rfl (pv 3) (i := 3) sc_law_arrows.nd rfl (Or.inl rfl) rfl)
  (sds_cons (sd_own (i := 10) sc_law_arrows.nd rfl (Or.inl rfl) (fd_lst ad_nil))
  (sds_fz 3 (sds_cons (sd_for PassesOwn.never rfl (id_seq (ed_var (pv 3))) (gd_name (i := 11) sc_law_arrows.nd rfl (Or.inl rfl))
  (sds_cons (sd_set (i := 4) sc_law_arrows.nd rfl (Or.inl rfl) (ed_fnA fn_law_next (hr.mono (by decide)) rfl (ad_cons (ed_var (pv 4)) ad_nil st_Name) (he := st_Name) (hpl := pl_nil)))
  (sds_one (sd_ins (pv 10) (ed_mod (EB.of (ed_fdiv (eb_var (pv 4)) (EB.of ed_int))) (EB.of (ed_add (EB.of (ed_len (eb_var (pv 10)) rfl T.len st_Name (fun t ha => pe_callB call_len_seq rfl T.len PySem.boot_len ha (he := st_Name) (hpl := pl_nil)))) (EB.of ed_int)))) (ed_var (pv 11)) (hst := st_BinOp) (hst2 := st_Name)))))
  (sds_fz 10 (sds_one (sd_ret (ed_var (pv 10))))))))))))
theorem mk_law_arrows {a : Addr} {fd : FuncData} (fn_law_cell : Fn P w K mg base C 1 "_law_cell" 2 dn_law_cell) (mv_law_closed : Mv P w K mg base C 1 "_law_closed" dm_law_closed) (fn_law_next : Fn P w K mg base C 1 "_law_next" 1 dn_law_next) (T : Txt K mg C) (F : Fun K "_law_arrows" "_law_arrows" s_law_arrows a fd) (hm : mg "_law_arrows" = some (.ref a)) (hb : Binds K fd ["script", "k", "sizes"] []) : Fn P w K mg base C 2 "_law_arrows" 3 dn_law_arrows :=
  ⟨a, fd, _, def_ok F sc_law_arrows (fun cdv A outer s H E hr => body_law_arrows fn_law_cell mv_law_closed fn_law_next T cdv A outer s H E hr), hm, F.kp, hb⟩
noncomputable abbrev s_law_parts : Stmt := PySem.Challenge.pw_arrowhall_k02_arrows_that_follow.main.body.getD 35 (.Pass ⟨0, 0, 0, 0⟩)
noncomputable abbrev N_law_parts : List Str := ["script", "k", "sizes", "known", "place", "at", "table", "first", "row", "second", "made", "rests"]
theorem sc_law_parts : FnScope N_law_parts ["script", "k"] (defScope s_law_parts) := ⟨rfl, rfl, rfl, by decide +kernel, rfl, by decide +kernel, by decide +kernel⟩
noncomputable abbrev Nc_law_parts_0 : List Str := ["script", "k", "sizes", "known", "place", "at", "table", "first", "row", "second", "made", "rests", "x"]
theorem nd_law_parts_0 : Nc_law_parts_0.Nodup := by decide +kernel
noncomputable abbrev Nc_law_parts_1 : List Str := ["script", "k", "sizes", "known", "place", "at", "table", "first", "row", "second", "made", "rests", "box"]
theorem nd_law_parts_1 : Nc_law_parts_1.Nodup := by decide +kernel
noncomputable abbrev Nc_law_parts_2 : List Str := ["script", "k", "sizes", "known", "place", "at", "table", "first", "row", "second", "made", "rests", "arrow"]
theorem nd_law_parts_2 : Nc_law_parts_2.Nodup := by decide +kernel
noncomputable def den_law_parts : Rho → R Out := (sq (asg 2 (cal 2 dn_law_sizes (aC (vr 0) (aC (vr 1) aN))))
  (sq (asg 3 (cal 3 dn_law_arrows (aC (vr 0) (aC (bin fadd (vb 1) (kd (.int 1))) (aC (vr 2) aN)))))
  (sq (dnew 4)
  (sq (forS (fRng (aC (una flen (vb 3)) aN)) (tgN 5)
  (dput 4 (bin fix (vb 3) (vb 5)) (vr 5)))
  (sq (own 6 (fLim aN))
  (sq (forS (fIt (vr 3)) (tgN 7)
  (sq (own 8 (fLim aN))
  (sq (forS (fIt (vr 3)) (tgN 9)
  (sq (asg 10 (una fneg (kd (.int 1))))
  (sq (iff (tst (bin feq (bin fix (vb 7) (kd (.int 1))) (bin fix (vb 9) (kd (.int 0)))))
  (asg 10 (dget 4 (eT (aC (bin fix (vb 7) (kd (.int 0))) (aC (bin fix (vb 9) (kd (.int 1))) (aC (una ftup (eLs (fCmp (fIt (bin fix (vb 7) (kd (.int 2)))) 1 (tgN 12) tT (bin fix (bin fix (vb 9) (kd (.int 2))) (vb 12))))) aN))))))
  nxt)
  (app 8 (vr 10)))))
  (fz 8 (app 6 (vr 8))))))
  (sq (asg 11 (eLs (fCmp (fRng (aC (una flen (vb 2)) aN)) 1 (tgN 12) tT (dget 4 (eT (aC (vr 12) (aC (vr 12) (aC (eTupRg (aC (bin fix (vb 2) (vb 12)) aN)) aN))))))))
  (fz 6 (ret (eT (aC (eLs (fCmp (fIt (vr 3)) 1 (tgN 12) tT (eT (aC (bin fix (vb 12) (kd (.int 0))) (aC (bin fix (vb 12) (kd (.int 1))) aN))))) (aC (vr 11) (aC (vr 6) (aC (vr 3) (aC (vr 2) aN)))))))))))))))
noncomputable def dn_law_parts (ds : List D) : R D := fin (den_law_parts (st0 N_law_parts ds))
theorem body_law_parts {f : Addr} (fn_law_arrows : Fn P w K mg base C 2 "_law_arrows" 3 dn_law_arrows) (fn_law_sizes : Fn P w K mg base C 2 "_law_sizes" 2 dn_law_sizes) (T : Txt K mg C) (cdv : Value) (A : Around) (outer : List Env) (s : Shared) (H : Hp) (E : XK) (hr : Room 2 (A.deeper (envOfC "_law_parts" (defScope s_law_parts) s.heap.objs.size f cdv))) :
    SDs C (cxOf CX0 P w K mg base N_law_parts "_law_parts" (defScope s_law_parts) f cdv A outer s H E).nox (defBody s_law_parts) den_law_parts :=
  (sds_cons (sd_set (i := 2) sc_law_parts.nd rfl (Or.inr rfl) (ed_fnA fn_law_sizes (hr.mono (by decide)) rfl (ad_cons (ed_var (pv 0)) (ad_cons (ed_var (pv 1)) ad_nil st_Name) st_Name) (he := st_Name) (hpl := (pl_cons st_Name pl_nil))))
  (sds_cons (sd_set (i := 3) sc_law_parts.nd rfl (Or.inl rfl) (ed_fnA fn_law_arrows (hr.mono (by decide)) rfl (ad_cons (ed_var (pv 0)) (ad_cons (ed_add (eb_var (pv 1)) (EB.of ed_int)) (ad_cons (ed_var (pv 2)) ad_nil st_Name) st_BinOp) st_Name) (he := st_Name) (hpl := (pl_cons st_BinOp (pl_cons st_Name pl_nil)))))
  (sds_cons (sd_dnew (i := 4) sc_law_parts.nd rfl (Or.inr rfl))
  (sds_cons (sd_for PassesOwn.never rfl (id_range rfl T.range (ad_cons (ed_len (eb_var (pv 3)) rfl T.len st_Name (fun t ha => pe_callB call_len_seq rfl T.len PySem.boot_len ha (he := st_Name) (hpl := pl_nil))) ad_nil st_Call) (st_one st_Call)) (gd_name (i := 5) sc_law_parts.nd rfl (Or.inl rfl))
  (sds_one (sd_dput (room3 hr) (pv 4) (ed_at (eb_var (pv 3)) (eb_var (pv 5))) (ed_var (pv 5)))))
  (sds_cons (sd_own (i := 6) sc_law_parts.nd rfl (Or.inl rfl) (fd_lst ad_nil))
  (sds_cons (sd_for PassesOwn.never rfl (id_seq (ed_var (pv 3))) (gd_name (i := 7) sc_law_parts.nd rfl (Or.inl rfl))
  (sds_cons (sd_own (i := 8) sc_law_parts.nd rfl (Or.inl rfl) (fd_lst ad_nil))
  (sds_cons (sd_for PassesOwn.never rfl (id_seq (ed_var (pv 3))) (gd_name (i := 9) sc_law_parts.nd rfl (Or.inr rfl))
  (sds_cons (sd_set (i := 10) sc_law_parts.nd rfl (Or.inl rfl) (ed_neg (EB.of ed_int)))
  (sds_cons (sd_if (td_eq (room9 hr) (EB.of (ed_at (eb_var (pv 7)) (EB.of ed_int))) (EB.of (ed_at (eb_var (pv 9)) (EB.of ed_int))))
  (sds_one (sd_set (i := 10) sc_law_parts.nd rfl (Or.inl rfl) (ed_dget (room3 hr) (pv 4) (ed_tup (ad_cons (ed_at (eb_var (pv 7)) (EB.of ed_int)) (ad_cons (ed_at (eb_var (pv 9)) (EB.of ed_int)) (ad_cons (ed_tuple (EB.of (ed_fd (fd_comp (N' := Nc_law_parts_0) (n := 1) rfl rfl rfl (hix1 12) tgok_N (id_seq (ed_at (eb_var (pv 7)) (EB.of ed_int))) (fun L cs s H fp => (gd_name (i := 12) nd_law_parts_0 rfl (Or.inl rfl))) (fun L cs s H fp => ifs_nil) (fun L cs s H fp => (ed_at (EB.of (ed_at (eb_var (pv 9)) (EB.of ed_int))) (eb_var (pv 12))))))) rfl T.tuple st_ListComp (fun t ha => pe_callTy call_tuple_of rfl T.tuple boot_tuple ha (he := st_ListComp) (hpl := pl_nil))) ad_nil st_Call) st_Subscript) st_Subscript)))))
  sds_nil)
  (sds_one (sd_app (pv 8) (ed_var (pv 10)) (hst := st_Name))))))
  (sds_fz 8 (sds_one (sd_app (pv 6) (ed_var (pv 8)) (hst := st_Name)))))))
  (sds_cons (sd_setC (ps_setComp (i := 11) (pg_name (i := 11) sc_law_parts.nd rfl (Or.inl rfl)) (N' := Nc_law_parts_1) (n := 1) rfl rfl rfl (hix1 12) tgok_N (id_range rfl T.range (ad_cons (ed_len (eb_var (pv 2)) rfl T.len st_Name (fun t ha => pe_callB call_len_seq rfl T.len PySem.boot_len ha (he := st_Name) (hpl := pl_nil))) ad_nil st_Call) (st_one st_Call)) (fun L cs s H fp => (gd_name (i := 12) nd_law_parts_1 rfl (Or.inl rfl))) (fun L cs s H fp => ifs_nil) (fun L cs s H fp => (ed_dget (room3 hr) (pv 4) (ed_tup (ad_cons (ed_var (pv 12)) (ad_cons (ed_var (pv 12)) (ad_cons (ed_tupRg rfl (ad_cons (ed_at (eb_var (pv 2)) (eb_var (pv 12))) ad_nil st_Subscript) rfl T.range rfl T.tuple (st_one st_Subscript) st_Call (fun t ha => pe_callTy (call_tup_rg rfl) rfl T.tuple boot_tuple ha (he := st_Call) (hpl := pl_nil))) ad_nil st_Call) st_Name) st_Name)))) rfl))
  (sds_fz 6 (sds_one (sd_ret (ed_tup (ad_cons (ed_fd (fd_comp (N' := Nc_law_parts_2) (n := 1) rfl rfl rfl (hix1 12) tgok_N (id_seq (ed_var (pv 3))) (fun L cs s H fp => (gd_name (i := 12) nd_law_parts_2 rfl (Or.inl rfl))) (fun L cs s H fp => ifs_nil) (fun L cs s H fp => (ed_tup (ad_cons (ed_at (eb_var (pv 12)) (EB.of ed_int)) (ad_cons (ed_at (eb_var (pv 12)) (EB.of ed_int)) ad_nil st_Subscript) st_Subscript))))) (ad_cons (ed_var (pv 11)) (ad_cons (ed_var (pv 6)) (ad_cons (ed_var (pv 3)) (ad_cons (ed_var (pv 2)) ad_nil st_Name) st_Name) st_Name) st_Name) st_ListComp))))))))))))
theorem mk_law_parts {a : Addr} {fd : FuncData} (fn_law_arrows : Fn P w K mg base C 2 "_law_arrows" 3 dn_law_arrows) (fn_law_sizes : Fn P w K mg base C 2 "_law_sizes" 2 dn_law_sizes) (T : Txt K mg C) (F : Fun K "_law_parts" "_law_parts" s_law_parts a fd) (hm : mg "_law_parts" = some (.ref a)) (hb : Binds K fd ["script", "k"] []) : Fn P w K mg base C 3 "_law_parts" 2 dn_law_parts :=
  ⟨a, fd, _, def_ok F sc_law_parts (fun cdv A outer s H E hr => body_law_parts fn_law_arrows fn_law_sizes T cdv A outer s H E hr), hm, F.kp, hb⟩
noncomputable abbrev s_law_hall : Stmt := PySem.Challenge.pw_arrowhall_k02_arrows_that_follow.main.body.getD 36 (.Pass ⟨0, 0, 0, 0⟩)
noncomputable abbrev N_law_hall : List Str := ["parts"]
theorem sc_law_hall : FnScope N_law_hall ["parts"] (defScope s_law_hall) := ⟨rfl, rfl, rfl, by decide +kernel, rfl, by decide +kernel, by decide +kernel⟩
noncomputable abbrev Nc_law_hall_0 : List Str := ["parts", "row"]
theorem nd_law_hall_0 : Nc_law_hall_0.Nodup := by decide +kernel
noncomputable def den_law_hall : Rho → R Out := (ret (mkH den_Hall (aC (eLs (fIt (bin fix (vb 0) (kd (.int 0))))) (aC (eLs (fIt (bin fix (vb 0) (kd (.int 1))))) (aC (eLs (fCmp (fIt (bin fix (vb 0) (kd (.int 2)))) 1 (tgN 1) tT (eLs (fIt (vb 1))))) aN)))))
noncomputable def dn_law_hall (ds : List D) : R D := fin (den_law_hall (st0 N_law_hall ds))
theorem body_law_hall {f : Addr} (fn_Hall : FnH P w K mg base C 4 den_Hall) (T : Txt K mg C) (cdv : Value) (A : Around) (outer : List Env) (s : Shared) (H : Hp) (E : XK) (hr : Room 5 (A.deeper (envOfC "_law_hall" (defScope s_law_hall) s.heap.objs.size f cdv))) :
    SDs C (cxOf CX0 P w K mg base N_law_hall "_law_hall" (defScope s_law_hall) f cdv A outer s H E).nox (defBody s_law_hall) den_law_hall :=
  (sds_one (sd_ret (ed_hall fn_Hall (hr.mono (by decide)) rfl (ad_cons (ed_fd (fd_list (EB.of (ed_at (eb_var (pv 0)) (EB.of ed_int))) rfl T.list st_Subscript (fun t ha => pe_callTy call_list_of rfl T.list boot_list ha (he := st_Subscript) (hpl := pl_nil)))) (ad_cons (ed_fd (fd_list (EB.of (ed_at (eb_var (pv 0)) (EB.of ed_int))) rfl T.list st_Subscript (fun t ha => pe_callTy call_list_of rfl T.list boot_list ha (he := st_Subscript) (hpl := pl_nil)))) (ad_cons (ed_fd (fd_comp (N' := Nc_law_hall_0) (n := 1) rfl rfl rfl (hix1 1) tgok_N (id_seq (ed_at (eb_var (pv 0)) (EB.of ed_int))) (fun L cs s H fp => (gd_name (i := 1) nd_law_hall_0 rfl (Or.inl rfl))) (fun L cs s H fp => ifs_nil) (fun L cs s H fp => (ed_fd (fd_list (eb_var (pv 1)) rfl T.list st_Name (fun t ha => pe_callTy call_list_of rfl T.list boot_list ha (he := st_Name) (hpl := pl_nil))))))) ad_nil st_ListComp) st_Call) st_Call) rfl (he := st_Call) (hpl := (pl_cons st_Call (pl_cons st_ListComp pl_nil))))))
theorem mk_law_hall {a : Addr} {fd : FuncData} (fn_Hall : FnH P w K mg base C 4 den_Hall) (T : Txt K mg C) (F : Fun K "_law_hall" "_law_hall" s_law_hall a fd) (hm : mg "_law_hall" = some (.ref a)) (hb : Binds K fd ["parts"] []) : Fn P w K mg base C 6 "_law_hall" 1 dn_law_hall :=
  ⟨a, fd, _, def_ok F sc_law_hall (fun cdv A outer s H E hr => body_law_hall fn_Hall T cdv A outer s H E hr), hm, F.kp, hb⟩
noncomputable abbrev s_law_between : Stmt := PySem.Challenge.pw_arrowhall_k02_arrows_that_follow.main.body.getD 37 (.Pass ⟨0, 0, 0, 0⟩)
noncomputable abbrev N_law_between : List Str := ["parts", "box", "other"]
theorem sc_law_between : FnScope N_law_between ["parts", "box", "other"] (defScope s_law_between) := ⟨rfl, rfl, rfl, by decide +kernel, rfl, by decide +kernel, by decide +kernel⟩
noncomputable abbrev Nc_law_between_0 : List Str := ["parts", "box", "other", "arrow"]
theorem nd_law_between_0 : Nc_law_between_0.Nodup := by decide +kernel
noncomputable def den_law_between : Rho → R Out := (ret (eLs (fCmp (fRng (aC (una flen (bin fix (vb 0) (kd (.int 0)))) aN)) 1 (tgN 3) (tst (bin feq (bin fix (bin fix (vb 0) (kd (.int 0))) (vb 3)) (eT (aC (vr 1) (aC (vr 2) aN))))) (vr 3))))
noncomputable def dn_law_between (ds : List D) : R D := fin (den_law_between (st0 N_law_between ds))
theorem body_law_between {f : Addr}  (T : Txt K mg C) (cdv : Value) (A : Around) (outer : List Env) (s : Shared) (H : Hp) (E : XK) (hr : Room 0 (A.deeper (envOfC "_law_between" (defScope s_law_between) s.heap.objs.size f cdv))) :
    SDs C (cxOf CX0 P w K mg base N_law_between "_law_between" (defScope s_law_between) f cdv A outer s H E).nox (defBody s_law_between) den_law_between :=
  (sds_one (sd_ret (ed_fd (fd_comp (N' := Nc_law_between_0) (n := 1) rfl rfl rfl (hix1 3) tgok_N (id_range rfl T.range (ad_cons (ed_len (EB.of (ed_at (eb_var (pv 0)) (EB.of ed_int))) rfl T.len st_Subscript (fun t ha => pe_callB call_len_seq rfl T.len PySem.boot_len ha (he := st_Subscript) (hpl := pl_nil))) ad_nil st_Call) (st_one st_Call)) (fun L cs s H fp => (gd_name (i := 3) nd_law_between_0 rfl (Or.inl rfl))) (fun L cs s H fp => (ifs_one (td_eq (room9 hr) (EB.of (ed_at (EB.of (ed_at (eb_var (pv 0)) (EB.of ed_int))) (eb_var (pv 3)))) (EB.of (ed_tup (ad_cons (ed_var (pv 1)) (ad_cons (ed_var (pv 2)) ad_nil st_Name) st_Name)))))) (fun L cs s H fp => (ed_var (pv 3)))))))
theorem mk_law_between {a : Addr} {fd : FuncData}  (T : Txt K mg C) (F : Fun K "_law_between" "_law_between" s_law_between a fd) (hm : mg "_law_between" = some (.ref a)) (hb : Binds K fd ["parts", "box", "other"] []) : Fn P w K mg base C 1 "_law_between" 3 dn_law_between :=
  ⟨a, fd, _, def_ok F sc_law_between (fun cdv A outer s H E hr => body_law_between  T cdv A outer s H E hr), hm, F.kp, hb⟩
noncomputable abbrev s_law_which : Stmt := PySem.Challenge.pw_arrowhall_k02_arrows_that_follow.main.body.getD 38 (.Pass ⟨0, 0, 0, 0⟩)
noncomputable abbrev N_law_which : List Str := ["e", "low", "told"]
theorem sc_law_which : FnScope N_law_which ["e"] (defScope s_law_which) := ⟨rfl, rfl, rfl, by decide +kernel, rfl, by decide +kernel, by decide +kernel⟩
noncomputable def den_law_which : Rho → R Out := (sq (asg 1 (eL (aC (una (fisX [1, 2] 0) (vb 0)) (aC (una (fisX [1, 2] 1) (vb 0)) (aC (una (fisX [1, 2] 2) (vb 0)) (aC (una (fisX [1, 2] 3) (vb 0)) aN))))))
  (sq (asg 2 (bin fadd (vb 1) (eL (aC (una (fisX [1, 2] 4) (vb 0)) (aC (una (fisX [1, 2] 5) (vb 0)) (aC (una (fisX [1, 2] 6) (vb 0)) aN))))))
  (sq (iff (orB (notB (tst (una (fisV [1, 2]) (vb 0)))) (tst (bin fne (una cntT (vb 2)) (kd (.int 1)))))
  (ret (kd (.int 9)))
  nxt)
  (ret (una idxT (vb 2))))))
noncomputable def dn_law_which (ds : List D) : R D := fin (den_law_which (st0 N_law_which ds))
theorem body_law_which {f : Addr}  (T : Txt K mg C) (cdv : Value) (A : Around) (outer : List Env) (s : Shared) (H : Hp) (hr : RoomN 0 (A.deeper (envOfC "_law_which" (defScope s_law_which) s.heap.objs.size f cdv))) :
    SDs C (cxN P w K mg base N_law_which "_law_which" (defScope s_law_which) f cdv A outer s H) (defBody s_law_which) den_law_which :=
  (sds_cons (sd_set (i := 1) sc_law_which.nd rfl (Or.inl rfl) (ed_lst (ad_cons (ed_isX (k := 0) T.xa (by decide) rfl rfl T.isinstance rfl (eb_var (pv 0)) st_Name) (ad_cons (ed_isX (k := 1) T.xa (by decide) rfl rfl T.isinstance rfl (eb_var (pv 0)) st_Name) (ad_cons (ed_isX (k := 2) T.xa (by decide) rfl rfl T.isinstance rfl (eb_var (pv 0)) st_Name) (ad_cons (ed_isX (k := 3) T.xa (by decide) rfl rfl T.isinstance rfl (eb_var (pv 0)) st_Name) ad_nil st_Call) st_Call) st_Call) st_Call)))
  (sds_cons (sd_set (i := 2) sc_law_which.nd rfl (Or.inl rfl) (ed_add (eb_var (pv 1)) (EB.of (ed_lst (ad_cons (ed_isX (k := 4) T.xa (by decide) rfl rfl T.isinstance rfl (eb_var (pv 0)) st_Name) (ad_cons (ed_isX (k := 5) T.xa (by decide) rfl rfl T.isinstance rfl (eb_var (pv 0)) st_Name) (ad_cons (ed_isX (k := 6) T.xa (by decide) rfl rfl T.isinstance rfl (eb_var (pv 0)) st_Name) ad_nil st_Call) st_Call) st_Call)))))
  (sds_cons (sd_if (td_w (wd_or (td_not (td_val (ed_isV T.xa rfl T.isinstance rfl T.verr boo_ve (eb_var (pv 0)) st_Name))) (wd_or1 (td_ne (room9N hr) (EB.of (ed_cntT (room9N hr) (eb_var (pv 2)) (fun ho ha => pe_bm PySem.F.plainAttrs_list PySem.F.slot_list_count PySem.F.type_list_count (mt_count (room9N hr)) ho ha))) (EB.of ed_int)))))
  (sds_one (sd_ret ed_int))
  sds_nil)
  (sds_one (sd_ret (ed_idxT (room9N hr) (eb_var (pv 2)) (fun ho ha => pe_bm PySem.F.plainAttrs_list PySem.F.slot_list_index PySem.F.type_list_index (mt_index (room9N hr)) ho ha)))))))
theorem mk_law_which {a : Addr} {fd : FuncData}  (T : Txt K mg C) (F : Fun K "_law_which" "_law_which" s_law_which a fd) (hm : mg "_law_which" = some (.ref a)) (hb : Binds K fd ["e"] []) : FnN P w K mg base C 1 "_law_which" 1 dn_law_which :=
  ⟨a, fd, _, def_okN F sc_law_which (fun cdv A outer s H hr => body_law_which  T cdv A outer s H hr), hm, F.kp, hb⟩
noncomputable abbrev s_law_met : Stmt := PySem.Challenge.pw_arrowhall_k02_arrows_that_follow.main.body.getD 39 (.Pass ⟨0, 0, 0, 0⟩)
noncomputable abbrev N_law_met : List Str := ["hall", "way", "one", "other", "which", "found", "e"]
theorem sc_law_met : FnScope N_law_met ["hall", "way", "one", "other"] (defScope s_law_met) := ⟨rfl, rfl, rfl, by decide +kernel, rfl, by decide +kernel, by decide +kernel⟩
noncomputable def den_law_met : Rho → R PR := (sqP (asg 4 (una fneg (kd (.int 1))))
  (sqP (asg 5 (kd .non))
  (sqP (tryD [1, 2] 6
  (iff (tst (bin feq (vb 1) (kd (.int 0))))
  (asg 5 (calX 3 dn_then (aC (vr 0) (aC (vr 2) (aC (vr 3) aN)))))
  (own 5 (calF 3 dn_between (aC (vr 0) (aC (vr 2) (aC (vr 3) aN))))))
  (asg 4 (cal 1 dn_law_which (aC (vr 6) aN))))
  (retP 4 5))))
noncomputable def dn_law_met (ds : List D) : R PR := den_law_met (st0 N_law_met ds)
theorem body_law_met {f : Addr} (fn_law_which : FnN P w K mg base C 1 "_law_which" 1 dn_law_which) (fn_between : FnF P w K mg base C 3 "between" 3 dn_between) (fn_then : FnX P w K mg base C 3 "then" 3 dn_then) (T : Txt K mg C) (cdv : Value) (A : Around) (outer : List Env) (s : Shared) (H : Hp) (E : XK) (hr : Room 3 (A.deeper (envOfC "_law_met" (defScope s_law_met) s.heap.objs.size f cdv))) :
    SDsP C (cxOf CX0 P w K mg base N_law_met "_law_met" (defScope s_law_met) f cdv A outer s H E).nox (defBody s_law_met) den_law_met :=
  (sdp_cons (sd_set (i := 4) sc_law_met.nd rfl (Or.inl rfl) (ed_neg (EB.of ed_int)))
  (sdp_cons (sd_set (i := 5) sc_law_met.nd rfl (Or.inl rfl) ed_non)
  (sdp_cons (sd_try (ie := 6) T.xb.choose_spec T.xa (by decide) rfl sc_law_met.nd rfl rfl rfl rfl rfl rfl rfl
  (fun pn xe => (sdes_one (sde_if (td_eq (room9 hr) (eb_var (pv 1)) (EB.of ed_int))
  (sdes_one (sde_set (i := 5) sc_law_met.nd rfl (Or.inl rfl) (ed_fnX fn_then (hr.mono (by decide)) rfl (ad_cons (ed_var (pv 0)) (ad_cons (ed_var (pv 2)) (ad_cons (ed_var (pv 3)) ad_nil st_Name) st_Name) st_Name) rfl (he := st_Name) (hpl := (pl_cons st_Name (pl_cons st_Name pl_nil))))))
  (sdes_one (sde_own (i := 5) sc_law_met.nd rfl (Or.inl rfl) (fd_fnF fn_between (hr.mono (by decide)) rfl (ad_cons (ed_var (pv 0)) (ad_cons (ed_var (pv 2)) (ad_cons (ed_var (pv 3)) ad_nil st_Name) st_Name) st_Name) rfl (he := st_Name) (hpl := (pl_cons st_Name (pl_cons st_Name pl_nil)))))))))
  (fun ev pn => (sds_one (sd_set (i := 4) sc_law_met.nd rfl (Or.inl rfl) (ed_fnN fn_law_which (RoomN.mono (RoomN.mark (RoomN.of hr)) (by decide)) rfl (ad_cons (ed_var (pv 6)) ad_nil st_Name) (he := st_Name) (hpl := pl_nil))))))
  (sdp_ret (pv 4) (pv 5)))))
theorem mk_law_met {a : Addr} {fd : FuncData} (fn_law_which : FnN P w K mg base C 1 "_law_which" 1 dn_law_which) (fn_between : FnF P w K mg base C 3 "between" 3 dn_between) (fn_then : FnX P w K mg base C 3 "then" 3 dn_then) (T : Txt K mg C) (F : Fun K "_law_met" "_law_met" s_law_met a fd) (hm : mg "_law_met" = some (.ref a)) (hb : Binds K fd ["hall", "way", "one", "other"] []) : FnP P w K mg base C 4 "_law_met" 4 dn_law_met :=
  ⟨a, fd, _, def_okP F sc_law_met (fun cdv A outer s H E hr => body_law_met fn_law_which fn_between fn_then T cdv A outer s H E hr), hm, F.kp, hb⟩
noncomputable abbrev s_law_number : Stmt := PySem.Challenge.pw_arrowhall_k02_arrows_that_follow.main.body.getD 40 (.Pass ⟨0, 0, 0, 0⟩)
noncomputable abbrev N_law_number : List Str := ["script", "k", "many"]
theorem sc_law_number : FnScope N_law_number ["script", "k", "many"] (defScope s_law_number) := ⟨rfl, rfl, rfl, by decide +kernel, rfl, by decide +kernel, by decide +kernel⟩
noncomputable def den_law_number : Rho → R Out := (sq (iff (tst (bin feq (bin (iI fmod) (cal 2 dn_law_cell (aC (vr 0) (aC (bin fadd (vb 1) (kd (.int 1))) aN))) (kd (.int 4))) (kd (.int 1))))
  (ret (bin fix (eL (aC (una fneg (kd (.int 1))) (aC (vr 2) (aC (bin (iI fpow) (kd (.int 10)) (kd (.int 29))) (aC (bin (iI fsub) (kd (.int 1)) (bin (iI fpow) (kd (.int 10)) (kd (.int 29)))) aN))))) (bin (iI fmod) (cal 2 dn_law_cell (aC (vr 0) (aC (vr 1) aN))) (kd (.int 4)))))
  nxt)
  (ret (bin (iI fmod) (cal 2 dn_law_cell (aC (vr 0) (aC (vr 1) aN))) (vb 2))))
noncomputable def dn_law_number (ds : List D) : R D := fin (den_law_number (st0 N_law_number ds))
theorem body_law_number {f : Addr} (fn_law_cell : Fn P w K mg base C 1 "_law_cell" 2 dn_law_cell) (T : Txt K mg C) (cdv : Value) (A : Around) (outer : List Env) (s : Shared) (H : Hp) (E : XK) (hr : Room 1 (A.deeper (envOfC "_law_number" (defScope s_law_number) s.heap.objs.size f cdv))) :
    SDs C (cxOf CX0 P w K mg base N_law_number "_law_number" (defScope s_law_number) f cdv A outer s H E).nox (defBody s_law_number) den_law_number :=
  (sds_cons (sd_if (td_eq (room9 hr) (EB.of (ed_mod (EB.of (ed_fnA fn_law_cell (hr.mono (by decide)) rfl (ad_cons (ed_var (pv 0)) (ad_cons (ed_add (eb_var (pv 1)) (EB.of ed_int)) ad_nil st_BinOp) st_Name) (he := st_Name) (hpl := (pl_cons st_BinOp pl_nil)))) (EB.of ed_int))) (EB.of ed_int))
  (sds_one (sd_ret (ed_at (EB.of (ed_lst (ad_cons (ed_neg (EB.of ed_int)) (ad_cons (ed_var (pv 2)) (ad_cons (ed_pow (EB.of ed_int) (EB.of ed_int)) (ad_cons (ed_sub (EB.of ed_int) (EB.of (ed_pow (EB.of ed_int) (EB.of ed_int)))) ad_nil st_BinOp) st_BinOp) st_Name) st_UnaryOp))) (EB.of (ed_mod (EB.of (ed_fnA fn_law_cell (hr.mono (by decide)) rfl (ad_cons (ed_var (pv 0)) (ad_cons (ed_var (pv 1)) ad_nil st_Name) st_Name) (he := st_Name) (hpl := (pl_cons st_Name pl_nil)))) (EB.of ed_int))))))
  sds_nil)
  (sds_one (sd_ret (ed_mod (EB.of (ed_fnA fn_law_cell (hr.mono (by decide)) rfl (ad_cons (ed_var (pv 0)) (ad_cons (ed_var (pv 1)) ad_nil st_Name) st_Name) (he := st_Name) (hpl := (pl_cons st_Name pl_nil)))) (eb_var (pv 2))))))
theorem mk_law_number {a : Addr} {fd : FuncData} (fn_law_cell : Fn P w K mg base C 1 "_law_cell" 2 dn_law_cell) (T : Txt K mg C) (F : Fun K "_law_number" "_law_number" s_law_number a fd) (hm : mg "_law_number" = some (.ref a)) (hb : Binds K fd ["script", "k", "many"] []) : Fn P w K mg base C 2 "_law_number" 3 dn_law_number :=
  ⟨a, fd, _, def_ok F sc_law_number (fun cdv A outer s H E hr => body_law_number fn_law_cell T cdv A outer s H E hr), hm, F.kp, hb⟩
noncomputable abbrev s_law : Stmt := PySem.Challenge.pw_arrowhall_k02_arrows_that_follow.main.body.getD 41 (.Pass ⟨0, 0, 0, 0⟩)
noncomputable abbrev N_law : List Str := ["script", "parts", "hall", "many", "one", "other", "told", "due", "boxes", "box", "last"]
theorem sc_law : FnScope N_law ["script"] (defScope s_law) := ⟨rfl, rfl, rfl, by decide +kernel, rfl, by decide +kernel, by decide +kernel⟩
noncomputable def den_law : Rho → R Out := (sq (asg 1 (cal 2 dn_law_parts (aC (vr 0) (aC (kd (.int 0)) aN))))
  (sq (asg 2 (cal 1 dn_law_hall (aC (vr 1) aN)))
  (sq (asg 3 (una flen (bin fix (vb 1) (kd (.int 0)))))
  (sq (par 4 5 (aC (cal 3 dn_law_number (aC (vr 0) (aC (kd (.int 4)) (aC (vr 3) aN)))) (aC (cal 3 dn_law_number (aC (vr 0) (aC (kd (.int 6)) (aC (vr 3) aN)))) aN)))
  (sq (asg 6 (cal 4 (plD' dn_law_met) (aC (vr 2) (aC (kd (.int 0)) (aC (vr 4) (aC (vr 5) aN))))))
  (sq (iff (orB (notB (tst (chn (fun i j => decide (i ≤ j)) (fun i j => decide (i < j)) (kd (.int 0)) (vb 4) (vb 3)))) (notB (tst (chn (fun i j => decide (i ≤ j)) (fun i j => decide (i < j)) (kd (.int 0)) (vb 5) (vb 3)))))
  (iff (tst (bin fne (vb 6) (eT (aC (kd (.int 1)) (aC (kd .non) aN)))))
  (ret (kd (.bl false)))
  nxt)
  (sq (asg 7 (bin fix (bin fix (bin fix (vb 1) (kd (.int 2))) (vb 4)) (vb 5)))
  (sq (iff (orB (tst (bin fne (bin fix (vb 6) (kd (.int 0))) (una fneg (kd (.int 1))))) (andB (tst (bin (iI flt) (vb 7) (kd (.int 0)))) (tst (una (fun d => .val (fisNot d)) (bin fix (vb 6) (kd (.int 1)))))))
  (ret (kd (.bl false)))
  nxt)
  (iff (andB (tst (bin (iI fge) (vb 7) (kd (.int 0)))) (orB (notB (tst (cal 1 dn_law_whole (aC (bin fix (vb 6) (kd (.int 1))) aN)))) (tst (bin fne (bin fix (vb 6) (kd (.int 1))) (vb 7)))))
  (ret (kd (.bl false)))
  nxt))))
  (sq (asg 8 (una flen (bin fix (vb 1) (kd (.int 1)))))
  (sq (par 9 10 (aC (cal 3 dn_law_number (aC (vr 0) (aC (kd (.int 8)) (aC (vr 8) aN)))) (aC (cal 3 dn_law_number (aC (vr 0) (aC (kd (.int 10)) (aC (vr 8) aN)))) aN)))
  (newD 6 (calF 4 dn_law_met (aC (vr 2) (aC (kd (.int 1)) (aC (vr 9) (aC (vr 10) aN)))))
  (sq (iff (orB (notB (tst (chn (fun i j => decide (i ≤ j)) (fun i j => decide (i < j)) (kd (.int 0)) (vb 9) (vb 8)))) (notB (tst (chn (fun i j => decide (i ≤ j)) (fun i j => decide (i < j)) (kd (.int 0)) (vb 10) (vb 8)))))
  (ret (bin feq (vb 6) (eT (aC (kd (.int 2)) (aC (kd .non) aN)))))
  nxt)
  (sq (iff (orB (tst (bin fne (bin fix (vb 6) (kd (.int 0))) (una fneg (kd (.int 1))))) (notB (tst (cal 2 dn_law_ints (aC (bin fix (vb 6) (kd (.int 1))) (aC (cal 3 dn_law_between (aC (vr 1) (aC (vr 9) (aC (vr 10) aN)))) aN))))))
  (ret (kd (.bl false)))
  nxt)
  (sq bad
  (ret (cal 2 dn_law_ints (aC (cal 3 (lsD dn_between) (aC (vr 2) (aC (vr 9) (aC (vr 10) aN)))) (aC (cal 3 dn_law_between (aC (vr 1) (aC (vr 9) (aC (vr 10) aN)))) aN)))))))
  (ifN 6 (orB (notB (tst (chn (fun i j => decide (i ≤ j)) (fun i j => decide (i < j)) (kd (.int 0)) (vb 9) (vb 8)))) (notB (tst (chn (fun i j => decide (i ≤ j)) (fun i j => decide (i < j)) (kd (.int 0)) (vb 10) (vb 8))))) (bin feq (vb 6) (eT (aC (kd (.int 2)) (aC (kd .non) aN))))
  (ifN 6 (orB (tst (bin fne (bin fix (vb 6) (kd (.int 0))) (una fneg (kd (.int 1))))) (notB (tst (cal 2 dn_law_ints (aC (bin fix (vb 6) (kd (.int 1))) (aC (cal 3 dn_law_between (aC (vr 1) (aC (vr 9) (aC (vr 10) aN)))) aN)))))) (kd (.bl false))
  (appN 6
  (ret (cal 2 dn_law_ints (aC (cal 3 (lsD dn_between) (aC (vr 2) (aC (vr 9) (aC (vr 10) aN)))) (aC (cal 3 dn_law_between (aC (vr 1) (aC (vr 9) (aC (vr 10) aN)))) aN))))))))))))))))
noncomputable def dn_law (ds : List D) : R D := fin (den_law (st0 N_law ds))
theorem body_law {f : Addr} (fn_law_between : Fn P w K mg base C 1 "_law_between" 3 dn_law_between) (fn_law_hall : Fn P w K mg base C 6 "_law_hall" 1 dn_law_hall) (fn_law_ints : Fn P w K mg base C 1 "_law_ints" 2 dn_law_ints) (fn_law_met : FnP P w K mg base C 4 "_law_met" 4 dn_law_met) (fn_law_number : Fn P w K mg base C 2 "_law_number" 3 dn_law_number) (fn_law_parts : Fn P w K mg base C 3 "_law_parts" 2 dn_law_parts) (fn_law_whole : Fn P w K mg base C 1 "_law_whole" 1 dn_law_whole) (fn_between : FnF P w K mg base C 3 "between" 3 dn_between) (T : Txt K mg C) (cdv : Value) (A : Around) (outer : List Env) (s : Shared) (H : Hp) (E : XK) (hr : Room 6 (A.deeper (envOfC "law" (defScope s_law) s.heap.objs.size f cdv))) :
    SDs C (cxOf CX0 P w K mg base N_law "law" (defScope s_law) f cdv A outer s H E).nox (defBody s_law) den_law :=
  (sds_cons (sd_set (i := 1) sc_law.nd rfl (Or.inl rfl) (ed_fnA fn_law_parts (hr.mono (by decide)) rfl (ad_cons (ed_var (pv 0)) (ad_cons ed_int ad_nil st_Constant) st_Name) (he := st_Name) (hpl := (pl_cons st_Constant pl_nil))))
  (sds_cons (sd_set (i := 2) sc_law.nd rfl (Or.inl rfl) (ed_fnA fn_law_hall (hr.mono (by decide)) rfl (ad_cons (ed_var (pv 1)) ad_nil st_Name) (he := st_Name) (hpl := pl_nil)))
  (sds_cons (sd_set (i := 3) sc_law.nd rfl (Or.inl rfl) (ed_len (EB.of (ed_at (eb_var (pv 1)) (EB.of ed_int))) rfl T.len st_Subscript (fun t ha => pe_callB call_len_seq rfl T.len PySem.boot_len ha (he := st_Subscript) (hpl := pl_nil))))
  (sds_cons (sd_par (ad_cons (ed_fnA fn_law_number (hr.mono (by decide)) rfl (ad_cons (ed_var (pv 0)) (ad_cons ed_int (ad_cons (ed_var (pv 3)) ad_nil st_Name) st_Constant) st_Name) (he := st_Name) (hpl := (pl_cons st_Constant (pl_cons st_Name pl_nil)))) (ad_cons (ed_fnA fn_law_number (hr.mono (by decide)) rfl (ad_cons (ed_var (pv 0)) (ad_cons ed_int (ad_cons (ed_var (pv 3)) ad_nil st_Name) st_Constant) st_Name) (he := st_Name) (hpl := (pl_cons st_Constant (pl_cons st_Name pl_nil)))) ad_nil st_Call) st_Call) (fun ha => ps_par rfl sc_law.nd rfl rfl (by decide) rfl rfl ha rfl))
  (sds_cons (sd_set (i := 6) sc_law.nd rfl (Or.inl rfl) (ed_fnA fn_law_met.fn (hr.mono (by decide)) rfl (ad_cons (ed_var (pv 2)) (ad_cons ed_int (ad_cons (ed_var (pv 4)) (ad_cons (ed_var (pv 5)) ad_nil st_Name) st_Name) st_Constant) st_Name) (he := st_Name) (hpl := (pl_cons st_Constant (pl_cons st_Name (pl_cons st_Name pl_nil))))))
  (sds_cons (sd_if (td_w (wd_or (td_not (td_chain (f := fun i j => decide (i ≤ j)) (g := fun i j => decide (i < j)) op_le op_lt (EB.of ed_int) (eb_var (pv 4)) (eb_var (pv 3)))) (wd_or1 (td_not (td_chain (f := fun i j => decide (i ≤ j)) (g := fun i j => decide (i < j)) op_le op_lt (EB.of ed_int) (eb_var (pv 5)) (eb_var (pv 3)))))))
  (sds_one (sd_if (td_ne (room9 hr) (eb_var (pv 6)) (EB.of (ed_tup (ad_cons ed_int (ad_cons ed_non ad_nil st_Constant) st_Constant))))
  (sds_one (sd_ret ed_bl))
  sds_nil))
  (sds_cons (sd_set (i := 7) sc_law.nd rfl (Or.inl rfl) (ed_at (EB.of (ed_at (EB.of (ed_at (eb_var (pv 1)) (EB.of ed_int))) (eb_var (pv 4)))) (eb_var (pv 5))))
  (sds_cons (sd_if (td_w (wd_or (td_ne (room9 hr) (EB.of (ed_at (eb_var (pv 6)) (EB.of ed_int))) (EB.of (ed_neg (EB.of ed_int)))) (wd_or1 (td_w (wd_and (td_lt (eb_var (pv 7)) (EB.of ed_int)) (wd_and1 (td_notN (EB.of (ed_at (eb_var (pv 6)) (EB.of ed_int))))))))))
  (sds_one (sd_ret ed_bl))
  sds_nil)
  (sds_one (sd_if (td_w (wd_and (td_ge (eb_var (pv 7)) (EB.of ed_int)) (wd_and1 (td_w (wd_or (td_not (td_val (ed_fnA fn_law_whole (hr.mono (by decide)) rfl (ad_cons (ed_at (eb_var (pv 6)) (EB.of ed_int)) ad_nil st_Subscript) (he := st_Subscript) (hpl := pl_nil)))) (wd_or1 (td_ne (room9 hr) (EB.of (ed_at (eb_var (pv 6)) (EB.of ed_int))) (eb_var (pv 7)))))))))
  (sds_one (sd_ret ed_bl))
  sds_nil)))))
  (sds_cons (sd_set (i := 8) sc_law.nd rfl (Or.inl rfl) (ed_len (EB.of (ed_at (eb_var (pv 1)) (EB.of ed_int))) rfl T.len st_Subscript (fun t ha => pe_callB call_len_seq rfl T.len PySem.boot_len ha (he := st_Subscript) (hpl := pl_nil))))
  (sds_cons (sd_par (ad_cons (ed_fnA fn_law_number (hr.mono (by decide)) rfl (ad_cons (ed_var (pv 0)) (ad_cons ed_int (ad_cons (ed_var (pv 8)) ad_nil st_Name) st_Constant) st_Name) (he := st_Name) (hpl := (pl_cons st_Constant (pl_cons st_Name pl_nil)))) (ad_cons (ed_fnA fn_law_number (hr.mono (by decide)) rfl (ad_cons (ed_var (pv 0)) (ad_cons ed_int (ad_cons (ed_var (pv 8)) ad_nil st_Name) st_Constant) st_Name) (he := st_Name) (hpl := (pl_cons st_Constant (pl_cons st_Name pl_nil)))) ad_nil st_Call) st_Call) (fun ha => ps_par rfl sc_law.nd rfl rfl (by decide) rfl rfl ha rfl))
  (sds_new (i := 6) sc_law.nd rfl (Or.inl rfl) (pe_fnP fn_law_met (hr.mono (by decide)) rfl (ad_cons (ed_var (pv 2)) (ad_cons ed_int (ad_cons (ed_var (pv 9)) (ad_cons (ed_var (pv 10)) ad_nil st_Name) st_Name) st_Constant) st_Name) rfl (he := st_Name) (hpl := (pl_cons st_Constant (pl_cons st_Name (pl_cons st_Name pl_nil)))))
  (sds_cons (sd_if (td_w (wd_or (td_not (td_chain (f := fun i j => decide (i ≤ j)) (g := fun i j => decide (i < j)) op_le op_lt (EB.of ed_int) (eb_var (pv 9)) (eb_var (pv 8)))) (wd_or1 (td_not (td_chain (f := fun i j => decide (i ≤ j)) (g := fun i j => decide (i < j)) op_le op_lt (EB.of ed_int) (eb_var (pv 10)) (eb_var (pv 8)))))))
  (sds_one (sd_ret (ed_eq (room9 hr) (eb_var (pv 6)) (EB.of (ed_tup (ad_cons ed_int (ad_cons ed_non ad_nil st_Constant) st_Constant))))))
  sds_nil)
  (sds_cons (sd_if (td_w (wd_or (td_ne (room9 hr) (EB.of (ed_at (eb_var (pv 6)) (EB.of ed_int))) (EB.of (ed_neg (EB.of ed_int)))) (wd_or1 (td_not (td_val (ed_fnA fn_law_ints (hr.mono (by decide)) rfl (ad_cons (ed_at (eb_var (pv 6)) (EB.of ed_int)) (ad_cons (ed_fnA fn_law_between (hr.mono (by decide)) rfl (ad_cons (ed_var (pv 1)) (ad_cons (ed_var (pv 9)) (ad_cons (ed_var (pv 10)) ad_nil st_Name) st_Name) st_Name) (he := st_Name) (hpl := (pl_cons st_Name (pl_cons st_Name pl_nil)))) ad_nil st_Call) st_Subscript) (he := st_Subscript) (hpl := (pl_cons st_Call pl_nil))))))))
  (sds_one (sd_ret ed_bl))
  sds_nil)
  (sds_cons sd_bad
  (sds_one (sd_ret (ed_fnA fn_law_ints (hr.mono (by decide)) rfl (ad_cons (ed_fnA fn_between.x.fn (hr.mono (by decide)) rfl (ad_cons (ed_var (pv 2)) (ad_cons (ed_var (pv 9)) (ad_cons (ed_var (pv 10)) ad_nil st_Name) st_Name) st_Name) (he := st_Name) (hpl := (pl_cons st_Name (pl_cons st_Name pl_nil)))) (ad_cons (ed_fnA fn_law_between (hr.mono (by decide)) rfl (ad_cons (ed_var (pv 1)) (ad_cons (ed_var (pv 9)) (ad_cons (ed_var (pv 10)) ad_nil st_Name) st_Name) st_Name) (he := st_Name) (hpl := (pl_cons st_Name (pl_cons st_Name pl_nil)))) ad_nil st_Call) st_Call) (he := st_Call) (hpl := (pl_cons st_Call pl_nil))))))))
  (sn_if (td_w (wd_or (td_not (td_chain (f := fun i j => decide (i ≤ j)) (g := fun i j => decide (i < j)) op_le op_lt (EB.of ed_int) (eb_var (pv 9)) (eb_var (pv 8)))) (wd_or1 (td_not (td_chain (f := fun i j => decide (i ≤ j)) (g := fun i j => decide (i < j)) op_le op_lt (EB.of ed_int) (eb_var (pv 10)) (eb_var (pv 8))))))) (ed_eq (room9 hr) (eb_var (pv 6)) (EB.of (ed_tup (ad_cons ed_int (ad_cons ed_non ad_nil st_Constant) st_Constant))))
  (sn_if (td_w (wd_or (td_ne (room9 hr) (EB.of (ed_at (eb_var (pv 6)) (EB.of ed_int))) (EB.of (ed_neg (EB.of ed_int)))) (wd_or1 (td_not (td_val (ed_fnA fn_law_ints (hr.mono (by decide)) rfl (ad_cons (ed_at (eb_var (pv 6)) (EB.of ed_int)) (ad_cons (ed_fnA fn_law_between (hr.mono (by decide)) rfl (ad_cons (ed_var (pv 1)) (ad_cons (ed_var (pv 9)) (ad_cons (ed_var (pv 10)) ad_nil st_Name) st_Name) st_Name) (he := st_Name) (hpl := (pl_cons st_Name (pl_cons st_Name pl_nil)))) ad_nil st_Call) st_Subscript) (he := st_Subscript) (hpl := (pl_cons st_Call pl_nil)))))))) ed_bl
  (sn_app (pv 6)
  (sds_one (sd_ret (ed_fnA fn_law_ints (hr.mono (by decide)) rfl (ad_cons (ed_fnA fn_between.x.fn (hr.mono (by decide)) rfl (ad_cons (ed_var (pv 2)) (ad_cons (ed_var (pv 9)) (ad_cons (ed_var (pv 10)) ad_nil st_Name) st_Name) st_Name) (he := st_Name) (hpl := (pl_cons st_Name (pl_cons st_Name pl_nil)))) (ad_cons (ed_fnA fn_law_between (hr.mono (by decide)) rfl (ad_cons (ed_var (pv 1)) (ad_cons (ed_var (pv 9)) (ad_cons (ed_var (pv 10)) ad_nil st_Name) st_Name) st_Name) (he := st_Name) (hpl := (pl_cons st_Name (pl_cons st_Name pl_nil)))) ad_nil st_Call) st_Call) (he := st_Call) (hpl := (pl_cons st_Call pl_nil)))))))))))))))))
end DL

set_option Elab.async false
set_option linter.all false
set_option maxRecDepth 100000
set_option maxHeartbeats 1000000
namespace DL
open PySem L2 Ar
set_option autoImplicit false
theorem ev_is_below (a b : Int) : dn_is_below [.int a, .int b] = .val (.bl (decide (0 ≤ a) && decide (a < b))) := by
  simp only [dn_is_below, den_is_below]
  show fin (ret _ [some (.shr (.int a)), some (.shr (.int b))]) = _
  by_cases h : (0 : Int) ≤ a <;> simp [h]
theorem below_nat {a b : Nat} (h : a < b) : dn_is_below [.int (a : Int), .int (b : Int)] = .val (.bl true) := by
  rw [ev_is_below]; simp; exact h
section
variable {en : List (Nat × Nat)} {re : List Nat} {tb : List (List Int)}
theorem ev_check_counts (h : HallN en re tb) : dn_check_counts [ensD en, resD re] = .val .non := by
  have h1 := h.nb1; have h2 := h.nb6; have h3 := h.na1; have h4 := h.na40
  simp only [dn_check_counts, den_check_counts]
  show fin (sq _ _ [some (.shr (ensD en)), some (.shr (resD re))]) = _
  have a1 : (1 : Int) ≤ re.length := by omega
  have a2 : (re.length : Int) ≤ 6 := by omega
  have a3 : (1 : Int) ≤ en.length := by omega
  have a4 : (en.length : Int) ≤ 40 := by omega
  simp [a1, a2, a3, a4]
theorem ens_at {k : Nat} {x : D} (e : (en.map endD)[k]? = some x) : k < en.length ∧ x = endD (en.getD k (0, 0)) := by
  have hk : k < en.length := by have := (List.getElem?_eq_some_iff.mp e).1; simpa using this
  rw [map_at (d := (0, 0)) hk] at e
  exact ⟨hk, (Option.some.inj e).symm⟩
theorem res_at {k : Nat} {x : D} (e : (re.map nD)[k]? = some x) : k < re.length ∧ x = nD (re.getD k 0) := by
  have hk : k < re.length := by have := (List.getElem?_eq_some_iff.mp e).1; simpa using this
  rw [map_at (d := 0) hk] at e
  exact ⟨hk, (Option.some.inj e).symm⟩
theorem tab_at {k : Nat} {x : D} (e : (tb.map rowD)[k]? = some x) : k < tb.length ∧ x = rowD (tb.getD k []) := by
  have hk : k < tb.length := by have := (List.getElem?_eq_some_iff.mp e).1; simpa using this
  rw [map_at (d := []) hk] at e
  exact ⟨hk, (Option.some.inj e).symm⟩
theorem row_at {r : List Int} {k : Nat} {x : D} (e : (r.map D.int)[k]? = some x) : k < r.length ∧ x = .int (r.getD k (-1)) := by
  have hk : k < r.length := by have := (List.getElem?_eq_some_iff.mp e).1; simpa using this
  rw [map_at (d := -1) hk] at e
  exact ⟨hk, (Option.some.inj e).symm⟩
theorem keep {F : Rho → R Out} {ρ1 : Rho} {I : Rho → Prop} (h : F ρ1 = .val (.nx ρ1)) (hI : I ρ1) : ∃ ρ2, F ρ1 = .val (.nx ρ2) ∧ I ρ2 := ⟨ρ1, h, hI⟩
theorem fin_enu {F : Rho → R Out} {i j : Nat} {xs : List D} {ρ : Rho} (I : Rho → Prop) (step : ∀ (k : Nat) x ρ, xs[k]? = some x → I ρ → ∃ ρ2, F ((ρ.set i (some (.shr (.int (k : Int))))).set j (some (.shr x))) = .val (.nx ρ2) ∧ I ρ2) (h : I ρ) : fin (loopD (tg2 i j) F (enu 0 xs) ρ) = .val .non := by
  obtain ⟨ρ', e, _⟩ := loop_enu I step h
  rw [e]; rfl
theorem ev_check_ends (h : HallN en re tb) : dn_check_ends [ensD en, .int re.length] = .val .non := by
  simp only [dn_check_ends, den_check_ends]
  show fin (loopD (tg2 2 3) _ (enu 0 (en.map endD)) [some (.shr (ensD en)), some (.shr (.int re.length)), none, none]) = _
  refine fin_enu (fun ρ => ∃ a b, ρ = [some (.shr (ensD en)), some (.shr (.int re.length)), a, b]) (fun k x ρ ex hI => ?_) ⟨none, none, rfl⟩
  obtain ⟨a, b, rfl⟩ := hI
  obtain ⟨hk, rfl⟩ := ens_at ex
  obtain ⟨b1, b2⟩ := h.eb k hk
  refine keep ?_ ⟨_, _, rfl⟩
  simp [-List.getD_eq_getElem?_getD, below_nat b1, below_nat b2]
theorem ev_check_rests (h : HallN en re tb) : dn_check_rests [ensD en, resD re] = .val .non := by
  simp only [dn_check_rests, den_check_rests]
  show fin (loopD (tg2 2 3) _ (enu 0 (re.map nD)) [some (.shr (ensD en)), some (.shr (resD re)), none, none]) = _
  refine fin_enu (fun ρ => ∃ a b, ρ = [some (.shr (ensD en)), some (.shr (resD re)), a, b]) (fun k x ρ ex hI => ?_) ⟨none, none, rfl⟩
  obtain ⟨a, b, rfl⟩ := hI
  obtain ⟨hk, rfl⟩ := res_at ex
  obtain ⟨b1, b2⟩ := h.rs k hk
  have e2 : fne (endD (en.getD (re.getD k 0) (0, 0))) (.tup [.int (k : Int), .int (k : Int)]) = .val (.bl false) := by
    rw [b2]; exact fne_same (x := endD (k, k)) (pln_end _)
  refine keep ?_ ⟨_, _, rfl⟩
  simp [-List.getD_eq_getElem?_getD, below_nat b1, fix_ens b1, e2]
theorem ev_check_form (h : HallN en re tb) : dn_check_form [tabD tb, .int en.length] = .val .non := by
  simp only [dn_check_form, den_check_form]
  have ht := h.tl
  have : sq (DL.iff (tst (bin fne (una flen (vb 0)) (vb 1))) bad nxt) (forS (fEnu (aC (vr 0) aN)) (tg2 2 3) (DL.iff (tst (bin fne (una flen (vb 3)) (vb 1))) bad nxt)) (st0 N_check_form [tabD tb, .int en.length]) = loopD (tg2 2 3) (DL.iff (tst (bin fne (una flen (vb 3)) (vb 1))) bad nxt) (enu 0 (tb.map rowD)) [some (.shr (tabD tb)), some (.shr (.int en.length)), none, none] := by
    show sq _ _ [some (.shr (tabD tb)), some (.shr (.int en.length)), none, none] = _
    simp [ht]; rfl
  rw [this]
  refine fin_enu (fun ρ => ∃ a b, ρ = [some (.shr (tabD tb)), some (.shr (.int en.length)), a, b]) (fun k x ρ ex hI => ?_) ⟨none, none, rfl⟩
  obtain ⟨a, b, rfl⟩ := hI
  obtain ⟨hk, rfl⟩ := tab_at ex
  have b1 := h.rl k (by omega)
  refine keep ?_ ⟨_, _, rfl⟩
  simp [-List.getD_eq_getElem?_getD, b1]
theorem ev_check_entry (h : HallN en re tb) {i j : Nat} (hi : i < en.length) (hj : j < en.length) : dn_check_entry [ensD en, .int (i : Int), .int (j : Int), .int ((tb.getD i []).getD j (-1))] = .val .non := by
  simp only [dn_check_entry, den_check_entry]
  show fin (DL.iff _ _ _ [some (.shr (ensD en)), some (.shr (.int (i : Int))), some (.shr (.int (j : Int))), some (.shr (.int ((tb.getD i []).getD j (-1))))]) = _
  by_cases e : (en.getD i (0, 0)).2 = (en.getD j (0, 0)).1
  · obtain ⟨k, k1, k2, k3⟩ := h.tp i j hi hj e
    have e2 : fne (endD (en.getD k (0, 0))) (.tup [nD (en.getD i (0, 0)).1, nD (en.getD j (0, 0)).2]) = .val (.bl false) := by
      rw [k3]; exact fne_same (x := endD _) (pln_end _)
    rw [k2]
    simp [-List.getD_eq_getElem?_getD, fix_ens hi, fix_ens hj, e, below_nat k1, fix_ens k1, e2]
  · have e1 := h.tn i j hi hj e
    have e' : ((en.getD i (0, 0)).2 : Int) ≠ ((en.getD j (0, 0)).1 : Int) := by omega
    rw [e1]
    simp [-List.getD_eq_getElem?_getD, fix_ens hi, fix_ens hj, e']
theorem ev_check_table (h : HallN en re tb) : dn_check_table [ensD en, tabD tb] = .val .non := by
  simp only [dn_check_table, den_check_table]
  show fin (loopD (tg2 2 3) _ (enu 0 (tb.map rowD)) [some (.shr (ensD en)), some (.shr (tabD tb)), none, none, none, none]) = _
  refine fin_enu (fun ρ => ∃ a b c d, ρ = [some (.shr (ensD en)), some (.shr (tabD tb)), a, b, c, d]) (fun k x ρ ex hI => ?_) ⟨none, none, none, none, rfl⟩
  obtain ⟨a, b, c, d, rfl⟩ := hI
  obtain ⟨hk, rfl⟩ := tab_at ex
  have hk' : k < en.length := by have := h.tl; omega
  show ∃ ρ2, loopD (tg2 4 5) _ (enu 0 ((tb.getD k []).map D.int)) [some (.shr (ensD en)), some (.shr (tabD tb)), some (.shr (.int (k : Int))), some (.shr (rowD (tb.getD k []))), c, d] = _ ∧ _
  have := loop_enu (i := 4) (j := 5) (F := drp (cal 4 dn_check_entry (aC (vr 0) (aC (vr 2) (aC (vr 4) (aC (vr 5) aN)))))) (fun ρ => ∃ c d, ρ = [some (.shr (ensD en)), some (.shr (tabD tb)), some (.shr (.int (k : Int))), some (.shr (rowD (tb.getD k []))), c, d]) (xs := (tb.getD k []).map D.int) (fun m x ρ ex hI => ?_) (ρ := [some (.shr (ensD en)), some (.shr (tabD tb)), some (.shr (.int (k : Int))), some (.shr (rowD (tb.getD k []))), c, d]) ⟨c, d, rfl⟩
  · obtain ⟨ρ', e, c', d', rfl⟩ := this
    exact ⟨_, e, _, _, _, _, rfl⟩
  · obtain ⟨c, d, rfl⟩ := hI
    obtain ⟨hm, rfl⟩ := row_at ex
    have hm' : m < en.length := by rw [h.rl k hk'] at hm; exact hm
    refine keep ?_ ⟨_, _, rfl⟩
    simp [-List.getD_eq_getElem?_getD, ev_check_entry h hk' hm']
theorem ent_cases (h : HallN en re tb) {i j : Nat} (hi : i < en.length) (hj : j < en.length) : (tb.getD i []).getD j (-1) = -1 ∨ ∃ k : Nat, k < en.length ∧ (tb.getD i []).getD j (-1) = (k : Int) := by
  by_cases e : (en.getD i (0, 0)).2 = (en.getD j (0, 0)).1
  · obtain ⟨k, k1, k2, _⟩ := h.tp i j hi hj e
    exact .inr ⟨k, k1, k2⟩
  · exact .inl (h.tn i j hi hj e)
theorem ent_fol (h : HallN en re tb) {i j k : Nat} (hi : i < en.length) (hj : j < en.length) (e : (tb.getD i []).getD j (-1) = (k : Int)) : (en.getD i (0, 0)).2 = (en.getD j (0, 0)).1 ∧ k < en.length ∧ en.getD k (0, 0) = ((en.getD i (0, 0)).1, (en.getD j (0, 0)).2) := by
  by_cases e0 : (en.getD i (0, 0)).2 = (en.getD j (0, 0)).1
  · obtain ⟨k', k1, k2, k3⟩ := h.tp i j hi hj e0
    have : k' = k := by rw [k2] at e; omega
    subst this
    exact ⟨e0, k1, k3⟩
  · rw [h.tn i j hi hj e0] at e; omega
theorem ev_check_beside_rests (h : HallN en re tb) : dn_check_beside_rests [ensD en, resD re, tabD tb] = .val .non := by
  simp only [dn_check_beside_rests, den_check_beside_rests]
  show fin (loopD (tg2 3 4) _ (enu 0 (en.map endD)) [some (.shr (ensD en)), some (.shr (resD re)), some (.shr (tabD tb)), none, none]) = _
  refine fin_enu (fun ρ => ∃ a b, ρ = [some (.shr (ensD en)), some (.shr (resD re)), some (.shr (tabD tb)), a, b]) (fun k x ρ ex hI => ?_) ⟨none, none, rfl⟩
  obtain ⟨a, b, rfl⟩ := hI
  obtain ⟨hk, rfl⟩ := ens_at ex
  obtain ⟨b1, b2⟩ := h.eb k hk
  have r1 := (h.rs _ b1).1
  have r2 := (h.rs _ b2).1
  have u1 := h.ul k hk
  have u2 := h.ur k hk
  have ht := h.tl
  have t1 := fix_tab (tb := tb) (show re.getD (en.getD k (0, 0)).1 0 < tb.length by omega)
  have t2 := fix_tab (tb := tb) (show k < tb.length by omega)
  have t3 := fix_row (r := tb.getD (re.getD (en.getD k (0, 0)).1 0) []) (i := k) (by rw [h.rl _ r1]; exact hk)
  have t4 := fix_row (r := tb.getD k []) (i := re.getD (en.getD k (0, 0)).2 0) (by rw [h.rl _ hk]; exact r2)
  refine keep ?_ ⟨_, _, rfl⟩
  simp [-List.getD_eq_getElem?_getD, fix_res b1, fix_res b2, t1, t2, t3, t4, u1, u2]
theorem ev_check_thirds (h : HallN en re tb) {i j x : Nat} (hi : i < en.length) (hj : j < en.length) (e : (tb.getD i []).getD j (-1) = (x : Int)) : dn_check_thirds [tabD tb, .int (i : Int), .int (j : Int), .int (x : Int)] = .val .non := by
  simp only [dn_check_thirds, den_check_thirds]
  have ht := h.tl
  obtain ⟨_, hx, _⟩ := ent_fol h hi hj e
  have t1 := fix_tab (tb := tb) (show i < tb.length by omega)
  have t2 := fix_tab (tb := tb) (show j < tb.length by omega)
  have t3 := fix_tab (tb := tb) (show x < tb.length by omega)
  have : ∀ F, forS (fEnu (aC (bin fix (vb 0) (vb 2)) aN)) (tg2 4 5) F (st0 N_check_thirds [tabD tb, .int (i : Int), .int (j : Int), .int (x : Int)]) = loopD (tg2 4 5) F (enu 0 ((tb.getD j []).map D.int)) [some (.shr (tabD tb)), some (.shr (.int (i : Int))), some (.shr (.int (j : Int))), some (.shr (.int (x : Int))), none, none] := fun F => by
    show forS _ _ F [some (.shr (tabD tb)), some (.shr (.int (i : Int))), some (.shr (.int (j : Int))), some (.shr (.int (x : Int))), none, none] = _
    simp [-List.getD_eq_getElem?_getD, t2]; rfl
  rw [this]
  refine fin_enu (fun ρ => ∃ a b, ρ = [some (.shr (tabD tb)), some (.shr (.int (i : Int))), some (.shr (.int (j : Int))), some (.shr (.int (x : Int))), a, b]) (fun k d ρ ex hI => ?_) ⟨none, none, rfl⟩
  obtain ⟨a, b, rfl⟩ := hI
  obtain ⟨hk, rfl⟩ := row_at ex
  rw [h.rl j hj] at hk
  refine keep ?_ ⟨_, _, rfl⟩
  rcases ent_cases h hj hk with ey | ⟨y, hy, ey⟩
  · rw [ey]; simp
  · rw [ey]
    have as := h.as i j k x y hi hj hk e ey
    have t4 := fix_row (r := tb.getD x []) (i := k) (by rw [h.rl _ hx]; exact hk)
    have t5 := fix_row (r := tb.getD i []) (i := y) (by rw [h.rl _ hi]; exact hy)
    have ny : (y : Int) ≠ -1 := by omega
    simp [-List.getD_eq_getElem?_getD, t1, t3, t4, t5, as, ny]
theorem ev_check_threes (h : HallN en re tb) : dn_check_threes [tabD tb] = .val .non := by
  simp only [dn_check_threes, den_check_threes]
  show fin (loopD (tg2 1 2) _ (enu 0 (tb.map rowD)) [some (.shr (tabD tb)), none, none, none, none]) = _
  refine fin_enu (fun ρ => ∃ a b c d, ρ = [some (.shr (tabD tb)), a, b, c, d]) (fun k x ρ ex hI => ?_) ⟨none, none, none, none, rfl⟩
  obtain ⟨a, b, c, d, rfl⟩ := hI
  obtain ⟨hk, rfl⟩ := tab_at ex
  have hk' : k < en.length := by have := h.tl; omega
  have := loop_enu (i := 3) (j := 4) (F := DL.iff (tst (bin fne (vb 4) (una fneg (kd (.int 1))))) (drp (cal 4 dn_check_thirds (aC (vr 0) (aC (vr 1) (aC (vr 3) (aC (vr 4) aN)))))) nxt) (fun ρ => ∃ c d, ρ = [some (.shr (tabD tb)), some (.shr (.int (k : Int))), some (.shr (rowD (tb.getD k []))), c, d]) (xs := (tb.getD k []).map D.int) (fun m x ρ ex hI => ?_) (ρ := [some (.shr (tabD tb)), some (.shr (.int (k : Int))), some (.shr (rowD (tb.getD k []))), c, d]) ⟨c, d, rfl⟩
  · obtain ⟨ρ', e, c', d', rfl⟩ := this
    exact ⟨_, e, _, _, _, _, rfl⟩
  · obtain ⟨c, d, rfl⟩ := hI
    obtain ⟨hm, rfl⟩ := row_at ex
    have hm' : m < en.length := by rw [h.rl k hk'] at hm; exact hm
    refine keep ?_ ⟨_, _, rfl⟩
    rcases ent_cases h hk' hm' with ey | ⟨y, hy, ey⟩
    · rw [ey]; simp
    · have := ev_check_thirds h hk' hm' ey
      rw [ey]
      have ny : (y : Int) ≠ -1 := by omega
      simp [-List.getD_eq_getElem?_getD, this, ny]
theorem ev_Hall (h : HallN en re tb) : den_Hall (rho3 (ensD en) (resD re) (tabD tb)) = .val (.ob (ensD en) (resD re) (tabD tb)) := by
  have n1 := h.na40
  have n2 := h.tl
  have hf : fCmp (fIt (vr 3)) 1 (tgN 4) tT (eLs (fIt (vb 4))) (rho3 (ensD en) (resD re) (tabD tb)) = .val (tb.map rowD) := fCmp_lst (f := rowD) rfl (by omega) fun r _ => rfl
  unfold den_Hall denI
  rw [hf]
  unfold rho3
  simp [-List.getD_eq_getElem?_getD, allV, ev_check_counts h, ev_check_ends h, ev_check_rests h, ev_check_form h, ev_check_table h, ev_check_beside_rests h, ev_check_threes h]
  rfl
end
end DL

set_option Elab.async false
set_option linter.all false
set_option maxRecDepth 100000
set_option maxHeartbeats 1000000
namespace DL
open PySem L2 Ar
set_option autoImplicit false
theorem ev_cell (ns : List Int) (k : Nat) : ∃ c : Int, dn_law_cell [.scr ns, .int (k : Int)] = .val (.int c) := by
  simp only [dn_law_cell, den_law_cell]
  have m1 : ∀ i : Int, fmod i 65521 = .val (.int (i % 65521)) := fun i => fmod_ok (by decide)
  have m2 : ∀ i : Int, fmul i 48271 = .val (.int (i * 48271)) := fun i => fmul_ok (by decide)
  have m3 : ∀ i : Int, fmul i 30103 = .val (.int (i * 30103)) := fun i => fmul_ok (by decide)
  show ∃ c, fin (sq _ _ [some (.shr (.scr ns)), some (.shr (.int (k : Int))), none]) = _
  have t1 : tst (bin (iI flt) (vb 1) (una flen (vb 0))) [some (.shr (.scr ns)), some (.shr (.int (k : Int))), none] = .val (decide ((k : Int) < (ns.length : Int))) := Eq.trans rfl rfl
  rw [sq_ev, iff_ev, t1, bind_val]
  by_cases h : k < ns.length
  · have e : fix (.scr ns) (.int (k : Int)) = .val (.int ns[k]) := fix_s (List.getElem?_eq_getElem h)
    refine ⟨ns[k], ?_⟩
    rw [if_pos (decide_eq_true (Int.ofNat_lt.mpr h)), ret_ev, bin_ev]
    show fin (R.bind (R.bind (fix (.scr ns) (.int (k : Int))) _) _) = _
    rw [e]; rfl
  · rw [if_neg (by rw [decide_eq_false (fun z => h (Int.ofNat_lt.mp z))]; decide), nxt_ev, bind_val]
    dsimp only
    have t2 : tst (bin (iI fgt) (una flen (vb 0)) (kd (.int 0))) [some (.shr (.scr ns)), some (.shr (.int (k : Int))), some (.shr (.int 0))] = .val (decide ((0 : Int) < (ns.length : Int))) := Eq.trans rfl rfl
    have last : ∀ b : Int, ret (bin (iI fmod) (bin fadd (bin (iI fmul) (bin (iI fmod) (vb 2) (kd (.int 65521))) (kd (.int 48271))) (bin (iI fmul) (vb 1) (kd (.int 30103)))) (kd (.int 65521))) [some (.shr (.scr ns)), some (.shr (.int (k : Int))), some (.shr (.int b))] = .val (.rt (.int ((b % 65521 * 48271 + k * 30103) % 65521))) := fun b => by
      have v2 : vb 2 [some (.shr (.scr ns)), some (.shr (.int (k : Int))), some (.shr (.int b))] = .val (.int b) := Eq.trans rfl rfl
      have v1 : vb 1 [some (.shr (.scr ns)), some (.shr (.int (k : Int))), some (.shr (.int b))] = .val (.int (k : Int)) := Eq.trans rfl rfl
      rw [ret_ev, bin_ev _ (iI fmod), bin_ev _ fadd, bin_ev _ (iI fmul), bin_ev _ (iI fmod), v2, bind_val, kd_ev, bind_val, iI_ev, m1, bind_val, kd_ev, bind_val, iI_ev, m2, bind_val, bin_ev _ (iI fmul), v1, bind_val, kd_ev, bind_val, iI_ev, m3, bind_val, fadd_ii, bind_val, bind_val, iI_ev, m1, bind_val]
    have a2 : asg 2 (kd (.int 0)) [some (.shr (.scr ns)), some (.shr (.int (k : Int))), none] = .val (.nx [some (.shr (.scr ns)), some (.shr (.int (k : Int))), some (.shr (.int 0))]) := Eq.trans rfl rfl
    rw [sq_ev, a2, bind_val]
    dsimp only
    rw [sq_ev, iff_ev, t2, bind_val]
    by_cases h0 : 0 < ns.length
    · have e : fix (.scr ns) (.int 0) = .val (.int ns[0]) := fix_s (i := 0) (List.getElem?_eq_getElem h0)
      refine ⟨(ns[0] % 65521 * 48271 + k * 30103) % 65521, ?_⟩
      rw [if_pos (decide_eq_true (show (0 : Int) < (ns.length : Int) from Int.ofNat_lt.mpr h0)), asg_ev, bin_ev]
      show fin (R.bind (R.bind (fix (.scr ns) (.int 0)) _) _) = _
      rw [e]
      show fin (ret _ [some (.shr (.scr ns)), some (.shr (.int (k : Int))), some (.shr (.int ns[0]))]) = _
      rw [last]; rfl
    · refine ⟨(0 % 65521 * 48271 + k * 30103) % 65521, ?_⟩
      rw [if_neg (by rw [decide_eq_false (fun (z : (0 : Int) < (ns.length : Int)) => h0 (Int.ofNat_lt.mp z))]; decide), nxt_ev, bind_val]
      dsimp only
      rw [last]; rfl
theorem ev_next (s : Int) : ∃ c : Int, dn_law_next [.int s] = .val (.int c) := by
  simp only [dn_law_next, den_law_next]
  have m1 : ∀ i : Int, fmod i 2147483647 = .val (.int (i % 2147483647)) := fun i => fmod_ok (by decide)
  have m2 : ∀ i : Int, fmul i 48271 = .val (.int (i * 48271)) := fun i => fmul_ok (by decide)
  show ∃ c, fin (ret _ [some (.shr (.int s))]) = _
  refine ⟨(s * 48271 + 11) % 2147483647, ?_⟩
  simp [m1, m2]
theorem szs_case (m : Nat) (h : m = 1 ∨ m = 2 ∨ m = 3 ∨ m = 4) : ∃ sz ∈ szs, D.lst ((List.range m).map fun _ => D.int 1) = resD sz := by
  rcases h with rfl | rfl | rfl | rfl
  · exact ⟨[1], by decide, rfl⟩
  · exact ⟨[1, 1], by decide, rfl⟩
  · exact ⟨[1, 1, 1], by decide, rfl⟩
  · exact ⟨[1, 1, 1, 1], by decide, rfl⟩
noncomputable def l6 : List (List Nat) := [[1, 2], [2, 1], [2, 2], [0, 2], [2], [1]]
noncomputable def l5 : List (List Nat) := [[1, 1, 2], [0, 1, 2], [1, 2, 2], [2, 1, 0], [2, 2]]
theorem l6_in : ∀ i, i < 6 → l6.getD i [] ∈ szs := by decide
theorem l5_in : ∀ i, i < 5 → l5.getD i [] ∈ szs := by decide
theorem emod_nat (c : Int) (m : Nat) (h : 0 < m) : ∃ i : Nat, i < m ∧ c % (m : Int) = (i : Int) := by
  have h' : (0 : Int) < (m : Int) := Int.ofNat_lt.mpr h
  obtain ⟨i, e⟩ := Int.eq_ofNat_of_zero_le (Int.emod_nonneg c (Int.ne_of_gt h'))
  refine ⟨i, ?_, e⟩
  have := Int.emod_lt_of_pos c h'
  rw [e] at this
  exact Int.ofNat_lt.mp this
theorem ev_sizes (ns : List Int) (k : Nat) : ∃ sz ∈ szs, dn_law_sizes [.scr ns, .int (k : Int)] = .val (resD sz) := by
  simp only [dn_law_sizes, den_law_sizes]
  obtain ⟨c, hc⟩ := ev_cell ns k
  have d4 : fdiv c 4 = .val (.int (c / 4)) := fdiv_ok (by decide)
  show ∃ sz ∈ szs, fin (sq _ _ [some (.shr (.scr ns)), some (.shr (.int (k : Int))), none, none]) = _
  have x1 : asg 2 (cal 2 dn_law_cell (aC (vr 0) (aC (vr 1) aN))) [some (.shr (.scr ns)), some (.shr (.int (k : Int))), none, none] = .val (.nx [some (.shr (.scr ns)), some (.shr (.int (k : Int))), some (.shr (.int c)), none]) := by
    rw [asg_ev, cal_ev]
    show R.bind (noex (dn_law_cell [.scr ns, .int (k : Int)])) _ = _
    rw [hc]; rfl
  have x2 : asg 3 (bin (iI fmod) (vb 2) (kd (.int 4))) [some (.shr (.scr ns)), some (.shr (.int (k : Int))), some (.shr (.int c)), none] = .val (.nx [some (.shr (.scr ns)), some (.shr (.int (k : Int))), some (.shr (.int c)), some (.shr (.int (c % 4)))]) := by
    rw [asg_ev, bin_ev]
    show R.bind (fmod c 4) _ = _
    rw [fmod_ok (by decide)]; rfl
  rw [sq_ev, x1, bind_val]; dsimp only
  rw [sq_ev, x2, bind_val]; dsimp only
  have ix : ∀ (w : Int) (m : Int), 0 < m → bin (iI fmod) (bin (iI fdiv) (vb 2) (kd (.int 4))) (kd (.int m)) [some (.shr (.scr ns)), some (.shr (.int (k : Int))), some (.shr (.int c)), some (.shr (.int w))] = .val (.int (c / 4 % m)) := fun w m hm => by
    rw [bin_ev, bin_ev]
    show R.bind (fdiv c 4) _ = _
    rw [d4]
    show fmod (c / 4) m = _
    exact fmod_ok hm
  have ts : ∀ (w : Int) (m : Int), tst (bin feq (vb 3) (kd (.int m))) [some (.shr (.scr ns)), some (.shr (.int (k : Int))), some (.shr (.int c)), some (.shr (.int w))] = .val (decide (w = m)) := fun w m => by
    rw [tst_ev, bin_ev]
    show R.bind (feq (.int w) (.int m)) asB = _
    rw [feq_ii]; rfl
  obtain ⟨i, hi, ei⟩ := emod_nat c 4 (by decide)
  have ei : c % 4 = (i : Int) := ei
  rw [ei]
  match i, hi with
  | 0, _ =>
    obtain ⟨j, hj, ej⟩ := emod_nat (c / 4) 4 (by decide)
    have ej : c / 4 % 4 = (j : Int) := ej
    have hz : rngD [.int (1 + c / 4 % 4)] = .val (rng 0 (1 + j)) := by
      rw [ej]
      have := rngD_nat (n := 1 + j) (Nat.le_trans (Nat.add_le_add_left (Nat.le_of_lt hj) 1) (by decide))
      rw [Int.natCast_add] at this
      exact this
    have hf : fCmp (fRng (aC (bin fadd (kd (.int 1)) (bin (iI fmod) (bin (iI fdiv) (vb 2) (kd (.int 4))) (kd (.int 4)))) aN)) 1 (tgN 4) tT (kd (.int 1)) [some (.shr (.scr ns)), some (.shr (.int (k : Int))), some (.shr (.int c)), some (.shr (.int ((0 : Nat) : Int)))] = .val ((List.range (1 + j)).map fun _ => D.int 1) := by
      refine fCmp_rng ?_ (Nat.le_trans (Nat.add_le_add_left (Nat.le_of_lt hj) 1) (by decide)) fun k _ => rfl
      rw [fRng_ev, aC_ev, bin_ev, kd_ev, bind_val, ix _ 4 (by decide), bind_val, fadd_ii, bind_val, aN_ev, bind_val, bind_val, hz]
    obtain ⟨sz, hs, e⟩ := szs_case (1 + j) (by
      match j, hj with
      | 0, _ => exact .inl rfl
      | 1, _ => exact .inr (.inl rfl)
      | 2, _ => exact .inr (.inr (.inl rfl))
      | 3, _ => exact .inr (.inr (.inr rfl)))
    refine ⟨sz, hs, ?_⟩
    rw [sq_ev, iff_ev, ts, bind_val, if_pos (by decide), ret_ev, eLs_ev, hf, bind_val, bind_val, bind_val]
    exact congrArg R.val e
  | 1, _ =>
    obtain ⟨j, hj, ej⟩ := emod_nat (c / 4) 6 (by decide)
    have ej : c / 4 % 6 = (j : Int) := ej
    refine ⟨_, l6_in j hj, ?_⟩
    have el : eL (aC (eL (aC (kd (.int 1)) (aC (kd (.int 2)) aN))) (aC (eL (aC (kd (.int 2)) (aC (kd (.int 1)) aN))) (aC (eL (aC (kd (.int 2)) (aC (kd (.int 2)) aN))) (aC (eL (aC (kd (.int 0)) (aC (kd (.int 2)) aN))) (aC (eL (aC (kd (.int 2)) aN)) (aC (eL (aC (kd (.int 1)) aN)) aN)))))) [some (.shr (.scr ns)), some (.shr (.int (k : Int))), some (.shr (.int c)), some (.shr (.int ((1 : Nat) : Int)))] = .val (.lst (l6.map resD)) := Eq.trans rfl rfl
    rw [sq_ev, iff_ev, ts, bind_val, if_neg (by decide), nxt_ev, bind_val]; dsimp only
    rw [sq_ev, iff_ev, ts, bind_val, if_pos (by decide), ret_ev, bin_ev, el, bind_val, ix _ 6 (by decide), bind_val, ej, fix_l (map_at (d := []) hj)]
    rfl
  | 2, _ =>
    refine ⟨[3], by decide, ?_⟩
    rw [sq_ev, iff_ev, ts, bind_val, if_neg (by decide), nxt_ev, bind_val]; dsimp only
    rw [sq_ev, iff_ev, ts, bind_val, if_neg (by decide), nxt_ev, bind_val]; dsimp only
    rw [sq_ev, iff_ev, ts, bind_val, if_pos (by decide)]
    exact Eq.trans rfl rfl
  | 3, _ =>
    obtain ⟨j, hj, ej⟩ := emod_nat (c / 4) 5 (by decide)
    have ej : c / 4 % 5 = (j : Int) := ej
    refine ⟨_, l5_in j hj, ?_⟩
    have el : eL (aC (eL (aC (kd (.int 1)) (aC (kd (.int 1)) (aC (kd (.int 2)) aN)))) (aC (eL (aC (kd (.int 0)) (aC (kd (.int 1)) (aC (kd (.int 2)) aN)))) (aC (eL (aC (kd (.int 1)) (aC (kd (.int 2)) (aC (kd (.int 2)) aN)))) (aC (eL (aC (kd (.int 2)) (aC (kd (.int 1)) (aC (kd (.int 0)) aN)))) (aC (eL (aC (kd (.int 2)) (aC (kd (.int 2)) aN))) aN))))) [some (.shr (.scr ns)), some (.shr (.int (k : Int))), some (.shr (.int c)), some (.shr (.int ((3 : Nat) : Int)))] = .val (.lst (l5.map resD)) := Eq.trans rfl rfl
    rw [sq_ev, iff_ev, ts, bind_val, if_neg (by decide), nxt_ev, bind_val]; dsimp only
    rw [sq_ev, iff_ev, ts, bind_val, if_neg (by decide), nxt_ev, bind_val]; dsimp only
    rw [sq_ev, iff_ev, ts, bind_val, if_neg (by decide), nxt_ev, bind_val]; dsimp only
    rw [ret_ev, bin_ev, el, bind_val, ix _ 5 (by decide), bind_val, ej, fix_l (map_at (d := []) hj)]
    rfl
end DL

set_option Elab.async false
set_option linter.all false
set_option maxRecDepth 100000
set_option maxHeartbeats 1000000
namespace DL
open PySem L2 Ar
set_option autoImplicit false
noncomputable def keyA (x : Arr) : KA := ((x.1 : Int), (x.2.1 : Int), x.2.2.map fun (n : Nat) => (n : Int))
theorem intsD_nat : ∀ l : List Nat, intsD (l.map nD) = some (l.map fun (n : Nat) => (n : Int))
  | [] => rfl
  | a :: l => by
    show (intsD (l.map nD)).map _ = _
    rw [intsD_nat l]; rfl
theorem keyD_arr (x : Arr) : keyD (arrD x) = some (keyA x) := by
  show (intsD (x.2.2.map nD)).map _ = _
  rw [intsD_nat]; rfl
theorem keyA_inj {x y : Arr} (h : keyA x = keyA y) : x = y := by
  obtain ⟨a, b, l⟩ := x
  obtain ⟨c, d, m⟩ := y
  simp only [keyA, Prod.mk.injEq] at h
  obtain ⟨h1, h2, h3⟩ := h
  have e3 : l = m := by
    have : ∀ {l m : List Nat}, (l.map fun (n : Nat) => (n : Int)) = (m.map fun (n : Nat) => (n : Int)) → l = m := by
      intro l
      induction l with
      | nil => intro m h; cases m with
        | nil => rfl
        | cons _ _ => simp at h
      | cons a l ih => intro m h; cases m with
        | nil => simp at h
        | cons b m =>
          simp only [List.map_cons, List.cons.injEq] at h
          rw [ih h.2]; congr 1; omega
    exact this h3
  rw [e3, show a = c by omega, show b = d by omega]
noncomputable def met (kn : List Arr) : List (KA × D) := kn.map fun x => (keyA x, .bl true)
theorem met_any (kn : List Arr) (x : Arr) : ((met kn).any fun p => decide (p.1 = keyA x)) = decide (x ∈ kn) := by
  unfold met
  rw [List.any_map]
  by_cases h : x ∈ kn
  · rw [decide_eq_true h, List.any_eq_true]
    exact ⟨x, h, by simp⟩
  · rw [decide_eq_false h, List.any_eq_false]
    intro y hy
    simp only [Function.comp, decide_eq_true_eq]
    exact fun e => h (keyA_inj e ▸ hy)
theorem met_put {kn : List Arr} {x : Arr} (h : x ∉ kn) : kput (met kn) (keyA x) (.bl true) = met (kn ++ [x]) := by
  unfold kput
  rw [met_any, decide_eq_false h, if_neg (by decide)]
  unfold met
  rw [List.map_append]; rfl
theorem metL_ok : ∀ (l acc : List Arr), (acc ++ l).Nodup → (acc ++ l).length ≤ 100000 → metL (l.map arrD) (met acc) = some (met (acc ++ l))
  | [], acc, _, _ => by rw [List.append_nil]; rfl
  | x :: l, acc, nd, hl => by
    have hx : x ∉ acc := fun h => by
      rw [List.nodup_append] at nd
      exact nd.2.2 x h x (by simp) rfl
    have e : acc ++ x :: l = (acc ++ [x]) ++ l := by simp
    rw [List.map_cons]
    unfold metL
    rw [keyD_arr]
    dsimp only
    have hl1 : (met acc).length ≤ 100000 := by unfold met; rw [List.length_map]; simp at hl; omega
    rw [if_pos hl1, met_put hx, e]
    exact metL_ok l (acc ++ [x]) (by rw [← e]; exact nd) (by rw [← e]; exact hl)
section
variable (ρ : Rho)
@[simp] theorem dnew_ev (i : Nat) : dnew i ρ = .val (.nx (ρ.set i (some (.dic [])))) := Eq.trans rfl rfl
theorem app_ok {i : Nat} {e : Rho → R D} {xs : List D} {d : D} (h : ρ[i]? = some (some (.own xs))) (he : e ρ = .val d) (hl : xs.length < 100000) : app i e ρ = .val (.nx (ρ.set i (some (.own (xs ++ [d]))))) := by
  unfold app; rw [h]; dsimp only; rw [he, bind_val, if_pos (show xs.length < LIM from hl)]
theorem ins_ok {i : Nat} {k e : Rho → R D} {xs : List D} {n : Nat} {d : D} (h : ρ[i]? = some (some (.own xs))) (hk : k ρ = .val (.int (n : Int))) (he : e ρ = .val d) (hn : n ≤ xs.length) (hl : xs.length < 100000) : ins i k e ρ = .val (.nx (ρ.set i (some (.own (xs.take n ++ d :: xs.drop n))))) := by
  unfold ins; rw [h]; dsimp only; rw [hk, bind_val, he, bind_val]; dsimp only
  rw [if_pos ⟨by omega, by omega, (show xs.length < LIM from hl)⟩]; rfl
theorem dput_ok {i : Nat} {k e : Rho → R D} {kvs : List (KA × D)} {kd d : D} {ka : KA} (h : ρ[i]? = some (some (.dic kvs))) (hk : k ρ = .val kd) (he : e ρ = .val d) (ek : keyD kd = some ka) (hl : kvs.length ≤ 100000) : dput i k e ρ = .val (.nx (ρ.set i (some (.dic (kput kvs ka d))))) := by
  unfold dput; rw [he, bind_val, hk, noE_val, bind_val, ek]; dsimp only; rw [h]; dsimp only; rw [if_pos hl]
theorem dget_ok {i : Nat} {k : Rho → R D} {kvs : List (KA × D)} {kd d : D} {ka : KA} (h : ρ[i]? = some (some (.dic kvs))) (hk : k ρ = .val kd) (ek : keyD kd = some ka) (hg : kget kvs ka = some d) : dget i k ρ = .val d := by
  unfold dget; rw [h]; dsimp only; rw [hk, bind_val, ek]; dsimp only; rw [hg]
theorem dnin_ok {i : Nat} {k : Rho → R D} {kvs : List (KA × D)} {kd : D} {ka : KA} (h : ρ[i]? = some (some (.dic kvs))) (hk : k ρ = .val kd) (ek : keyD kd = some ka) : dnin i k ρ = .val (!(kvs.any fun p => decide (p.1 = ka))) := by
  unfold dnin; rw [hk, bind_val, h]; dsimp only; rw [ek]
end
noncomputable def rC (kn : List Arr) (a : Nat) (o f s m : Option Slt) : Rho := [some (.own (kn.map arrD)), some (.dic (met kn)), none, some (.shr (nD a)), o, f, s, m]
noncomputable abbrev body1 : Rho → R Out := DL.iff (tst (bin feq (bin fix (vb 5) (kd (.int 1))) (bin fix (vb 6) (kd (.int 0)))))
  (sq (asg 7 (eT (aC (bin fix (vb 5) (kd (.int 0))) (aC (bin fix (vb 6) (kd (.int 1))) (aC (una ftup (eLs (fCmp (fIt (bin fix (vb 5) (kd (.int 2)))) 1 (tgN 8) tT (bin fix (bin fix (vb 6) (kd (.int 2))) (vb 8))))) aN)))))
  (DL.iff (dnin 1 (vr 7))
  (sq (dput 1 (vr 7) (kd (.bl true)))
  (app 0 (vr 7)))
  nxt))
  nxt
theorem ok_idx {sz : List Nat} {f s : Arr} (hf : Ok sz f) (hs : Ok sz s) (e : f.2.1 = s.1) : ∀ i ∈ f.2.2, i < s.2.2.length := by
  obtain ⟨n, m, h1, h2, h3, h4⟩ := hf
  obtain ⟨n', m', g1, g2, g3, g4⟩ := hs
  have hm : m = n' := by rw [e] at h2; rw [h2] at g1; exact Option.some.inj g1
  intro i hi
  rw [g3, ← hm]; exact h4 i hi
theorem ok_len {sz : List Nat} (hz : sz ∈ szs) {f : Arr} (hf : Ok sz f) : f.2.2.length ≤ 3 := by
  obtain ⟨n, m, h1, h2, h3, h4⟩ := hf
  rw [h3]
  exact (szs_len sz hz).2.2 n (List.mem_of_getElem? h1)
theorem Kn.few {sz kn} (hz : sz ∈ szs) (g : Kn sz kn) : kn.length ≤ 27 :=
  Nat.le_trans (len_le_of_sub g.nd fun x hx => mem_univ (g.ok x hx)) (szs_univ sz hz)
theorem comp_ev {sz : List Nat} (hz : sz ∈ szs) {f s : Arr} (hf : Ok sz f) (hs : Ok sz s) (e : f.2.1 = s.1) {src : Rho → R (List D)} {el : Rho → R D} {ρ : Rho} {i : Nat} (h1 : src ρ = .val (f.2.2.map nD)) (h2 : ∀ k : Nat, el ((ρ ++ List.replicate 1 none).set i (some (.shr (nD k)))) = fix (.tup (s.2.2.map nD)) (.int (k : Int))) :
    fCmp src 1 (tgN i) tT el ρ = .val ((comp f s).2.2.map nD) := by
  have hl := ok_len hz hf
  have := fCmp_lst (f := nD) (g := fun k => nD (s.2.2.getD k 0)) (n := 1) (i := i) (e := el) h1 (by omega) fun k hk => by
    rw [h2 k]
    exact fix_t (map_at (ok_idx hf hs e k hk))
  rw [this]
  simp only [comp, List.map_map]; rfl
theorem ev_body1 {sz kn : List _} (hz : sz ∈ szs) (hk : Kn sz kn) {f s : Arr} (hf : Ok sz f) (hs : Ok sz s) (a : Nat) (o m : Option Slt) :
    ∃ m', body1 (rC kn a o (some (.shr (arrD f))) (some (.shr (arrD s))) m) = .val (.nx (rC (step1 kn f s) a o (some (.shr (arrD f))) (some (.shr (arrD s))) m')) := by
  have few := Kn.few hz hk
  unfold step1
  by_cases e : f.2.1 = s.1
  · rw [if_pos e]
    have hc := comp_ev hz hf hs e (src := fIt (bin fix (vb 5) (kd (.int 2)))) (el := bin fix (bin fix (vb 6) (kd (.int 2))) (vb 8)) (i := 8) (ρ := rC kn a o (some (.shr (arrD f))) (some (.shr (arrD s))) m) (by simp [rC]) (fun k => by simp [rC])
    refine ⟨some (.shr (arrD (comp f s))), ?_⟩
    have ht : tst (bin feq (bin fix (vb 5) (kd (.int 1))) (bin fix (vb 6) (kd (.int 0)))) (rC kn a o (some (.shr (arrD f))) (some (.shr (arrD s))) m) = .val true := by
      unfold rC; simp [e]
    have hv : eT (aC (bin fix (vb 5) (kd (.int 0))) (aC (bin fix (vb 6) (kd (.int 1))) (aC (una ftup (eLs (fCmp (fIt (bin fix (vb 5) (kd (.int 2)))) 1 (tgN 8) tT (bin fix (bin fix (vb 6) (kd (.int 2))) (vb 8))))) aN))) (rC kn a o (some (.shr (arrD f))) (some (.shr (arrD s))) m) = .val (arrD (comp f s)) := by
      simp only [eT_ev, aC_ev, una_ev, eLs_ev, hc]
      unfold rC; simp; rfl
    show DL.iff _ _ _ _ = _
    rw [iff_ev, ht, bind_val, if_pos rfl, sq_ev, asg_ev, hv]
    show DL.iff _ _ _ (rC kn a o (some (.shr (arrD f))) (some (.shr (arrD s))) (some (.shr (arrD (comp f s))))) = _
    unfold add1
    rw [iff_ev, dnin_ok (kvs := met kn) _ rfl (kd := arrD (comp f s)) rfl (keyD_arr _), met_any]
    by_cases hin : comp f s ∈ kn
    · rw [if_pos hin, decide_eq_true hin]; rfl
    · rw [if_neg hin, decide_eq_false hin]
      show sq _ _ _ = _
      rw [sq_ev, dput_ok (kvs := met kn) _ rfl (kd := arrD (comp f s)) rfl (d := .bl true) rfl (keyD_arr _) (by unfold met; rw [List.length_map]; omega), met_put hin]
      rw [bind_val]
      dsimp only
      rw [app_ok (xs := kn.map arrD) _ rfl (d := arrD (comp f s)) rfl (by rw [List.length_map]; omega)]
      unfold rC
      rw [List.map_append]; rfl
  · rw [if_neg e]
    refine ⟨m, ?_⟩
    have e' : ¬ ((f.2.1 : Int) = (s.1 : Int)) := by omega
    unfold rC
    simp [e']
noncomputable abbrev src2 : Rho → R (List D) := fIt (eL (aC (eT (aC (bin fix (vb 0) (vb 3)) (aC (vr 4) aN))) (aC (eT (aC (vr 4) (aC (bin fix (vb 0) (vb 3)) aN))) aN)))
theorem ev_turn {sz kn : List _} (hz : sz ∈ szs) (hk : Kn sz kn) {a : Nat} {k o : Arr} (ha : kn[a]? = some k) (ho : Ok sz o) (f s m : Option Slt) :
    ∃ f' s' m', forS src2 (tg2 5 6) body1 (rC kn a (some (.shr (arrD o))) f s m) = .val (.nx (rC (turn k kn o) a (some (.shr (arrD o))) f' s' m')) := by
  have hkk : Ok sz k := hk.ok k (List.mem_of_getElem? ha)
  have hx : fix (.lst (kn.map arrD)) (.int (a : Int)) = .val (arrD k) := fix_l (by rw [List.getElem?_map, ha]; rfl)
  have hs : src2 (rC kn a (some (.shr (arrD o))) f s m) = .val [.tup [arrD k, arrD o], .tup [arrD o, arrD k]] := by
    unfold rC; simp [hx]
  obtain ⟨m1, e1⟩ := ev_body1 hz hk hkk ho a (some (.shr (arrD o))) m
  obtain ⟨m2, e2⟩ := ev_body1 hz (step1_kn hk hkk ho) ho hkk a (some (.shr (arrD o))) m1
  refine ⟨some (.shr (arrD o)), some (.shr (arrD k)), m2, ?_⟩
  rw [forS_ev, hs, bind_val]
  unfold loopD
  show (body1 (rC kn a (some (.shr (arrD o))) (some (.shr (arrD k))) (some (.shr (arrD o))) m)).bind _ = _
  rw [e1, bind_val]
  dsimp only
  unfold loopD
  show (body1 (rC (step1 kn k o) a (some (.shr (arrD o))) (some (.shr (arrD o))) (some (.shr (arrD k))) m1)).bind _ = _
  rw [e2, bind_val]
  rfl
theorem ev_pass {sz : List Nat} (hz : sz ∈ szs) {a : Nat} {k : Arr} : ∀ (snap : List Arr) {kn : List Arr} (hk : Kn sz kn) (ha : kn[a]? = some k) (hs : ∀ o ∈ snap, Ok sz o) (o f s m : Option Slt),
    ∃ o' f' s' m', loopD (tgN 4) (forS src2 (tg2 5 6) body1) (snap.map arrD) (rC kn a o f s m) = .val (.nx (rC (pass k kn snap) a o' f' s' m'))
  | [], kn, hk, ha, hs, o, f, s, m => ⟨o, f, s, m, rfl⟩
  | q :: r, kn, hk, ha, hs, o, f, s, m => by
    have hq := hs q (by simp)
    have hkk : Ok sz k := hk.ok k (List.mem_of_getElem? ha)
    obtain ⟨f1, s1, m1, e1⟩ := ev_turn hz hk ha hq f s m
    obtain ⟨o2, f2, s2, m2, e2⟩ := ev_pass hz r (turn_kn hk hkk hq) (pre_get (turn_pre k kn q) ha) (fun x hx => hs x (by simp [hx])) (some (.shr (arrD q))) f1 s1 m1
    refine ⟨o2, f2, s2, m2, ?_⟩
    rw [List.map_cons]
    unfold loopD
    show (forS src2 (tg2 5 6) body1 (rC kn a (some (.shr (arrD q))) f s m)).bind _ = _
    rw [e1, bind_val]
    exact e2
noncomputable abbrev bodyW : Rho → R Out := sq (forS (fIt (eLs (fIt (vb 0)))) (tgN 4) (forS src2 (tg2 5 6) body1)) (asg 3 (bin fadd (vb 3) (kd (.int 1))))
noncomputable abbrev condW : Rho → R Bool := tst (bin (iI flt) (vb 3) (una flen (vb 0)))
theorem ev_bodyW {sz : List Nat} (hz : sz ∈ szs) {a : Nat} {k : Arr} {kn : List Arr} (hk : Kn sz kn) (ha : kn[a]? = some k) (o f s m : Option Slt) :
    ∃ o' f' s' m', bodyW (rC kn a o f s m) = .val (.nx (rC (pass k kn kn) (a + 1) o' f' s' m')) := by
  obtain ⟨o', f', s', m', e⟩ := ev_pass hz kn hk ha hk.ok o f s m
  refine ⟨o', f', s', m', ?_⟩
  show sq _ _ _ = _
  rw [sq_ev, forS_ev]
  have : fIt (eLs (fIt (vb 0))) (rC kn a o f s m) = .val (kn.map arrD) := by unfold rC; simp
  rw [this, bind_val, e, bind_val]
  show asg 3 _ _ = _
  unfold rC
  simp
theorem ev_while {sz : List Nat} (hz : sz ∈ szs) : ∀ (n a : Nat) (kn : List Arr) (o f s m : Option Slt), Kn sz kn → Cl kn a → a ≤ kn.length → 28 ≤ n + a →
    ∃ kn' a' o' f' s' m', whD condW bodyW n (rC kn a o f s m) = .val (.nx (rC kn' a' o' f' s' m')) ∧ Kn sz kn' ∧ kn <+: kn' ∧ Cl kn' kn'.length
  | 0, a, kn, o, f, s, m, hk, hc, hl, hn => by have := Kn.few hz hk; omega
  | n + 1, a, kn, o, f, s, m, hk, hc, hl, hn => by
    have hcond : condW (rC kn a o f s m) = .val (decide (a < kn.length)) := by
      unfold rC; simp
    unfold whD
    rw [hcond, bind_val]
    by_cases h : a < kn.length
    · rw [decide_eq_true h, if_pos rfl]
      have ha : kn[a]? = some kn[a] := by simp [h]
      obtain ⟨o', f', s', m', e⟩ := ev_bodyW hz hk ha o f s m
      have hkk : Ok sz kn[a] := hk.ok _ (List.getElem_mem h)
      have pre := pass_pre kn[a] kn kn
      obtain ⟨kn', a', o2, f2, s2, m2, e2, g1, g2, g3⟩ := ev_while hz n (a + 1) (pass kn[a] kn kn) o' f' s' m' (pass_kn hkk hk hk.ok) (pass_cl hc ha) (Nat.le_trans h pre.length_le) (by omega)
      rw [e, bind_val]
      exact ⟨kn', a', o2, f2, s2, m2, e2, g1, pre.trans g2, g3⟩
    · rw [decide_eq_false h]
      have : a = kn.length := by omega
      subst this
      exact ⟨kn, kn.length, o, f, s, m, rfl, hk, List.prefix_refl _, hc⟩
theorem ev_closed {sz kn : List _} (hz : sz ∈ szs) (hk : Kn sz kn) : ∃ kn', dm_law_closed (kn.map arrD) = .val (.lst (kn'.map arrD)) ∧ Kn sz kn' ∧ kn <+: kn' ∧ ∀ x ∈ kn', ∀ y ∈ kn', x.2.1 = y.1 → comp x y ∈ kn' := by
  have few := Kn.few hz hk
  obtain ⟨kn', a', o', f', s', m', e, g1, g2, g3⟩ := ev_while hz 30 0 kn none none none none hk (fun i j x y hi => absurd hi (Nat.not_lt_zero _)) (Nat.zero_le _) (by omega)
  refine ⟨kn', ?_, g1, g2, cl_all g3⟩
  have hm : metL (kn.map arrD) [] = some (met kn) := metL_ok kn [] (by simpa using hk.nd) (by simp; omega)
  have h0 : forMet 0 2 1 [some (.own (kn.map arrD)), some (.dic []), none, none, none, none, none, none] = .val (.nx [some (.own (kn.map arrD)), some (.dic (met kn)), none, none, none, none, none, none]) := by
    show (match metL (kn.map arrD) [] with | some kvs' => _ | none => _) = _
    rw [hm]; rfl
  simp only [dm_law_closed, den_law_closed]
  show fin (sq (dnew 1) _ [some (.own (kn.map arrD)), none, none, none, none, none, none, none]) = _
  rw [sq_ev, dnew_ev, bind_val]
  show fin (sq (forMet 0 2 1) _ [some (.own (kn.map arrD)), some (.dic []), none, none, none, none, none, none]) = _
  rw [sq_ev, h0, bind_val]
  show fin (sq (asg 3 (kd (.int 0))) _ [some (.own (kn.map arrD)), some (.dic (met kn)), none, none, none, none, none, none]) = _
  rw [sq_ev, asg_ev, kd_ev, bind_val, bind_val]
  show fin (sq (whD condW bodyW 30) _ (rC kn 0 none none none none)) = _
  rw [sq_ev, e, bind_val]
  rfl
end DL

set_option Elab.async false
set_option linter.all false
set_option maxRecDepth 100000
set_option maxHeartbeats 1000000
namespace DL
open PySem L2 Ar
set_option autoImplicit false
theorem rng_nat (n : Nat) : rng 0 n = (List.range n).map nD := by
  unfold rng
  apply List.map_congr_left
  intro k _
  simp [nD]
theorem rgT_nat {n : Nat} (h : n ≤ 100000) : rgT [.int (n : Int)] = .val (.tup ((List.range n).map nD)) := by
  have : -(2 ^ 62) ≤ (n : Int) ∧ (n : Int) ≤ 100000 := by constructor <;> omega
  unfold rgT
  dsimp only
  rw [if_pos this, Int.toNat_natCast, rng_nat]
theorem fnin_arr (x : Arr) (kn : List Arr) : fnin true (arrD x) (.lst (kn.map arrD)) = .val (.bl (!decide (x ∈ kn))) := by
  have h1 : eqb 8 (arrD x) = true := pln_eqb (pln_arr x)
  have h2 : (kn.map arrD).all (eqb 8) = true := by
    rw [List.all_eq_true]
    intro y hy
    obtain ⟨a, _, rfl⟩ := List.mem_map.mp hy
    exact pln_eqb (pln_arr a)
  unfold fnin
  dsimp only
  rw [if_pos ⟨h1, h2⟩]
  have : ((kn.map arrD).any fun y => pyq 8 y (arrD x)) = decide (x ∈ kn) := by
    rw [List.any_map]
    by_cases h : x ∈ kn
    · rw [decide_eq_true h, List.any_eq_true]
      exact ⟨x, h, (pyq_iff 8 (pln_arr x) (pln_arr x)).mpr rfl⟩
    · rw [decide_eq_false h, List.any_eq_false]
      intro y hy e
      exact h (arrD_inj.mp ((pyq_iff 8 (pln_arr y) (pln_arr x)).mp e) ▸ hy)
  rw [this]; rfl
theorem szs_three : ∀ sz ∈ szs, ∀ a, a < sz.length → ∀ b, b < sz.length → sz.getD a 0 = 3 → sz.getD b 0 = 3 := by decide +kernel
theorem fix_siz {sz : List Nat} {i : Nat} (h : i < sz.length) : fix (resD sz) (.int (i : Int)) = .val (.int ((sz.getD i 0 : Nat) : Int)) := fix_res h
theorem idm_ok {sz : List Nat} {b : Nat} (h : b < sz.length) : Ok sz (idm sz b) := by
  refine ⟨sz[b], sz[b], by simp [idm, h], by simp [idm, h], ?_, fun y hy => ?_⟩
  · simp [idm, h]
  · simp [idm, h] at hy; exact hy
theorem ids_kn (sz : List Nat) : Kn sz ((List.range sz.length).map (idm sz)) := by
  refine ⟨?_, fun x hx => ?_⟩
  · unfold List.Nodup
    rw [List.pairwise_map]
    exact List.nodup_range.imp fun {a b} h e => h (by simpa [idm] using congrArg (·.1) e)
  · obtain ⟨b, hb, rfl⟩ := List.mem_map.mp hx
    exact idm_ok (List.mem_range.mp hb)
noncomputable def rA (ns : List Int) (k : Nat) (sz : List Nat) (known : Slt) (st : Int) (a5 a6 a7 a8 a9 a10 a11 : Option Slt) : Rho := [some (.shr (.scr ns)), some (.shr (nD k)), some (.shr (resD sz)), some known, some (.shr (.int st)), a5, a6, a7, a8, a9, a10, a11]
section
variable {ns : List Int} {k : Nat} {sz : List Nat}
noncomputable abbrev rowB : Rho → R Out := sq (asg 4 (cal 1 dn_law_next (aC (vr 4) aN)))
  (DL.iff (tst (bin feq (bin fix (vb 2) (vb 6)) (kd (.int 3))))
  (ins 8 (bin (iI fmod) (bin (iI fdiv) (vb 4) (kd (.int 64))) (bin fadd (vb 9) (kd (.int 1)))) (vr 9))
  (app 8 (bin (iI fmod) (bin (iI fdiv) (vb 4) (kd (.int 64))) (eMax (aC (kd (.int 1)) (aC (bin fix (vb 2) (vb 7)) aN))))))
noncomputable def bnd (s1 s2 : Nat) : Nat := if s1 = 3 then 3 else max 1 s2
theorem d64 (i : Int) : fdiv i 64 = .val (.int (i / 64)) := fdiv_ok (by decide)
theorem ev_rowB {known : Slt} {st : Int} {o1 o2 x : Nat} {l : List Nat} {a5 a10 a11 : Option Slt} (h1 : o1 < sz.length) (h2 : o2 < sz.length) (hx : x < sz.getD o1 0) (hl : l.length = x) (hx3 : sz.getD o1 0 ≤ 3) (hb : ∀ y ∈ l, y < bnd (sz.getD o1 0) (sz.getD o2 0)) :
    ∃ (st' : Int) (l' : List Nat), rowB (rA ns k sz known st a5 (some (.shr (nD o1))) (some (.shr (nD o2))) (some (.own (l.map nD))) (some (.shr (nD x))) a10 a11) = .val (.nx (rA ns k sz known st' a5 (some (.shr (nD o1))) (some (.shr (nD o2))) (some (.own (l'.map nD))) (some (.shr (nD x))) a10 a11)) ∧ l'.length = x + 1 ∧ ∀ y ∈ l', y < bnd (sz.getD o1 0) (sz.getD o2 0) := by
  obtain ⟨st', hst⟩ := ev_next st
  have f1 := fix_siz (sz := sz) h1
  have f2 := fix_siz (sz := sz) h2
  have hA : asg 4 (cal 1 dn_law_next (aC (vr 4) aN)) (rA ns k sz known st a5 (some (.shr (nD o1))) (some (.shr (nD o2))) (some (.own (l.map nD))) (some (.shr (nD x))) a10 a11) = .val (.nx (rA ns k sz known st' a5 (some (.shr (nD o1))) (some (.shr (nD o2))) (some (.own (l.map nD))) (some (.shr (nD x))) a10 a11)) := by
    unfold rA; simp [hst]
  have hT : tst (bin feq (bin fix (vb 2) (vb 6)) (kd (.int 3))) (rA ns k sz known st' a5 (some (.shr (nD o1))) (some (.shr (nD o2))) (some (.own (l.map nD))) (some (.shr (nD x))) a10 a11) = .val (decide (((sz.getD o1 0 : Nat) : Int) = 3)) := by
    unfold rA; simp [-List.getD_eq_getElem?_getD, f1]
  show ∃ (st' : Int) (l' : List Nat), sq _ _ _ = _ ∧ _
  rw [sq_ev, hA, bind_val]
  dsimp only
  rw [iff_ev, hT, bind_val]
  by_cases e3 : sz.getD o1 0 = 3
  · rw [if_pos (by simp [-List.getD_eq_getElem?_getD, e3])]
    have hm : fmod (st' / 64) ((x : Int) + 1) = .val (.int (st' / 64 % ((x : Int) + 1))) := fmod_ok (by omega)
    have p0 : 0 ≤ st' / 64 % ((x : Int) + 1) := Int.emod_nonneg _ (by omega)
    have p1 : st' / 64 % ((x : Int) + 1) < (x : Int) + 1 := Int.emod_lt_of_pos _ (by omega)
    obtain ⟨p, hp⟩ : ∃ p : Nat, st' / 64 % ((x : Int) + 1) = (p : Int) := ⟨_, (Int.toNat_of_nonneg p0).symm⟩
    refine ⟨st', l.take p ++ x :: l.drop p, ?_, ?_, fun y hy => ?_⟩
    · rw [ins_ok (xs := l.map nD) (n := p) (d := nD x) _ rfl (by unfold rA; simp [d64, hm, hp]) rfl (by rw [List.length_map]; omega) (by rw [List.length_map]; omega)]
      unfold rA
      simp
    · rw [List.length_append, List.length_cons, List.length_take, List.length_drop]; omega
    · unfold bnd
      rw [if_pos e3]
      rcases List.mem_append.mp hy with q | q
      · have := hb y (List.mem_of_mem_take q)
        unfold bnd at this; rw [if_pos e3] at this; exact this
      · rcases List.mem_cons.mp q with q | q
        · rw [q]; omega
        · have := hb y (List.mem_of_mem_drop q)
          unfold bnd at this; rw [if_pos e3] at this; exact this
  · have e3' : ¬ (((sz.getD o1 0 : Nat) : Int) = 3) := by omega
    rw [if_neg (by simp [-List.getD_eq_getElem?_getD]; exact e3')]
    have hmx : (if ((sz.getD o2 0 : Nat) : Int) > 1 then ((sz.getD o2 0 : Nat) : Int) else 1) = ((max 1 (sz.getD o2 0) : Nat) : Int) := by
      split <;> omega
    have hm : fmod (st' / 64) ((max 1 (sz.getD o2 0) : Nat) : Int) = .val (.int (st' / 64 % ((max 1 (sz.getD o2 0) : Nat) : Int))) := fmod_ok (by omega)
    have p0 : 0 ≤ st' / 64 % ((max 1 (sz.getD o2 0) : Nat) : Int) := Int.emod_nonneg _ (by omega)
    have p1 : st' / 64 % ((max 1 (sz.getD o2 0) : Nat) : Int) < ((max 1 (sz.getD o2 0) : Nat) : Int) := Int.emod_lt_of_pos _ (by omega)
    obtain ⟨p, hp⟩ : ∃ p : Nat, st' / 64 % ((max 1 (sz.getD o2 0) : Nat) : Int) = (p : Int) := ⟨_, (Int.toNat_of_nonneg p0).symm⟩
    refine ⟨st', l ++ [p], ?_, by rw [List.length_append, hl]; rfl, fun y hy => ?_⟩
    · rw [app_ok (xs := l.map nD) (d := nD p) _ rfl (by unfold rA; simp only [bin_ev, una_ev, vb_ev, kd_ev, bind_val, eMax_ev, aC_ev, aN_ev, iI_ev, List.getElem?_cons_succ, List.getElem?_cons_zero, f2, fmax_ev, d64]; rw [hmx, hm, hp]) (by rw [List.length_map]; omega)]
      unfold rA
      simp
    · rcases List.mem_append.mp hy with q | q
      · exact hb y q
      · rw [List.mem_singleton.mp q]
        unfold bnd; rw [if_neg e3]; omega
theorem ev_rows {known : Slt} {st : Int} {o1 o2 : Nat} {a5 a9 a10 a11 : Option Slt} (h1 : o1 < sz.length) (h2 : o2 < sz.length) (hx3 : sz.getD o1 0 ≤ 3) :
    ∃ (st' : Int) (l : List Nat) (a9' : Option Slt), loopD (tgN 9) rowB (rng 0 (sz.getD o1 0)) (rA ns k sz known st a5 (some (.shr (nD o1))) (some (.shr (nD o2))) (some (.own [])) a9 a10 a11) = .val (.nx (rA ns k sz known st' a5 (some (.shr (nD o1))) (some (.shr (nD o2))) (some (.own (l.map nD))) a9' a10 a11)) ∧ l.length = sz.getD o1 0 ∧ ∀ y ∈ l, y < bnd (sz.getD o1 0) (sz.getD o2 0) := by
  obtain ⟨ρ', e, st', l, a9', rfl, g1, g2⟩ := loop_rng (i := 9) (n := sz.getD o1 0) (F := rowB) (ρ := rA ns k sz known st a5 (some (.shr (nD o1))) (some (.shr (nD o2))) (some (.own [])) a9 a10 a11) (fun x ρ => ∃ (st : Int) (l : List Nat) (a9 : Option Slt), ρ = rA ns k sz known st a5 (some (.shr (nD o1))) (some (.shr (nD o2))) (some (.own (l.map nD))) a9 a10 a11 ∧ l.length = x ∧ ∀ y ∈ l, y < bnd (sz.getD o1 0) (sz.getD o2 0)) (fun x ρ hx hI => by
    obtain ⟨st, l, a9, rfl, hl, hb⟩ := hI
    obtain ⟨st', l', e, g1, g2⟩ := ev_rowB (ns := ns) (k := k) (known := known) (st := st) (a5 := a5) (a10 := a10) (a11 := a11) h1 h2 hx hl hx3 hb
    exact ⟨_, e, st', l', _, rfl, g1, g2⟩) ⟨st, [], a9, rfl, rfl, fun y hy => by cases hy⟩
  exact ⟨st', l, a9', e, g1, g2⟩
noncomputable abbrev bodyT : Rho → R Out := sq (asg 4 (cal 1 dn_law_next (aC (vr 4) aN)))
  (sq (asg 6 (bin (iI fmod) (bin (iI fdiv) (vb 4) (kd (.int 64))) (una flen (vb 2))))
  (sq (asg 4 (cal 1 dn_law_next (aC (vr 4) aN)))
  (sq (asg 7 (bin (iI fmod) (bin (iI fdiv) (vb 4) (kd (.int 64))) (una flen (vb 2))))
  (sq (own 8 (fLim aN))
  (sq (forS (fRng (aC (bin fix (vb 2) (vb 6)) aN)) (tgN 9) rowB)
  (DL.iff (orB (tst (bin feq (bin fix (vb 2) (vb 6)) (kd (.int 0)))) (tst (bin (iI fgt) (bin fix (vb 2) (vb 7)) (kd (.int 0)))))
  (DL.iff (tst (bin (fnin true) (eT (aC (vr 6) (aC (vr 7) (aC (una ftup (vb 8)) aN)))) (vb 3)))
  (app 3 (eT (aC (vr 6) (aC (vr 7) (aC (una ftup (vb 8)) aN)))))
  nxt)
  nxt))))))
theorem flen_siz : flen (resD sz) = .val (.int ((sz.length : Nat) : Int)) := by
  show R.val (D.int (((sz.map nD).length : Nat) : Int)) = _
  rw [List.length_map]
theorem nx_asg {known : Slt} {st s1 : Int} {a5 a6 a7 a8 a9 a10 a11 : Option Slt} (h : dn_law_next [.int st] = .val (.int s1)) : asg 4 (cal 1 dn_law_next (aC (vr 4) aN)) (rA ns k sz known st a5 a6 a7 a8 a9 a10 a11) = .val (.nx (rA ns k sz known s1 a5 a6 a7 a8 a9 a10 a11)) := by
  rw [asg_ev, cal_ev]
  show R.bind (noex (dn_law_next [.int st])) _ = _
  rw [h]; rfl
theorem pk_val {known : Slt} {s1 : Int} {o : Nat} {a5 a6 a7 a8 a9 a10 a11 : Option Slt} (q : fmod (s1 / 64) (sz.length : Int) = .val (.int (o : Int))) : bin (iI fmod) (bin (iI fdiv) (vb 4) (kd (.int 64))) (una flen (vb 2)) (rA ns k sz known s1 a5 a6 a7 a8 a9 a10 a11) = .val (nD o) := by
  rw [bin_ev, bin_ev]
  show R.bind (fdiv s1 64) _ = _
  rw [d64, bind_val, una_ev]
  show R.bind (R.bind (.val (resD sz)) flen) _ = _
  rw [bind_val, flen_siz]
  exact q
theorem pk_asg6 {known : Slt} {s1 : Int} {o : Nat} {a5 a6 a7 a8 a9 a10 a11 : Option Slt} (q : fmod (s1 / 64) (sz.length : Int) = .val (.int (o : Int))) : asg 6 (bin (iI fmod) (bin (iI fdiv) (vb 4) (kd (.int 64))) (una flen (vb 2))) (rA ns k sz known s1 a5 a6 a7 a8 a9 a10 a11) = .val (.nx (rA ns k sz known s1 a5 (some (.shr (nD o))) a7 a8 a9 a10 a11)) := by
  rw [asg_ev, pk_val q]; rfl
theorem pk_asg7 {known : Slt} {s1 : Int} {o : Nat} {a5 a6 a7 a8 a9 a10 a11 : Option Slt} (q : fmod (s1 / 64) (sz.length : Int) = .val (.int (o : Int))) : asg 7 (bin (iI fmod) (bin (iI fdiv) (vb 4) (kd (.int 64))) (una flen (vb 2))) (rA ns k sz known s1 a5 a6 a7 a8 a9 a10 a11) = .val (.nx (rA ns k sz known s1 a5 a6 (some (.shr (nD o))) a8 a9 a10 a11)) := by
  rw [asg_ev, pk_val q]; rfl
theorem pick (st : Int) {n : Nat} (h : 1 ≤ n) : ∃ p : Nat, p < n ∧ fmod (st / 64) (n : Int) = .val (.int (p : Int)) := by
  have hm : fmod (st / 64) (n : Int) = .val (.int (st / 64 % (n : Int))) := fmod_ok (by omega)
  have p0 : 0 ≤ st / 64 % (n : Int) := Int.emod_nonneg _ (by omega)
  have p1 : st / 64 % (n : Int) < (n : Int) := Int.emod_lt_of_pos _ (by omega)
  refine ⟨(st / 64 % (n : Int)).toNat, by omega, ?_⟩
  rw [hm, Int.toNat_of_nonneg p0]
theorem ev_bodyT (hz : sz ∈ szs) {kn : List Arr} (hk : Kn sz kn) (st : Int) (a5 a6 a7 a8 a9 a10 a11 : Option Slt) :
    ∃ (kn' : List Arr) (st' : Int) (b6 b7 b8 b9 : Option Slt), bodyT (rA ns k sz (.own (kn.map arrD)) st a5 a6 a7 a8 a9 a10 a11) = .val (.nx (rA ns k sz (.own (kn'.map arrD)) st' a5 b6 b7 b8 b9 a10 a11)) ∧ Kn sz kn' ∧ kn <+: kn' := by
  obtain ⟨l1, l4, l3⟩ := szs_len sz hz
  have few := Kn.few hz hk
  obtain ⟨s1, hs1⟩ := ev_next st
  obtain ⟨o1, ho1, q1⟩ := pick s1 l1
  obtain ⟨s2, hs2⟩ := ev_next s1
  obtain ⟨o2, ho2, q2⟩ := pick s2 l1
  have g3 : sz.getD o1 0 ≤ 3 := by rw [getD_lt ho1]; exact l3 _ (List.getElem_mem ho1)
  obtain ⟨s3, l, a9', e, hl, hb⟩ := ev_rows (ns := ns) (k := k) (sz := sz) (known := .own (kn.map arrD)) (st := s2) (a5 := a5) (a9 := a9) (a10 := a10) (a11 := a11) ho1 ho2 g3
  have f1 := fix_siz (sz := sz) ho1
  have f2 := fix_siz (sz := sz) ho2
  have hr : rngD [.int ((sz.getD o1 0 : Nat) : Int)] = .val (rng 0 (sz.getD o1 0)) := rngD_nat (by omega)
  have start : bodyT (rA ns k sz (.own (kn.map arrD)) st a5 a6 a7 a8 a9 a10 a11) = DL.iff (orB (tst (bin feq (bin fix (vb 2) (vb 6)) (kd (.int 0)))) (tst (bin (iI fgt) (bin fix (vb 2) (vb 7)) (kd (.int 0)))))
      (DL.iff (tst (bin (fnin true) (eT (aC (vr 6) (aC (vr 7) (aC (una ftup (vb 8)) aN)))) (vb 3)))
      (app 3 (eT (aC (vr 6) (aC (vr 7) (aC (una ftup (vb 8)) aN))))) nxt) nxt (rA ns k sz (.own (kn.map arrD)) s3 a5 (some (.shr (nD o1))) (some (.shr (nD o2))) (some (.own (l.map nD))) a9' a10 a11) := by
    have x1 : asg 4 (cal 1 dn_law_next (aC (vr 4) aN)) (rA ns k sz (.own (kn.map arrD)) st a5 a6 a7 a8 a9 a10 a11) = .val (.nx (rA ns k sz (.own (kn.map arrD)) s1 a5 a6 a7 a8 a9 a10 a11)) := nx_asg hs1
    have x2 : asg 6 (bin (iI fmod) (bin (iI fdiv) (vb 4) (kd (.int 64))) (una flen (vb 2))) (rA ns k sz (.own (kn.map arrD)) s1 a5 a6 a7 a8 a9 a10 a11) = .val (.nx (rA ns k sz (.own (kn.map arrD)) s1 a5 (some (.shr (nD o1))) a7 a8 a9 a10 a11)) := pk_asg6 q1
    have x3 : asg 4 (cal 1 dn_law_next (aC (vr 4) aN)) (rA ns k sz (.own (kn.map arrD)) s1 a5 (some (.shr (nD o1))) a7 a8 a9 a10 a11) = .val (.nx (rA ns k sz (.own (kn.map arrD)) s2 a5 (some (.shr (nD o1))) a7 a8 a9 a10 a11)) := nx_asg hs2
    have x4 : asg 7 (bin (iI fmod) (bin (iI fdiv) (vb 4) (kd (.int 64))) (una flen (vb 2))) (rA ns k sz (.own (kn.map arrD)) s2 a5 (some (.shr (nD o1))) a7 a8 a9 a10 a11) = .val (.nx (rA ns k sz (.own (kn.map arrD)) s2 a5 (some (.shr (nD o1))) (some (.shr (nD o2))) a8 a9 a10 a11)) := pk_asg7 q2
    have x5 : own 8 (fLim aN) (rA ns k sz (.own (kn.map arrD)) s2 a5 (some (.shr (nD o1))) (some (.shr (nD o2))) a8 a9 a10 a11) = .val (.nx (rA ns k sz (.own (kn.map arrD)) s2 a5 (some (.shr (nD o1))) (some (.shr (nD o2))) (some (.own [])) a9 a10 a11)) := Eq.trans rfl rfl
    have x6 : forS (fRng (aC (bin fix (vb 2) (vb 6)) aN)) (tgN 9) rowB (rA ns k sz (.own (kn.map arrD)) s2 a5 (some (.shr (nD o1))) (some (.shr (nD o2))) (some (.own [])) a9 a10 a11) = .val (.nx (rA ns k sz (.own (kn.map arrD)) s3 a5 (some (.shr (nD o1))) (some (.shr (nD o2))) (some (.own (l.map nD))) a9' a10 a11)) := by
      rw [forS_ev]
      have : fRng (aC (bin fix (vb 2) (vb 6)) aN) (rA ns k sz (.own (kn.map arrD)) s2 a5 (some (.shr (nD o1))) (some (.shr (nD o2))) (some (.own [])) a9 a10 a11) = .val (rng 0 (sz.getD o1 0)) := by unfold rA; simp [-List.getD_eq_getElem?_getD, f1, hr]
      rw [this, bind_val, e]
    show sq _ _ _ = _
    rw [sq_ev, x1, bind_val]; dsimp only
    rw [sq_ev, x2, bind_val]; dsimp only
    rw [sq_ev, x3, bind_val]; dsimp only
    rw [sq_ev, x4, bind_val]; dsimp only
    rw [sq_ev, x5, bind_val]; dsimp only
    rw [sq_ev, x6, bind_val]
  rw [start]
  have hT : orB (tst (bin feq (bin fix (vb 2) (vb 6)) (kd (.int 0)))) (tst (bin (iI fgt) (bin fix (vb 2) (vb 7)) (kd (.int 0)))) (rA ns k sz (.own (kn.map arrD)) s3 a5 (some (.shr (nD o1))) (some (.shr (nD o2))) (some (.own (l.map nD))) a9' a10 a11) = .val (decide (sz.getD o1 0 = 0 ∨ 0 < sz.getD o2 0)) := by
    unfold rA
    by_cases z : sz.getD o1 0 = 0
    · simp [-List.getD_eq_getElem?_getD, f1, z]
    · have z' : ¬ (((sz.getD o1 0 : Nat) : Int) = 0) := by omega
      simp [-List.getD_eq_getElem?_getD, f1, f2, z, z']
  rw [iff_ev, hT, bind_val]
  by_cases hc : sz.getD o1 0 = 0 ∨ 0 < sz.getD o2 0
  · rw [decide_eq_true hc, if_pos rfl]
    have hok : Ok sz (o1, o2, l) := by
      refine ⟨sz.getD o1 0, sz.getD o2 0, by rw [getD_lt ho1]; simp [ho1], by rw [getD_lt ho2]; simp [ho2], hl, fun y hy => ?_⟩
      have := hb y hy
      unfold bnd at this
      have hy0 : sz.getD o1 0 ≠ 0 := fun z => by
        rw [z] at hl
        have : l = [] := List.length_eq_zero_iff.mp hl
        rw [this] at hy; cases hy
      split at this
      · rename_i e3
        have := szs_three sz hz o1 ho1 o2 ho2 e3
        omega
      · rcases hc with hc | hc
        · exact absurd hc hy0
        · have : max 1 (sz.getD o2 0) = sz.getD o2 0 := by omega
          omega
    have hv : eT (aC (vr 6) (aC (vr 7) (aC (una ftup (vb 8)) aN))) (rA ns k sz (.own (kn.map arrD)) s3 a5 (some (.shr (nD o1))) (some (.shr (nD o2))) (some (.own (l.map nD))) a9' a10 a11) = .val (arrD (o1, o2, l)) := by
      unfold rA; simp; rfl
    have hn : tst (bin (fnin true) (eT (aC (vr 6) (aC (vr 7) (aC (una ftup (vb 8)) aN)))) (vb 3)) (rA ns k sz (.own (kn.map arrD)) s3 a5 (some (.shr (nD o1))) (some (.shr (nD o2))) (some (.own (l.map nD))) a9' a10 a11) = .val (!decide ((o1, o2, l) ∈ kn)) := by
      rw [tst_ev, bin_ev, hv, bind_val]
      show ((R.val (D.lst (kn.map arrD))).bind fun y => fnin true (arrD (o1, o2, l)) y).bind asB = _
      rw [bind_val, fnin_arr]; rfl
    rw [iff_ev, hn, bind_val]
    refine ⟨add1 kn (o1, o2, l), s3, some (.shr (nD o1)), some (.shr (nD o2)), some (.own (l.map nD)), a9', ?_, add1_kn hk hok, add1_pre _ _⟩
    unfold add1
    by_cases hin : (o1, o2, l) ∈ kn
    · rw [if_pos hin, decide_eq_true hin]; rfl
    · rw [if_neg hin, decide_eq_false hin]
      rw [if_pos (show (!false) = true from rfl)]
      rw [app_ok (xs := kn.map arrD) _ rfl hv (by rw [List.length_map]; omega)]
      unfold rA
      rw [List.map_append]; rfl
  · rw [decide_eq_false hc]
    exact ⟨kn, s3, _, _, _, _, rfl, hk, List.prefix_refl _⟩
end
end DL

set_option Elab.async false
set_option linter.all false
set_option maxRecDepth 100000
set_option maxHeartbeats 1000000
namespace DL
open PySem L2 Ar
set_option autoImplicit false
section
variable {ns : List Int} {k : Nat} {sz : List Nat}
theorem ev_ids (hz : sz ∈ szs) (a3 a4 a5 a6 a7 a8 a9 a10 a11 : Option Slt) : fCmp (fRng (aC (una flen (vb 2)) aN)) 1 (tgN 12) tT (eT (aC (vr 12) (aC (vr 12) (aC (eTupRg (aC (bin fix (vb 2) (vb 12)) aN)) aN)))) [some (.shr (.scr ns)), some (.shr (nD k)), some (.shr (resD sz)), a3, a4, a5, a6, a7, a8, a9, a10, a11] = .val (((List.range sz.length).map (idm sz)).map arrD) := by
  obtain ⟨l1, l4, l3⟩ := szs_len sz hz
  have := fCmp_rng (src := fRng (aC (una flen (vb 2)) aN)) (m := sz.length) (n := 1) (i := 12) (e := eT (aC (vr 12) (aC (vr 12) (aC (eTupRg (aC (bin fix (vb 2) (vb 12)) aN)) aN)))) (g := fun b => arrD (idm sz b)) (ρ := [some (.shr (.scr ns)), some (.shr (nD k)), some (.shr (resD sz)), a3, a4, a5, a6, a7, a8, a9, a10, a11]) (by simp; exact rngD_nat (by omega)) (by omega) fun b hb => by
    have f1 := fix_siz (sz := sz) hb
    have hs : sz.getD b 0 ≤ 3 := by rw [getD_lt hb]; exact l3 _ (List.getElem_mem hb)
    have := rgT_nat (n := sz.getD b 0) (by omega)
    simp [-List.getD_eq_getElem?_getD, f1, this]; rfl
  rw [this, List.map_map]; rfl
theorem perm_ins {mx : List Arr} {x : Arr} {l : List Arr} (p : Nat) (h : mx.Perm l) : (mx.take p ++ x :: mx.drop p).Perm (l ++ [x]) := by
  have h1 : (mx.take p ++ x :: mx.drop p).Perm (x :: (mx.take p ++ mx.drop p)) := List.perm_middle
  rw [List.take_append_drop] at h1
  exact h1.trans ((h.cons x).trans (List.perm_append_singleton x l).symm)
noncomputable abbrev mixB : Rho → R Out := sq (asg 4 (cal 1 dn_law_next (aC (vr 4) aN)))
  (ins 10 (bin (iI fmod) (bin (iI fdiv) (vb 4) (kd (.int 64))) (bin fadd (una flen (vb 10)) (kd (.int 1)))) (vr 11))
theorem ev_mixB {known : Slt} {st : Int} {mx : List Arr} {x : Arr} (hl : mx.length ≤ 27) (a5 a6 a7 a8 a9 : Option Slt) :
    ∃ (st' : Int) (p : Nat), mixB (rA ns k sz known st a5 a6 a7 a8 a9 (some (.own (mx.map arrD))) (some (.shr (arrD x)))) = .val (.nx (rA ns k sz known st' a5 a6 a7 a8 a9 (some (.own ((mx.take p ++ x :: mx.drop p).map arrD))) (some (.shr (arrD x))))) := by
  obtain ⟨s1, hs1⟩ := ev_next st
  obtain ⟨p, hp, q⟩ := pick s1 (n := mx.length + 1) (by omega)
  have q' : fmod (s1 / 64) ((mx.length : Int) + 1) = .val (.int (p : Int)) := q
  refine ⟨s1, p, ?_⟩
  have x1 : asg 4 (cal 1 dn_law_next (aC (vr 4) aN)) (rA ns k sz known st a5 a6 a7 a8 a9 (some (.own (mx.map arrD))) (some (.shr (arrD x)))) = .val (.nx (rA ns k sz known s1 a5 a6 a7 a8 a9 (some (.own (mx.map arrD))) (some (.shr (arrD x))))) := by unfold rA; simp [hs1]
  show sq _ _ _ = _
  rw [sq_ev, x1, bind_val]; dsimp only
  rw [ins_ok (xs := mx.map arrD) (n := p) (d := arrD x) _ rfl (by unfold rA; simp [d64, q']) rfl (by rw [List.length_map]; omega) (by rw [List.length_map]; omega)]
  unfold rA
  simp
theorem ev_arrows (hz : sz ∈ szs) (ns : List Int) (k : Nat) : ∃ kn, Good sz kn ∧ dn_law_arrows [.scr ns, .int (k : Int), resD sz] = .val (.lst (kn.map arrD)) := by
  obtain ⟨l1, l4, l3⟩ := szs_len sz hz
  obtain ⟨c1, hc1⟩ := ev_cell ns k
  obtain ⟨c2, hc2⟩ := ev_cell ns (k + 1)
  obtain ⟨s0, hs0⟩ := ev_next (c1 * 1000003 % 2147483647 + 17)
  have hc2' : dn_law_cell [.scr ns, .int ((k : Int) + 1)] = .val (.int c2) := hc2
  have m5 : fmod c2 5 = .val (.int (c2 % 5)) := fmod_ok (by decide)
  have mm : fmul c1 1000003 = .val (.int (c1 * 1000003)) := fmul_ok (by decide)
  have md : fmod (c1 * 1000003) 2147483647 = .val (.int (c1 * 1000003 % 2147483647)) := fmod_ok (by decide)
  have hr : rngD [.int (c2 % 5)] = .val (rng 0 (c2 % 5).toNat) := rngD_int (by omega) (by omega)
  let kn0 := (List.range sz.length).map (idm sz)
  have hk0 : Kn sz kn0 := ids_kn sz
  obtain ⟨ρ1, e1, kn1, st1, a5, a6, a7, a8, a9, rfl, hk1, hp1⟩ := loop_rng (i := 5) (n := (c2 % 5).toNat) (F := bodyT) (ρ := rA ns k sz (.own (kn0.map arrD)) s0 none none none none none none none) (fun _ ρ => ∃ (kn : List Arr) (st : Int) (a5 a6 a7 a8 a9 : Option Slt), ρ = rA ns k sz (.own (kn.map arrD)) st a5 a6 a7 a8 a9 none none ∧ Kn sz kn ∧ kn0 <+: kn) (fun x ρ hx hI => by
    obtain ⟨kn, st, a5, a6, a7, a8, a9, rfl, hk, hp⟩ := hI
    obtain ⟨kn', st', b6, b7, b8, b9, e, g1, g2⟩ := ev_bodyT (ns := ns) (k := k) hz hk st (some (.shr (.int (x : Int)))) a6 a7 a8 a9 none none
    exact ⟨_, e, kn', st', _, b6, b7, b8, b9, rfl, g1, hp.trans g2⟩) ⟨kn0, s0, none, none, none, none, none, rfl, hk0, List.prefix_refl _⟩
  obtain ⟨kn2, hcl, hk2, hp2, hcl2⟩ := ev_closed hz hk1
  have few2 := Kn.few hz hk2
  have good : Good sz kn2 := ⟨hz, hk2.nd, hk2.ok, fun b hb => hp2.subset (hp1.subset (List.mem_map.mpr ⟨b, List.mem_range.mpr hb, rfl⟩)), hcl2⟩
  obtain ⟨ρ3, e3, mx, st3, a11, rfl, hperm⟩ := loopD_inv (T := tgN 11) (F := mixB) (xs := kn2.map arrD) (ρ := rA ns k sz (.shr (.lst (kn2.map arrD))) st1 a5 a6 a7 a8 a9 (some (.own [])) none) (fun i ρ => ∃ (mx : List Arr) (st : Int) (a11 : Option Slt), ρ = rA ns k sz (.shr (.lst (kn2.map arrD))) st a5 a6 a7 a8 a9 (some (.own (mx.map arrD))) a11 ∧ mx.Perm (kn2.take i)) (fun i x ρ hx hI => by
    obtain ⟨mx, st, a11, rfl, hperm⟩ := hI
    have hi : i < kn2.length := by have := (List.getElem?_eq_some_iff.mp hx).1; simpa using this
    have hxe : x = arrD kn2[i] := by
      rw [List.getElem?_map] at hx
      simp [hi] at hx; exact hx.symm
    subst hxe
    have hml : mx.length ≤ 27 := by rw [hperm.length_eq, List.length_take]; omega
    obtain ⟨st', p, e⟩ := ev_mixB (ns := ns) (k := k) (sz := sz) (known := .shr (.lst (kn2.map arrD))) (st := st) (x := kn2[i]) hml a5 a6 a7 a8 a9
    refine ⟨_, _, rfl, e, _, st', _, rfl, ?_⟩
    rw [List.take_succ_eq_append_getElem hi]
    exact perm_ins p hperm) ⟨[], st1, none, rfl, by simp⟩
  rw [List.length_map, List.take_length] at hperm
  refine ⟨mx, good.perm hperm, ?_⟩
  simp only [dn_law_arrows, den_law_arrows]
  show fin (sq (own 3 _) _ [some (.shr (.scr ns)), some (.shr (nD k)), some (.shr (resD sz)), none, none, none, none, none, none, none, none, none]) = _
  rw [sq_ev, own_ev, ev_ids hz, bind_val, bind_val]
  show fin (sq (asg 4 _) _ [some (.shr (.scr ns)), some (.shr (nD k)), some (.shr (resD sz)), some (.own (kn0.map arrD)), none, none, none, none, none, none, none, none]) = _
  have x1 : asg 4 (cal 1 dn_law_next (aC (bin fadd (bin (iI fmod) (bin (iI fmul) (cal 2 dn_law_cell (aC (vr 0) (aC (vr 1) aN))) (kd (.int 1000003))) (kd (.int 2147483647))) (kd (.int 17))) aN)) [some (.shr (.scr ns)), some (.shr (nD k)), some (.shr (resD sz)), some (.own (kn0.map arrD)), none, none, none, none, none, none, none, none] = .val (.nx (rA ns k sz (.own (kn0.map arrD)) s0 none none none none none none none)) := by
    unfold rA; simp [hc1, mm, md, hs0]
  rw [sq_ev, x1, bind_val]; dsimp only
  have x2 : forS (fRng (aC (bin (iI fmod) (cal 2 dn_law_cell (aC (vr 0) (aC (bin fadd (vb 1) (kd (.int 1))) aN))) (kd (.int 5))) aN)) (tgN 5) bodyT (rA ns k sz (.own (kn0.map arrD)) s0 none none none none none none none) = .val (.nx (rA ns k sz (.own (kn1.map arrD)) st1 a5 a6 a7 a8 a9 none none)) := by
    rw [forS_ev]
    have : fRng (aC (bin (iI fmod) (cal 2 dn_law_cell (aC (vr 0) (aC (bin fadd (vb 1) (kd (.int 1))) aN))) (kd (.int 5))) aN) (rA ns k sz (.own (kn0.map arrD)) s0 none none none none none none none) = .val (rng 0 (c2 % 5).toNat) := by unfold rA; simp [hc2', m5, hr]
    rw [this, bind_val, e1]
  show fin (sq (forS (fRng (aC (bin (iI fmod) (cal 2 dn_law_cell (aC (vr 0) (aC (bin fadd (vb 1) (kd (.int 1))) aN))) (kd (.int 5))) aN)) (tgN 5) bodyT) _ _) = _
  rw [sq_ev, x2, bind_val]; dsimp only
  have x3 : movD 3 dm_law_closed (rA ns k sz (.own (kn1.map arrD)) st1 a5 a6 a7 a8 a9 none none) = .val (.nx (rA ns k sz (.shr (.lst (kn2.map arrD))) st1 a5 a6 a7 a8 a9 none none)) := by
    show (noex (dm_law_closed (kn1.map arrD))).bind _ = _
    rw [hcl]; rfl
  rw [sq_ev, x3, bind_val]; dsimp only
  have x4 : own 10 (fLim aN) (rA ns k sz (.shr (.lst (kn2.map arrD))) st1 a5 a6 a7 a8 a9 none none) = .val (.nx (rA ns k sz (.shr (.lst (kn2.map arrD))) st1 a5 a6 a7 a8 a9 (some (.own [])) none)) := by unfold rA; simp
  rw [sq_ev, x4, bind_val]; dsimp only
  show fin (sq (forS (fIt (vr 3)) (tgN 11) mixB) _ (rA ns k sz (.shr (.lst (kn2.map arrD))) st1 a5 a6 a7 a8 a9 (some (.own [])) none)) = _
  have x5 : forS (fIt (vr 3)) (tgN 11) mixB (rA ns k sz (.shr (.lst (kn2.map arrD))) st1 a5 a6 a7 a8 a9 (some (.own [])) none) = .val (.nx (rA ns k sz (.shr (.lst (kn2.map arrD))) st3 a5 a6 a7 a8 a9 (some (.own (mx.map arrD))) a11)) := by
    rw [forS_ev]
    show (R.val (kn2.map arrD)).bind _ = _
    rw [bind_val, e3]
  rw [sq_ev, x5, bind_val]
  rfl
end
end DL

set_option Elab.async false
set_option linter.all false
set_option maxRecDepth 100000
set_option maxHeartbeats 1000000
namespace DL
open PySem L2 Ar
set_option autoImplicit false
noncomputable def plD : List Arr → Nat → List (KA × D)
  | [], _ => []
  | x :: r, s => (keyA x, nD s) :: plD r (s + 1)
theorem pl_len : ∀ (l : List Arr) (s : Nat), (plD l s).length = l.length
  | [], _ => rfl
  | x :: r, s => by simp [plD, pl_len r (s + 1)]
theorem pl_any (x : Arr) : ∀ (l : List Arr) (s : Nat), ((plD l s).any fun p => decide (p.1 = keyA x)) = decide (x ∈ l)
  | [], _ => by simp [plD]
  | y :: r, s => by
    show (decide (keyA y = keyA x) || (plD r (s + 1)).any fun p => decide (p.1 = keyA x)) = _
    rw [pl_any x r (s + 1)]
    by_cases h : y = x
    · subst h; simp
    · have : ¬ keyA y = keyA x := fun e => h (keyA_inj e)
      have h' : ¬ x = y := fun e => h e.symm
      simp [this, h']
theorem pl_app (x : Arr) : ∀ (l : List Arr) (s : Nat), plD (l ++ [x]) s = plD l s ++ [(keyA x, nD (s + l.length))]
  | [], s => rfl
  | y :: r, s => by
    show (keyA y, nD s) :: plD (r ++ [x]) (s + 1) = _
    rw [pl_app x r (s + 1)]
    have : s + 1 + r.length = s + (y :: r).length := by simp; omega
    rw [this]; rfl
theorem pl_put {x : Arr} {l : List Arr} (h : x ∉ l) : kput (plD l 0) (keyA x) (nD l.length) = plD (l ++ [x]) 0 := by
  unfold kput
  rw [pl_any, decide_eq_false h, if_neg (by decide), pl_app, Nat.zero_add]
theorem pl_get {x : Arr} : ∀ {l : List Arr} (s : Nat), x ∈ l → kget (plD l s) (keyA x) = some (nD (s + l.idxOf x))
  | [], _, h => by cases h
  | y :: r, s, h => by
    unfold kget plD
    by_cases e : y = x
    · subst e; simp
    · have e' : ¬ keyA y = keyA x := fun z => e (keyA_inj z)
      rw [List.find?_cons_of_neg (by simpa using e')]
      have hr : x ∈ r := by
        rcases List.mem_cons.mp h with q | q
        · exact absurd q.symm e
        · exact q
      have ih := pl_get (l := r) (s + 1) hr
      unfold kget at ih
      rw [ih]
      have : (y :: r).idxOf x = r.idxOf x + 1 := by
        rw [List.idxOf_cons]
        have : (y == x) = false := by simpa using e
        rw [this]; rfl
      rw [this]
      congr 2
      omega
noncomputable def rP (ns : List Int) (k : Nat) (sz : List Nat) (kn : List Arr) (pl : List (KA × D)) (a5 a6 a7 a8 a9 a10 a11 : Option Slt) : Rho := [some (.shr (.scr ns)), some (.shr (nD k)), some (.shr (resD sz)), some (.shr (.lst (kn.map arrD))), some (.dic pl), a5, a6, a7, a8, a9, a10, a11]
section
variable {ns : List Int} {k : Nat} {sz : List Nat} {kn : List Arr}
theorem fix_kn {i : Nat} (h : i < kn.length) : fix (.lst (kn.map arrD)) (.int (i : Int)) = .val (arrD kn[i]) := fix_l (by simp [h])
theorem ev_place (g : Good sz kn) (a6 a7 a8 a9 a10 a11 : Option Slt) : ∃ a5, forS (fRng (aC (una flen (vb 3)) aN)) (tgN 5) (dput 4 (bin fix (vb 3) (vb 5)) (vr 5)) (rP ns k sz kn [] none a6 a7 a8 a9 a10 a11) = .val (.nx (rP ns k sz kn (plD kn 0) a5 a6 a7 a8 a9 a10 a11)) := by
  have few := g.few
  obtain ⟨ρ', e, a5, rfl⟩ := loop_rng (i := 5) (n := kn.length) (F := dput 4 (bin fix (vb 3) (vb 5)) (vr 5)) (ρ := rP ns k sz kn [] none a6 a7 a8 a9 a10 a11) (fun i ρ => ∃ a5, ρ = rP ns k sz kn (plD (kn.take i) 0) a5 a6 a7 a8 a9 a10 a11) (fun i ρ hi hI => by
    obtain ⟨a5, rfl⟩ := hI
    have hx := fix_kn hi
    have hl : (kn.take i).length = i := by rw [List.length_take]; omega
    have nin : kn[i] ∉ kn.take i := fun h => by
      obtain ⟨j, hj, e⟩ := List.mem_take_iff_getElem.mp h
      exact (List.pairwise_iff_getElem.mp g.nd) j i (by omega) hi (by omega) e
    refine ⟨_, ?_, some (.shr (.int (i : Int))), rfl⟩
    show dput 4 _ _ (rP ns k sz kn (plD (kn.take i) 0) (some (.shr (.int (i : Int)))) a6 a7 a8 a9 a10 a11) = _
    rw [dput_ok (kvs := plD (kn.take i) 0) (kd := arrD kn[i]) (d := nD i) _ rfl (by unfold rP; simp [hx]) rfl (keyD_arr _) (by rw [pl_len]; omega)]
    have := pl_put nin
    rw [hl] at this
    rw [this, ← List.take_succ_eq_append_getElem hi]
    rfl) ⟨none, rfl⟩
  refine ⟨a5, ?_⟩
  rw [forS_ev]
  have : fRng (aC (una flen (vb 3)) aN) (rP ns k sz kn [] none a6 a7 a8 a9 a10 a11) = .val (rng 0 kn.length) := by
    unfold rP; simp; exact rngD_nat (by omega)
  rw [this, bind_val, e, List.take_length]
noncomputable abbrev entB : Rho → R Out := sq (asg 10 (una fneg (kd (.int 1))))
  (sq (DL.iff (tst (bin feq (bin fix (vb 7) (kd (.int 1))) (bin fix (vb 9) (kd (.int 0)))))
  (asg 10 (dget 4 (eT (aC (bin fix (vb 7) (kd (.int 0))) (aC (bin fix (vb 9) (kd (.int 1))) (aC (una ftup (eLs (fCmp (fIt (bin fix (vb 7) (kd (.int 2)))) 1 (tgN 12) tT (bin fix (bin fix (vb 9) (kd (.int 2))) (vb 12))))) aN))))))
  nxt)
  (app 8 (vr 10)))
theorem ev_entB (g : Good sz kn) {x y : Arr} (hx : x ∈ kn) (hy : y ∈ kn) {row : List D} (hl : row.length ≤ 27) (a5 a6 a10 a11 : Option Slt) :
    ∃ b10, entB (rP ns k sz kn (plD kn 0) a5 a6 (some (.shr (arrD x))) (some (.own row)) (some (.shr (arrD y))) a10 a11) = .val (.nx (rP ns k sz kn (plD kn 0) a5 a6 (some (.shr (arrD x))) (some (.own (row ++ [.int (mk kn x y)]))) (some (.shr (arrD y))) b10 a11)) := by
  have x1 : asg 10 (una fneg (kd (.int 1))) (rP ns k sz kn (plD kn 0) a5 a6 (some (.shr (arrD x))) (some (.own row)) (some (.shr (arrD y))) a10 a11) = .val (.nx (rP ns k sz kn (plD kn 0) a5 a6 (some (.shr (arrD x))) (some (.own row)) (some (.shr (arrD y))) (some (.shr (.int (-1)))) a11)) := by unfold rP; simp
  have last : ∀ z : Int, app 8 (vr 10) (rP ns k sz kn (plD kn 0) a5 a6 (some (.shr (arrD x))) (some (.own row)) (some (.shr (arrD y))) (some (.shr (.int z))) a11) = .val (.nx (rP ns k sz kn (plD kn 0) a5 a6 (some (.shr (arrD x))) (some (.own (row ++ [.int z]))) (some (.shr (arrD y))) (some (.shr (.int z))) a11)) := fun z => by
    rw [app_ok (xs := row) (d := .int z) _ rfl rfl (by omega)]; rfl
  have hT : tst (bin feq (bin fix (vb 7) (kd (.int 1))) (bin fix (vb 9) (kd (.int 0)))) (rP ns k sz kn (plD kn 0) a5 a6 (some (.shr (arrD x))) (some (.own row)) (some (.shr (arrD y))) (some (.shr (.int (-1)))) a11) = .val (decide (x.2.1 = y.1)) := by
    unfold rP; simp; omega
  show ∃ b10, sq _ _ _ = _
  rw [sq_ev, x1, bind_val]; dsimp only
  rw [sq_ev, iff_ev, hT, bind_val]
  unfold mk
  by_cases e : x.2.1 = y.1
  · rw [decide_eq_true e, if_pos rfl, if_pos e]
    have hc := comp_ev g.szm (g.ok x hx) (g.ok y hy) e (src := fIt (bin fix (vb 7) (kd (.int 2)))) (el := bin fix (bin fix (vb 9) (kd (.int 2))) (vb 12)) (i := 12) (ρ := rP ns k sz kn (plD kn 0) a5 a6 (some (.shr (arrD x))) (some (.own row)) (some (.shr (arrD y))) (some (.shr (.int (-1)))) a11) (by simp [rP]) (fun k => by simp [rP])
    have hv : eT (aC (bin fix (vb 7) (kd (.int 0))) (aC (bin fix (vb 9) (kd (.int 1))) (aC (una ftup (eLs (fCmp (fIt (bin fix (vb 7) (kd (.int 2)))) 1 (tgN 12) tT (bin fix (bin fix (vb 9) (kd (.int 2))) (vb 12))))) aN))) (rP ns k sz kn (plD kn 0) a5 a6 (some (.shr (arrD x))) (some (.own row)) (some (.shr (arrD y))) (some (.shr (.int (-1)))) a11) = .val (arrD (comp x y)) := by
      simp only [eT_ev, aC_ev, una_ev, eLs_ev, hc]
      unfold rP; simp; rfl
    have hg := pl_get 0 (g.cl x hx y hy e)
    rw [Nat.zero_add] at hg
    rw [asg_ev, dget_ok (kvs := plD kn 0) _ rfl hv (keyD_arr _) hg, bind_val, bind_val]; dsimp only
    exact ⟨_, last _⟩
  · rw [decide_eq_false e, if_neg (by decide), if_neg e]
    exact ⟨_, last _⟩
noncomputable abbrev rowP : Rho → R Out := sq (own 8 (fLim aN))
  (sq (forS (fIt (vr 3)) (tgN 9) entB)
  (fz 8 (app 6 (vr 8))))
theorem ev_rowP (g : Good sz kn) {x : Arr} (hx : x ∈ kn) {tab : List D} (hl : tab.length ≤ 27) (a5 a8 a9 a10 a11 : Option Slt) :
    ∃ b8 b9 b10, rowP (rP ns k sz kn (plD kn 0) a5 (some (.own tab)) (some (.shr (arrD x))) a8 a9 a10 a11) = .val (.nx (rP ns k sz kn (plD kn 0) a5 (some (.own (tab ++ [rowD (kn.map fun y => mk kn x y)]))) (some (.shr (arrD x))) b8 b9 b10 a11)) := by
  have few := g.few
  obtain ⟨ρ', e, a9', a10', rfl⟩ := loopD_inv (T := tgN 9) (F := entB) (xs := kn.map arrD) (ρ := rP ns k sz kn (plD kn 0) a5 (some (.own tab)) (some (.shr (arrD x))) (some (.own [])) a9 a10 a11) (fun i ρ => ∃ a9 a10, ρ = rP ns k sz kn (plD kn 0) a5 (some (.own tab)) (some (.shr (arrD x))) (some (.own (((kn.take i).map fun y => mk kn x y).map D.int))) a9 a10 a11) (fun i d ρ hd hI => by
    obtain ⟨a9, a10, rfl⟩ := hI
    have hi : i < kn.length := by have := (List.getElem?_eq_some_iff.mp hd).1; simpa using this
    have hde : d = arrD kn[i] := by
      rw [List.getElem?_map] at hd
      simp [hi] at hd; exact hd.symm
    subst hde
    obtain ⟨b10, e⟩ := ev_entB (ns := ns) (k := k) g hx (List.getElem_mem hi) (row := ((kn.take i).map fun y => mk kn x y).map D.int) (by simp; omega) a5 (some (.own tab)) a10 a11
    refine ⟨_, _, rfl, e, some (.shr (arrD kn[i])), b10, ?_⟩
    rw [List.take_succ_eq_append_getElem hi, List.map_append, List.map_append]
    rfl) ⟨a9, a10, rfl⟩
  rw [List.length_map, List.take_length] at e
  refine ⟨some (.shr (rowD (kn.map fun y => mk kn x y))), a9', a10', ?_⟩
  show sq _ _ _ = _
  have x1 : own 8 (fLim aN) (rP ns k sz kn (plD kn 0) a5 (some (.own tab)) (some (.shr (arrD x))) a8 a9 a10 a11) = .val (.nx (rP ns k sz kn (plD kn 0) a5 (some (.own tab)) (some (.shr (arrD x))) (some (.own [])) a9 a10 a11)) := by unfold rP; simp
  rw [sq_ev, x1, bind_val]; dsimp only
  rw [sq_ev, forS_ev]
  show ((((R.val (kn.map arrD)).bind _)).bind _) = _
  rw [bind_val, e, bind_val]; dsimp only
  rw [fz_ev]
  show app 6 (vr 8) (rP ns k sz kn (plD kn 0) a5 (some (.own tab)) (some (.shr (arrD x))) (some (.shr (rowD (kn.map fun y => mk kn x y)))) a9' a10' a11) = _
  rw [app_ok (xs := tab) (d := rowD (kn.map fun y => mk kn x y)) _ rfl rfl (by omega)]
  rfl
theorem ev_parts (ns : List Int) (k : Nat) : ∃ sz kn, Good sz kn ∧ dn_law_parts [.scr ns, .int (k : Int)] = .val (.tup [ensD (enOf kn), resD (reOf sz kn), tabD (tbOf kn), .lst (kn.map arrD), resD sz]) := by
  obtain ⟨sz, hz, hs⟩ := ev_sizes ns k
  obtain ⟨l1, l4, l3⟩ := szs_len sz hz
  obtain ⟨kn, g, ha⟩ := ev_arrows hz ns (k + 1)
  have ha' : dn_law_arrows [.scr ns, .int ((k : Int) + 1), resD sz] = .val (.lst (kn.map arrD)) := ha
  have few := g.few
  obtain ⟨a5, ep⟩ := ev_place (ns := ns) (k := k) g none none none none none none
  obtain ⟨ρ', et, a7, a8, a9, a10, rfl⟩ := loopD_inv (T := tgN 7) (F := rowP) (xs := kn.map arrD) (ρ := rP ns k sz kn (plD kn 0) a5 (some (.own [])) none none none none none) (fun i ρ => ∃ a7 a8 a9 a10, ρ = rP ns k sz kn (plD kn 0) a5 (some (.own ((kn.take i).map fun x => rowD (kn.map fun y => mk kn x y)))) a7 a8 a9 a10 none) (fun i d ρ hd hI => by
    obtain ⟨a7, a8, a9, a10, rfl⟩ := hI
    have hi : i < kn.length := by have := (List.getElem?_eq_some_iff.mp hd).1; simpa using this
    have hde : d = arrD kn[i] := by
      rw [List.getElem?_map] at hd
      simp [hi] at hd; exact hd.symm
    subst hde
    obtain ⟨b8, b9, b10, e⟩ := ev_rowP (ns := ns) (k := k) g (List.getElem_mem hi) (tab := (kn.take i).map fun x => rowD (kn.map fun y => mk kn x y)) (by simp; omega) a5 a8 a9 a10 none
    refine ⟨_, _, rfl, e, some (.shr (arrD kn[i])), b8, b9, b10, ?_⟩
    rw [List.take_succ_eq_append_getElem hi, List.map_append]
    rfl) ⟨none, none, none, none, rfl⟩
  rw [List.length_map, List.take_length] at et
  refine ⟨sz, kn, g, ?_⟩
  simp only [dn_law_parts, den_law_parts]
  show fin (sq (asg 2 _) _ [some (.shr (.scr ns)), some (.shr (nD k)), none, none, none, none, none, none, none, none, none, none]) = _
  have x1 : asg 2 (cal 2 dn_law_sizes (aC (vr 0) (aC (vr 1) aN))) [some (.shr (.scr ns)), some (.shr (nD k)), none, none, none, none, none, none, none, none, none, none] = .val (.nx [some (.shr (.scr ns)), some (.shr (nD k)), some (.shr (resD sz)), none, none, none, none, none, none, none, none, none]) := by simp [hs]
  rw [sq_ev, x1, bind_val]; dsimp only
  have x2 : asg 3 (cal 3 dn_law_arrows (aC (vr 0) (aC (bin fadd (vb 1) (kd (.int 1))) (aC (vr 2) aN)))) [some (.shr (.scr ns)), some (.shr (nD k)), some (.shr (resD sz)), none, none, none, none, none, none, none, none, none] = .val (.nx [some (.shr (.scr ns)), some (.shr (nD k)), some (.shr (resD sz)), some (.shr (.lst (kn.map arrD))), none, none, none, none, none, none, none, none]) := by simp [ha']
  rw [sq_ev, x2, bind_val]; dsimp only
  rw [sq_ev, dnew_ev, bind_val]; dsimp only
  show fin (sq (forS _ (tgN 5) _) _ (rP ns k sz kn [] none none none none none none none)) = _
  rw [sq_ev, ep, bind_val]; dsimp only
  have x3 : own 6 (fLim aN) (rP ns k sz kn (plD kn 0) a5 none none none none none none) = .val (.nx (rP ns k sz kn (plD kn 0) a5 (some (.own [])) none none none none none)) := by unfold rP; simp
  rw [sq_ev, x3, bind_val]; dsimp only
  have x4 : forS (fIt (vr 3)) (tgN 7) rowP (rP ns k sz kn (plD kn 0) a5 (some (.own [])) none none none none none) = .val (.nx (rP ns k sz kn (plD kn 0) a5 (some (.own (kn.map fun x => rowD (kn.map fun y => mk kn x y)))) a7 a8 a9 a10 none)) := by
    rw [forS_ev]
    show (R.val (kn.map arrD)).bind _ = _
    rw [bind_val, et]
  show fin (sq (forS (fIt (vr 3)) (tgN 7) rowP) _ _) = _
  rw [sq_ev, x4, bind_val]; dsimp only
  have hrest : fCmp (fRng (aC (una flen (vb 2)) aN)) 1 (tgN 12) tT (dget 4 (eT (aC (vr 12) (aC (vr 12) (aC (eTupRg (aC (bin fix (vb 2) (vb 12)) aN)) aN))))) (rP ns k sz kn (plD kn 0) a5 (some (.own (kn.map fun x => rowD (kn.map fun y => mk kn x y)))) a7 a8 a9 a10 none) = .val ((reOf sz kn).map nD) := by
    have := fCmp_rng (src := fRng (aC (una flen (vb 2)) aN)) (m := sz.length) (n := 1) (i := 12) (e := dget 4 (eT (aC (vr 12) (aC (vr 12) (aC (eTupRg (aC (bin fix (vb 2) (vb 12)) aN)) aN))))) (g := fun b => nD (kn.idxOf (idm sz b))) (ρ := rP ns k sz kn (plD kn 0) a5 (some (.own (kn.map fun x => rowD (kn.map fun y => mk kn x y)))) a7 a8 a9 a10 none) (by unfold rP; simp; exact rngD_nat (by omega)) (by omega) fun b hb => by
      have f1 := fix_siz (sz := sz) hb
      have hs : sz.getD b 0 ≤ 3 := by rw [getD_lt hb]; exact l3 _ (List.getElem_mem hb)
      have hrg := rgT_nat (n := sz.getD b 0) (by omega)
      have hg := pl_get 0 (g.rest b hb)
      rw [Nat.zero_add] at hg
      refine dget_ok (kvs := plD kn 0) (kd := arrD (idm sz b)) _ rfl ?_ (keyD_arr _) hg
      unfold rP
      simp [-List.getD_eq_getElem?_getD, f1, hrg]; rfl
    rw [this]
    unfold reOf
    rw [List.map_map]; rfl
  rw [sq_ev, asg_ev, eLs_ev, hrest, bind_val, bind_val, bind_val]; dsimp only
  rw [fz_ev]
  have hens : ∀ t a7 a8 a9 a10 a11, fCmp (fIt (vr 3)) 1 (tgN 12) tT (eT (aC (bin fix (vb 12) (kd (.int 0))) (aC (bin fix (vb 12) (kd (.int 1))) aN))) (rP ns k sz kn (plD kn 0) a5 t a7 a8 a9 a10 a11) = .val ((enOf kn).map endD) := fun t a7 a8 a9 a10 a11 => by
    rw [fCmp_lst (f := arrD) (l := kn) (g := fun x => endD (x.1, x.2.1)) rfl (by omega) fun x _ => by unfold rP; simp; rfl]
    unfold enOf
    rw [List.map_map]; rfl
  have htab : D.lst (kn.map fun x => rowD (kn.map fun y => mk kn x y)) = tabD (tbOf kn) := by
    unfold tabD tbOf; rw [List.map_map]; rfl
  show fin (ret _ (rP ns k sz kn (plD kn 0) a5 (some (.shr (.lst (kn.map fun x => rowD (kn.map fun y => mk kn x y))))) a7 a8 a9 a10 (some (.shr (resD (reOf sz kn)))))) = _
  rw [htab, ret_ev, eT_ev, aC_ev, eLs_ev, hens, bind_val, bind_val]
  unfold rP
  simp; rfl
theorem ev_hall {sz kn : List _} (g : Good sz kn) (r : List D) : dn_law_hall [.tup (ensD (enOf kn) :: resD (reOf sz kn) :: tabD (tbOf kn) :: r)] = .val (.ob (ensD (enOf kn)) (resD (reOf sz kn)) (tabD (tbOf kn))) := by
  have h := hall_of g
  have n1 := h.na40
  have n2 := h.tl
  simp only [dn_law_hall, den_law_hall]
  have hf : fCmp (fIt (bin fix (vb 0) (kd (.int 2)))) 1 (tgN 1) tT (eLs (fIt (vb 1))) [some (.shr (.tup (ensD (enOf kn) :: resD (reOf sz kn) :: tabD (tbOf kn) :: r)))] = .val ((tbOf kn).map rowD) := fCmp_lst (f := rowD) (by simp; rfl) (by omega) fun r _ => rfl
  have eh := ev_Hall h
  show fin (ret _ [some (.shr (.tup (ensD (enOf kn) :: resD (reOf sz kn) :: tabD (tbOf kn) :: r)))]) = _
  have ha : aC (eLs (fIt (bin fix (vb 0) (kd (.int 0))))) (aC (eLs (fIt (bin fix (vb 0) (kd (.int 1))))) (aC (eLs (fCmp (fIt (bin fix (vb 0) (kd (.int 2)))) 1 (tgN 1) tT (eLs (fIt (vb 1))))) aN)) [some (.shr (.tup (ensD (enOf kn) :: resD (reOf sz kn) :: tabD (tbOf kn) :: r)))] = .val [ensD (enOf kn), resD (reOf sz kn), tabD (tbOf kn)] := by
    simp only [aC_ev, eLs_ev, hf]
    simp; rfl
  rw [ret_ev, mkH_ev, ha, bind_val]; dsimp only
  rw [eh]; rfl
end
end DL

set_option Elab.async false
set_option linter.all false
set_option maxRecDepth 100000
set_option maxHeartbeats 1000000
namespace DL
open PySem L2 Ar
set_option autoImplicit false
section
variable (ρ : Rho)
@[simp] theorem calX_ev (n : Nat) (den : List D → R D) (a : Rho → R (List D)) : calX n den a ρ = (a ρ).bind fun ds => if ds.length = n then den ds else .bad := Eq.trans rfl rfl
@[simp] theorem fin_exc (c : Nat) : fin (.exc c) = .exc c := Eq.trans rfl rfl
theorem rse_ev {c : Nat} {a : Rho → R D} {ρ : Rho} {i : Int} (h : a ρ = .val (.int i)) (hi : i.natAbs < 10 ^ 40) : rse c (fS a) ρ = .exc c := by
  unfold rse fS
  rw [h]
  dsimp only
  rw [if_pos hi]
@[simp] theorem fisNot_non : fisNot .non = .bl false := Eq.trans rfl rfl
end
theorem cmpD_filt {α : Type} {T : D → Rho → Option Rho} {t : Rho → R Bool} {e : Rho → R D} {f g : α → D} {p : α → Bool} {ρ : Rho} : ∀ {l : List α}, (∀ a ∈ l, ∃ ρ1, T (f a) ρ = some ρ1 ∧ t ρ1 = .val (p a) ∧ e ρ1 = .val (g a)) → cmpD T t e (l.map f) ρ = .val ((l.filter p).map g)
  | [], _ => rfl
  | a :: r, h => by
    obtain ⟨ρ1, h1, h2, h3⟩ := h a (by simp)
    have ih := cmpD_filt (T := T) (t := t) (e := e) (f := f) (g := g) (p := p) (ρ := ρ) (l := r) fun b hb => h b (by simp [hb])
    rw [List.map_cons]
    unfold cmpD
    rw [h1]
    show (noE (t ρ1)).bind _ = _
    rw [h2, List.filter_cons]
    cases q : p a with
    | true => simp [h3, ih]
    | false => simp [ih]
theorem fCmp_filt {α : Type} {src : Rho → R (List D)} {n : Nat} {T : D → Rho → Option Rho} {t : Rho → R Bool} {e : Rho → R D} {f g : α → D} {p : α → Bool} {l : List α} {ρ : Rho} (hs : src ρ = .val (l.map f)) (hl : l.length ≤ 100000)
    (h : ∀ a ∈ l, ∃ ρ1, T (f a) (ρ ++ List.replicate n none) = some ρ1 ∧ t ρ1 = .val (p a) ∧ e ρ1 = .val (g a)) : fCmp src n T t e ρ = .val ((l.filter p).map g) := by
  unfold fCmp
  rw [hs, bind_val, if_pos (show (l.map f).length ≤ LIM by rw [List.length_map]; exact hl), cmpD_filt h]
  rfl
theorem rng_map (n : Nat) : rng 0 n = (List.range n).map nD := by
  unfold rng nD
  apply List.map_congr_left
  intro k _
  rw [Int.zero_add]
theorem enu_map : ∀ (l : List D) (s : Nat), enu s l = (List.range l.length).map fun i => .tup [nD (s + i), l.getD i .non]
  | [], s => rfl
  | x :: r, s => by
    unfold enu
    rw [enu_map r (s + 1), List.length_cons, List.range_succ_eq_map, List.map_cons, List.map_map]
    simp only [Nat.add_zero, List.getD_cons_zero]
    congr 1
    apply List.map_congr_left
    intro i _
    simp only [Function.comp, List.getD_cons_succ]
    rw [show s + 1 + i = s + (i + 1) by omega]
theorem loop_lst {α : Type} {T : D → Rho → Option Rho} {F : Rho → R Out} {f : α → D} (I : Rho → Prop) : ∀ {l : List α} {ρ : Rho}, (∀ a ∈ l, ∀ ρ, I ρ → ∃ ρ1 ρ2, T (f a) ρ = some ρ1 ∧ F ρ1 = .val (.nx ρ2) ∧ I ρ2) → I ρ → ∃ ρ', loopD T F (l.map f) ρ = .val (.nx ρ') ∧ I ρ'
  | [], ρ, _, h => ⟨ρ, rfl, h⟩
  | a :: r, ρ, step, h => by
    obtain ⟨ρ1, ρ2, h1, h2, h3⟩ := step a (by simp) ρ h
    rw [List.map_cons]
    unfold loopD
    rw [h1]
    dsimp only
    rw [h2]
    exact loop_lst (T := T) (F := F) (f := f) I (fun b hb => step b (by simp [hb])) h3
theorem feq_end (p q : Nat × Nat) : feq (endD p) (endD q) = .val (.bl (decide (p = q))) := by
  by_cases h : p = q
  · subst h; rw [feq_same (pln_end _)]; simp
  · rw [feq_diff (pln_end _) (pln_end _) (fun z => h (endD_inj.mp z))]; simp [h]
end DL

set_option Elab.async false
set_option linter.all false
set_option maxRecDepth 100000
set_option maxHeartbeats 1000000
namespace DL
open PySem L2 Ar
set_option autoImplicit false
section
variable {en : List (Nat × Nat)} {re : List Nat} {tb : List (List Int)}
noncomputable def hlD (en : List (Nat × Nat)) (re : List Nat) (tb : List (List Int)) : D := .ob (ensD en) (resD re) (tabD tb)
@[simp] theorem fld_e : fldD 0 (hlD en re tb) = .val (ensD en) := Eq.trans rfl rfl
@[simp] theorem fld_r : fldD 1 (hlD en re tb) = .val (resD re) := Eq.trans rfl rfl
@[simp] theorem fld_t : fldD 2 (hlD en re tb) = .val (tabD tb) := Eq.trans rfl rfl
theorem ev_arrow_ok {a : Nat} (h : a < en.length) : dn_check_arrow [hlD en re tb, .int (a : Int)] = .val .non := by
  simp only [dn_check_arrow, den_check_arrow]
  show fin (DL.iff _ _ _ [some (.shr (hlD en re tb)), some (.shr (.int (a : Int)))]) = _
  simp [below_nat h]
theorem ev_arrow_no {z : Int} (h : ¬ (0 ≤ z ∧ z < en.length)) (hz : z.natAbs < 10 ^ 40) : dn_check_arrow [hlD en re tb, .int z] = .exc 1 := by
  simp only [dn_check_arrow, den_check_arrow]
  show fin (DL.iff _ _ _ [some (.shr (hlD en re tb)), some (.shr (.int z))]) = _
  have e : (decide (0 ≤ z) && decide (z < (en.length : Int))) = false := by
    rw [Bool.eq_false_iff]; intro q; apply h; simpa using q
  have e2 : rse 1 (fS (vb 1)) [some (.shr (hlD en re tb)), some (.shr (.int z))] = .exc 1 := rse_ev rfl hz
  simp only [iff_ev, notB_ev, tst_ev, cal_ev, e2]
  simp [ev_is_below, e]
theorem ev_box_ok {a : Nat} (h : a < re.length) : dn_check_box [hlD en re tb, .int (a : Int)] = .val .non := by
  simp only [dn_check_box, den_check_box]
  show fin (DL.iff _ _ _ [some (.shr (hlD en re tb)), some (.shr (.int (a : Int)))]) = _
  simp [below_nat h]
theorem ev_box_no {z : Int} (h : ¬ (0 ≤ z ∧ z < re.length)) (hz : z.natAbs < 10 ^ 40) : dn_check_box [hlD en re tb, .int z] = .exc 2 := by
  simp only [dn_check_box, den_check_box]
  show fin (DL.iff _ _ _ [some (.shr (hlD en re tb)), some (.shr (.int z))]) = _
  have e : (decide (0 ≤ z) && decide (z < (re.length : Int))) = false := by
    rw [Bool.eq_false_iff]; intro q; apply h; simpa using q
  have e2 : rse 2 (fS (vb 1)) [some (.shr (hlD en re tb)), some (.shr (.int z))] = .exc 2 := rse_ev rfl hz
  simp only [iff_ev, notB_ev, tst_ev, cal_ev, e2]
  simp [ev_is_below, e]
noncomputable def btw (en : List (Nat × Nat)) (a b : Nat) : List Nat := (List.range en.length).filter fun i => decide (en.getD i (0, 0) = (a, b))
theorem ev_which {c : Nat} (h : c = 1 ∨ c = 2) : dn_law_which [.exn c] = .val (nD c) := by
  rcases h with rfl | rfl
  · exact Eq.trans rfl rfl
  · exact Eq.trans rfl rfl
end
end DL

set_option Elab.async false
set_option linter.all false
set_option maxRecDepth 100000
set_option maxHeartbeats 1000000
namespace DL
open PySem L2 Ar
set_option autoImplicit false
section
variable {en : List (Nat × Nat)} {re : List Nat} {tb : List (List Int)} {k4 k5 : D}
noncomputable def prD (en : List (Nat × Nat)) (re : List Nat) (tb : List (List Int)) (k4 k5 : D) : D := .tup [ensD en, resD re, tabD tb, k4, k5]
@[simp] theorem prD_0 : fix (prD en re tb k4 k5) (.int 0) = .val (ensD en) := fix_t0 _ _
@[simp] theorem prD_1 : fix (prD en re tb k4 k5) (.int 1) = .val (resD re) := fix_t1 _ _ _
@[simp] theorem prD_2 : fix (prD en re tb k4 k5) (.int 2) = .val (tabD tb) := fix_t2 _ _ _ _
theorem ev_lbetween (h : HallN en re tb) (a b : Nat) : dn_law_between [prD en re tb k4 k5, .int (a : Int), .int (b : Int)] = .val (.lst ((btw en a b).map nD)) := by
  simp only [dn_law_between, den_law_between]
  show fin (ret _ [some (.shr (prD en re tb k4 k5)), some (.shr (.int (a : Int))), some (.shr (.int (b : Int)))]) = _
  have n40 := h.na40
  have er := rngD_nat (n := en.length) (by omega)
  have hc : fCmp (fRng (aC (una flen (bin fix (vb 0) (kd (.int 0)))) aN)) 1 (tgN 3) (tst (bin feq (bin fix (bin fix (vb 0) (kd (.int 0))) (vb 3)) (eT (aC (vr 1) (aC (vr 2) aN))))) (vr 3) [some (.shr (prD en re tb k4 k5)), some (.shr (.int (a : Int))), some (.shr (.int (b : Int)))] = .val ((btw en a b).map nD) := by
    unfold btw
    refine fCmp_filt (f := nD) (l := List.range en.length) ?_ (by rw [List.length_range]; omega) fun i hi => ?_
    · simp [er, rng_map]
    · have hi := List.mem_range.mp hi
      refine ⟨_, rfl, ?_, rfl⟩
      have := feq_end (en.getD i (0, 0)) (a, b)
      have fe := fix_ens hi
      simp only [tst_ev, bin_ev, eT_ev, aC_ev]
      simp [-List.getD_eq_getElem?_getD, fe, nD]
      show (feq (endD (en.getD i (0, 0))) (endD (a, b))).bind asB = _
      rw [this]; rfl
  simp only [ret_ev, eLs_ev, hc]
  rfl
theorem tryD_exc {S : List Nat} {ie c : Nat} {F G : Rho → R Out} {ρ ρ' : Rho} (h : F ρ = .exc c) (hc : c ∈ S) (hg : G (ρ.set ie (some (.shr (.exn c)))) = .val (.nx ρ')) : tryD S ie F G ρ = .val (.nx (ρ'.set ie none)) := by
  unfold tryD
  rw [h]
  dsimp only
  rw [if_pos hc, hg]
end
end DL

set_option Elab.async false
set_option linter.all false
set_option maxRecDepth 100000
set_option maxHeartbeats 1000000
namespace DL
open PySem L2 Ar
set_option autoImplicit false
@[simp] theorem ifV_ev (ρ : Rho) (t : Rho → R Bool) (a b : Rho → R D) : ifV t a b ρ = (t ρ).bind fun c => if c = true then a ρ else b ρ := Eq.trans rfl rfl
@[simp] theorem calF_ev {α : Type} (ρ : Rho) (n : Nat) (den : List D → R α) (a : Rho → R (List D)) : calF n den a ρ = (a ρ).bind fun ds => if ds.length = n then den ds else .bad := Eq.trans rfl rfl
theorem sqF_nx {F : Rho → R Out} {G : Rho → R (List D)} {ρ ρ' : Rho} (h : F ρ = .val (.nx ρ')) : sqF F G ρ = G ρ' := by unfold sqF; rw [h]
theorem sqF_exc {F : Rho → R Out} {G : Rho → R (List D)} {ρ : Rho} {c : Nat} (h : F ρ = .exc c) : sqF F G ρ = .exc c := by unfold sqF; rw [h]
theorem sqP_nx {F : Rho → R Out} {G : Rho → R PR} {ρ ρ' : Rho} (h : F ρ = .val (.nx ρ')) : sqP F G ρ = G ρ' := by unfold sqP; rw [h]
theorem tryD_val {S : List Nat} {ie : Nat} {F G : Rho → R Out} {ρ : Rho} {o : Out} (h : F ρ = .val o) : tryD S ie F G ρ = .val o := by unfold tryD; rw [h]
section
variable {en : List (Nat × Nat)} {re : List Nat} {tb : List (List Int)}
noncomputable def thD (z : Int) : D := if z = -1 then .non else .int z
theorem ev_then (h : HallN en re tb) {a b : Nat} (ha : a < en.length) (hb : b < en.length) : dn_then [hlD en re tb, .int (a : Int), .int (b : Int)] = .val (thD (ent tb a b)) := by
  simp only [dn_then, den_then]
  show fin (sq _ _ [some (.shr (hlD en re tb)), some (.shr (.int (a : Int))), some (.shr (.int (b : Int))), none]) = _
  have ht := h.tl
  have e1 := ev_arrow_ok (re := re) (tb := tb) ha
  have e2 := ev_arrow_ok (re := re) (tb := tb) hb
  have t1 := fix_tab (tb := tb) (show a < tb.length by omega)
  have r1 := fix_row (r := tb.getD a []) (i := b) (by rw [h.rl _ ha]; exact hb)
  have x1 : drp (calX 2 dn_check_arrow (aC (vr 0) (aC (vr 1) aN))) [some (.shr (hlD en re tb)), some (.shr (.int (a : Int))), some (.shr (.int (b : Int))), none] = .val (.nx [some (.shr (hlD en re tb)), some (.shr (.int (a : Int))), some (.shr (.int (b : Int))), none]) := by simp [e1]
  have x2 : drp (calX 2 dn_check_arrow (aC (vr 0) (aC (vr 2) aN))) [some (.shr (hlD en re tb)), some (.shr (.int (a : Int))), some (.shr (.int (b : Int))), none] = .val (.nx [some (.shr (hlD en re tb)), some (.shr (.int (a : Int))), some (.shr (.int (b : Int))), none]) := by simp [e2]
  have x3 : asg 3 (bin fix (bin fix (una (fldD 2) (vb 0)) (vb 1)) (vb 2)) [some (.shr (hlD en re tb)), some (.shr (.int (a : Int))), some (.shr (.int (b : Int))), none] = .val (.nx [some (.shr (hlD en re tb)), some (.shr (.int (a : Int))), some (.shr (.int (b : Int))), some (.shr (.int (ent tb a b)))]) := by
    simp [-List.getD_eq_getElem?_getD, t1, r1]
  rw [sq_ev, x1, bind_val]; dsimp only
  rw [sq_ev, x2, bind_val]; dsimp only
  rw [sq_ev, x3, bind_val]; dsimp only
  generalize ent tb a b = z
  unfold thD
  by_cases q : z = -1 <;> simp [q]
theorem ev_then_no1 {z : Int} {y : D} (h : ¬ (0 ≤ z ∧ z < en.length)) (hz : z.natAbs < 10 ^ 40) : dn_then [hlD en re tb, .int z, y] = .exc 1 := by
  simp only [dn_then, den_then]
  show fin (sq _ _ [some (.shr (hlD en re tb)), some (.shr (.int z)), some (.shr y), none]) = _
  have e1 := ev_arrow_no (re := re) (tb := tb) h hz
  have x1 : drp (calX 2 dn_check_arrow (aC (vr 0) (aC (vr 1) aN))) [some (.shr (hlD en re tb)), some (.shr (.int z)), some (.shr y), none] = .exc 1 := by simp [e1]
  rw [sq_ev, x1]; rfl
theorem ev_then_no2 {z : Int} {a : Nat} (ha : a < en.length) (h : ¬ (0 ≤ z ∧ z < en.length)) (hz : z.natAbs < 10 ^ 40) : dn_then [hlD en re tb, .int (a : Int), .int z] = .exc 1 := by
  simp only [dn_then, den_then]
  show fin (sq _ _ [some (.shr (hlD en re tb)), some (.shr (.int (a : Int))), some (.shr (.int z)), none]) = _
  have e0 := ev_arrow_ok (re := re) (tb := tb) ha
  have e1 := ev_arrow_no (re := re) (tb := tb) h hz
  have x0 : drp (calX 2 dn_check_arrow (aC (vr 0) (aC (vr 1) aN))) [some (.shr (hlD en re tb)), some (.shr (.int (a : Int))), some (.shr (.int z)), none] = .val (.nx [some (.shr (hlD en re tb)), some (.shr (.int (a : Int))), some (.shr (.int z)), none]) := by simp [e0]
  have x1 : drp (calX 2 dn_check_arrow (aC (vr 0) (aC (vr 2) aN))) [some (.shr (hlD en re tb)), some (.shr (.int (a : Int))), some (.shr (.int z)), none] = .exc 1 := by simp [e1]
  rw [sq_ev, x0, bind_val]; dsimp only
  rw [sq_ev, x1]; rfl
theorem ev_btwF (h : HallN en re tb) {a b : Nat} (ha : a < re.length) (hb : b < re.length) : dn_between [hlD en re tb, .int (a : Int), .int (b : Int)] = .val ((btw en a b).map nD) := by
  simp only [dn_between, den_between]
  show sqF _ _ [some (.shr (hlD en re tb)), some (.shr (.int (a : Int))), some (.shr (.int (b : Int)))] = _
  have n40 := h.na40
  have e1 := ev_box_ok (en := en) (tb := tb) ha
  have e2 := ev_box_ok (en := en) (tb := tb) hb
  have x1 : drp (calX 2 dn_check_box (aC (vr 0) (aC (vr 1) aN))) [some (.shr (hlD en re tb)), some (.shr (.int (a : Int))), some (.shr (.int (b : Int)))] = .val (.nx [some (.shr (hlD en re tb)), some (.shr (.int (a : Int))), some (.shr (.int (b : Int)))]) := by simp [e1]
  have x2 : drp (calX 2 dn_check_box (aC (vr 0) (aC (vr 2) aN))) [some (.shr (hlD en re tb)), some (.shr (.int (a : Int))), some (.shr (.int (b : Int)))] = .val (.nx [some (.shr (hlD en re tb)), some (.shr (.int (a : Int))), some (.shr (.int (b : Int)))]) := by simp [e2]
  rw [sqF_nx x1, sqF_nx x2]
  unfold btw
  refine fCmp_filt (f := fun i => .tup [nD (0 + i), (en.map endD).getD i .non]) (l := List.range en.length) ?_ (by rw [List.length_range]; omega) fun i hi => ?_
  · have : enu 0 (en.map endD) = _ := enu_map _ _
    rw [List.length_map] at this
    simp [ensD, this]
  · have hi := List.mem_range.mp hi
    have ge : (en.map endD).getD i .non = endD (en.getD i (0, 0)) := by rw [getD_lt (by rw [List.length_map]; exact hi), getD_lt hi, List.getElem_map]
    rw [ge, Nat.zero_add]
    refine ⟨_, rfl, ?_, rfl⟩
    have := feq_end (en.getD i (0, 0)) (a, b)
    simp only [tst_ev, bin_ev, eT_ev, aC_ev]
    show (feq (endD (en.getD i (0, 0))) (endD (a, b))).bind asB = _
    rw [this]; rfl
theorem ev_btwF_no1 {z : Int} {y : D} (h : ¬ (0 ≤ z ∧ z < re.length)) (hz : z.natAbs < 10 ^ 40) : dn_between [hlD en re tb, .int z, y] = .exc 2 := by
  simp only [dn_between, den_between]
  show sqF _ _ [some (.shr (hlD en re tb)), some (.shr (.int z)), some (.shr y)] = _
  have e1 := ev_box_no (en := en) (tb := tb) h hz
  exact sqF_exc (by simp [e1])
theorem ev_btwF_no2 {z : Int} {a : Nat} (ha : a < re.length) (h : ¬ (0 ≤ z ∧ z < re.length)) (hz : z.natAbs < 10 ^ 40) : dn_between [hlD en re tb, .int (a : Int), .int z] = .exc 2 := by
  simp only [dn_between, den_between]
  show sqF _ _ [some (.shr (hlD en re tb)), some (.shr (.int (a : Int))), some (.shr (.int z))] = _
  have e0 := ev_box_ok (en := en) (tb := tb) ha
  have e1 := ev_box_no (en := en) (tb := tb) h hz
  rw [sqF_nx (ρ' := [some (.shr (hlD en re tb)), some (.shr (.int (a : Int))), some (.shr (.int z))]) (by simp [e0])]
  exact sqF_exc (by simp [e1])
noncomputable abbrev tryM : Rho → R Out := tryD [1, 2] 6 (DL.iff (tst (bin feq (vb 1) (kd (.int 0)))) (asg 5 (calX 3 dn_then (aC (vr 0) (aC (vr 2) (aC (vr 3) aN))))) (own 5 (calF 3 dn_between (aC (vr 0) (aC (vr 2) (aC (vr 3) aN)))))) (asg 4 (cal 1 dn_law_which (aC (vr 6) aN)))
theorem ev_met {wy : Int} {x y : D} : dn_law_met [hlD en re tb, .int wy, x, y] = sqP tryM (retP 4 5) [some (.shr (hlD en re tb)), some (.shr (.int wy)), some (.shr x), some (.shr y), some (.shr (.int (-1))), some (.shr .non), none] := by
  simp only [dn_law_met, den_law_met]
  show sqP _ _ [some (.shr (hlD en re tb)), some (.shr (.int wy)), some (.shr x), some (.shr y), none, none, none] = _
  rw [sqP_nx (ρ' := [some (.shr (hlD en re tb)), some (.shr (.int wy)), some (.shr x), some (.shr y), some (.shr (.int (-1))), none, none]) (Eq.trans rfl rfl)]
  rw [sqP_nx (ρ' := [some (.shr (hlD en re tb)), some (.shr (.int wy)), some (.shr x), some (.shr y), some (.shr (.int (-1))), some (.shr .non), none]) (Eq.trans rfl rfl)]
theorem ev_which_at {c : Nat} (hc : c = 1 ∨ c = 2) (wy : Int) (x y : D) : asg 4 (cal 1 dn_law_which (aC (vr 6) aN)) [some (.shr (hlD en re tb)), some (.shr (.int wy)), some (.shr x), some (.shr y), some (.shr (.int (-1))), some (.shr .non), some (.shr (.exn c))] = .val (.nx [some (.shr (hlD en re tb)), some (.shr (.int wy)), some (.shr x), some (.shr y), some (.shr (nD c)), some (.shr .non), some (.shr (.exn c))]) := by
  have := ev_which hc
  rw [asg_ev, cal_ev]
  show R.bind (noex (dn_law_which [.exn c])) _ = _
  rw [this]; rfl
theorem ev_met0 {x y d : D} (h : dn_then [hlD en re tb, x, y] = .val d) : dn_law_met [hlD en re tb, .int 0, x, y] = .val (.pl (.tup [.int (-1), d])) := by
  rw [ev_met]
  have e1 : tryM [some (.shr (hlD en re tb)), some (.shr (.int 0)), some (.shr x), some (.shr y), some (.shr (.int (-1))), some (.shr .non), none] = .val (.nx [some (.shr (hlD en re tb)), some (.shr (.int 0)), some (.shr x), some (.shr y), some (.shr (.int (-1))), some (.shr d), none]) := tryD_val (by simp [h])
  rw [sqP_nx e1]; rfl
theorem ev_met0x {x y : D} (h : dn_then [hlD en re tb, x, y] = .exc 1) : dn_law_met [hlD en re tb, .int 0, x, y] = .val (.pl (.tup [.int 1, .non])) := by
  rw [ev_met]
  have e1 := tryD_exc (S := [1, 2]) (ie := 6) (c := 1) (F := DL.iff (tst (bin feq (vb 1) (kd (.int 0)))) (asg 5 (calX 3 dn_then (aC (vr 0) (aC (vr 2) (aC (vr 3) aN))))) (own 5 (calF 3 dn_between (aC (vr 0) (aC (vr 2) (aC (vr 3) aN)))))) (ρ := [some (.shr (hlD en re tb)), some (.shr (.int 0)), some (.shr x), some (.shr y), some (.shr (.int (-1))), some (.shr .non), none]) (by simp [h]) (by decide) (ev_which_at (en := en) (re := re) (tb := tb) (c := 1) (.inl rfl) 0 x y)
  rw [sqP_nx e1]; rfl
theorem ev_met1 {x y : D} {xs : List D} (h : dn_between [hlD en re tb, x, y] = .val xs) : dn_law_met [hlD en re tb, .int 1, x, y] = .val (.nw (.int (-1)) xs) := by
  rw [ev_met]
  have e1 : tryM [some (.shr (hlD en re tb)), some (.shr (.int 1)), some (.shr x), some (.shr y), some (.shr (.int (-1))), some (.shr .non), none] = .val (.nx [some (.shr (hlD en re tb)), some (.shr (.int 1)), some (.shr x), some (.shr y), some (.shr (.int (-1))), some (.own xs), none]) := tryD_val (by simp [h])
  rw [sqP_nx e1]; rfl
theorem ev_met1x {x y : D} (h : dn_between [hlD en re tb, x, y] = .exc 2) : dn_law_met [hlD en re tb, .int 1, x, y] = .val (.pl (.tup [.int 2, .non])) := by
  rw [ev_met]
  have e1 := tryD_exc (S := [1, 2]) (ie := 6) (c := 2) (F := DL.iff (tst (bin feq (vb 1) (kd (.int 0)))) (asg 5 (calX 3 dn_then (aC (vr 0) (aC (vr 2) (aC (vr 3) aN))))) (own 5 (calF 3 dn_between (aC (vr 0) (aC (vr 2) (aC (vr 3) aN)))))) (ρ := [some (.shr (hlD en re tb)), some (.shr (.int 1)), some (.shr x), some (.shr y), some (.shr (.int (-1))), some (.shr .non), none]) (by simp [h]) (by decide) (ev_which_at (en := en) (re := re) (tb := tb) (c := 2) (.inr rfl) 1 x y)
  rw [sqP_nx e1]; rfl
end
theorem ev_ints (l : List Nat) (hl : l.length ≤ 40) : dn_law_ints [.lst (l.map nD), .lst (l.map nD)] = .val (.bl true) := by
  simp only [dn_law_ints, den_law_ints]
  show fin (sq _ _ [some (.shr (.lst (l.map nD))), some (.shr (.lst (l.map nD))), none]) = _
  have er := rngD_nat (n := l.length) (by omega)
  have x1 : DL.iff (orB (notB (tst (una (fisT "list") (vb 0)))) (tst (bin fne (una flen (vb 0)) (una flen (vb 1))))) (ret (kd (.bl false))) nxt [some (.shr (.lst (l.map nD))), some (.shr (.lst (l.map nD))), none] = .val (.nx [some (.shr (.lst (l.map nD))), some (.shr (.lst (l.map nD))), none]) := by
    simp [fisT]
  obtain ⟨ρ', h1, x, h2⟩ := loop_lst (T := tgN 2) (F := DL.iff (orB (notB (tst (una (fisT "int") (bin fix (vb 0) (vb 2))))) (orB (tst (una (fisT "bool") (bin fix (vb 0) (vb 2)))) (tst (bin fne (bin fix (vb 0) (vb 2)) (bin fix (vb 1) (vb 2)))))) (ret (kd (.bl false))) nxt) (f := nD) (l := List.range l.length) (fun ρ => ∃ x, ρ = [some (.shr (.lst (l.map nD))), some (.shr (.lst (l.map nD))), x]) (fun i hi ρ hI => by
    obtain ⟨x, rfl⟩ := hI
    have hi := List.mem_range.mp hi
    have fe : fix (.lst (l.map nD)) (.int (i : Int)) = .val (nD (l.getD i 0)) := fix_l (map_at hi)
    exact ⟨[some (.shr (.lst (l.map nD))), some (.shr (.lst (l.map nD))), some (.shr (nD i))], [some (.shr (.lst (l.map nD))), some (.shr (.lst (l.map nD))), some (.shr (nD i))], rfl, by simp [-List.getD_eq_getElem?_getD, nD, fe, fisT], _, rfl⟩) (ρ := [some (.shr (.lst (l.map nD))), some (.shr (.lst (l.map nD))), none]) ⟨none, rfl⟩
  have hs : ∀ F, forS (fRng (aC (una flen (vb 1)) aN)) (tgN 2) F [some (.shr (.lst (l.map nD))), some (.shr (.lst (l.map nD))), none] = loopD (tgN 2) F ((List.range l.length).map nD) [some (.shr (.lst (l.map nD))), some (.shr (.lst (l.map nD))), none] := fun F => by
    rw [forS_ev]
    simp [er, rng_map]
  rw [sq_ev, x1, bind_val]; dsimp only
  rw [sq_ev, hs, h1, bind_val]; dsimp only
  rw [h2]; rfl
theorem pow_29 : fpow 10 29 = .val (.int (10 ^ 29)) := by
  unfold fpow
  rw [if_pos (by decide)]
  rfl
theorem ev_number (ns : List Int) (k m : Nat) (h1 : 1 ≤ m) (h2 : m ≤ 40) : ∃ z : Int, dn_law_number [.scr ns, .int (k : Int), .int (m : Int)] = .val (.int z) ∧ z.natAbs < 10 ^ 40 := by
  obtain ⟨c1, e1⟩ := ev_cell ns (k + 1)
  obtain ⟨c0, e0⟩ := ev_cell ns k
  simp only [dn_law_number, den_law_number]
  have e1' : dn_law_cell [.scr ns, .int ((k : Int) + 1)] = .val (.int c1) := by rw [← e1]; rfl
  have m4 : ∀ i : Int, fmod i 4 = .val (.int (i % 4)) := fun i => fmod_ok (by decide)
  have mm : fmod c0 (m : Int) = .val (.int (c0 % m)) := fmod_ok (by omega)
  have xt : tst (bin feq (bin (iI fmod) (cal 2 dn_law_cell (aC (vr 0) (aC (bin fadd (vb 1) (kd (.int 1))) aN))) (kd (.int 4))) (kd (.int 1))) [some (.shr (.scr ns)), some (.shr (.int (k : Int))), some (.shr (.int (m : Int)))] = .val (decide (c1 % 4 = 1)) := by
    simp [e1', m4]
  show ∃ z, fin (sq _ _ [some (.shr (.scr ns)), some (.shr (.int (k : Int))), some (.shr (.int (m : Int)))]) = _ ∧ _
  by_cases q : c1 % 4 = 1
  · have el : eL (aC (una fneg (kd (.int 1))) (aC (vr 2) (aC (bin (iI fpow) (kd (.int 10)) (kd (.int 29))) (aC (bin (iI fsub) (kd (.int 1)) (bin (iI fpow) (kd (.int 10)) (kd (.int 29)))) aN)))) [some (.shr (.scr ns)), some (.shr (.int (k : Int))), some (.shr (.int (m : Int)))] = .val (.lst [.int (-1), .int (m : Int), .int (10 ^ 29), .int (1 - 10 ^ 29)]) := by
      simp only [eL_ev, aC_ev, una_ev, kd_ev, bind_val, fneg_ev, bin_ev, iI_ev, pow_29, fsub_ev, aN_ev]
      rfl
    have ex : bin (iI fmod) (cal 2 dn_law_cell (aC (vr 0) (aC (vr 1) aN))) (kd (.int 4)) [some (.shr (.scr ns)), some (.shr (.int (k : Int))), some (.shr (.int (m : Int)))] = .val (.int (c0 % 4)) := by
      simp [e0, m4]
    have hc : ∃ i : Nat, i < 4 ∧ c0 % 4 = (i : Int) := ⟨(c0 % 4).toNat, by omega, by omega⟩
    obtain ⟨i, hi, ei⟩ := hc
    have key : ∃ z : Int, fix (.lst [.int (-1), .int (m : Int), .int (10 ^ 29), .int (1 - 10 ^ 29)]) (.int (i : Int)) = .val (.int z) ∧ z.natAbs < 10 ^ 40 := by
      match i, hi with
      | 0, _ => exact ⟨-1, fix_l rfl, by decide⟩
      | 1, _ => exact ⟨m, fix_l rfl, by rw [Int.natAbs_natCast]; have : (40 : Nat) < 10 ^ 40 := by decide
                                        omega⟩
      | 2, _ => exact ⟨10 ^ 29, fix_l rfl, by decide⟩
      | 3, _ => exact ⟨1 - 10 ^ 29, fix_l rfl, by decide⟩
    obtain ⟨z, kz, hz⟩ := key
    refine ⟨z, ?_, hz⟩
    rw [sq_ev, iff_ev, xt, bind_val, if_pos (by simpa using q), ret_ev, bin_ev, el, bind_val, ex, bind_val, ei, kz]
    rfl
  · refine ⟨c0 % m, ?_, ?_⟩
    · rw [sq_ev, iff_ev, xt, bind_val, if_neg (by simpa using q), nxt_ev, bind_val]; dsimp only
      simp [e0, mm]
    · have a1 : 0 ≤ c0 % (m : Int) := Int.emod_nonneg _ (by omega)
      have a2 : c0 % (m : Int) < m := Int.emod_lt_of_pos _ (by omega)
      have : (40 : Nat) < 10 ^ 40 := by decide
      omega
end DL

set_option Elab.async false
set_option linter.all false
set_option maxRecDepth 100000
set_option maxHeartbeats 1000000
namespace DL
open PySem L2 Ar
set_option autoImplicit false
noncomputable abbrev inB (i j : Nat) : Rho → R Bool := tst (chn (fun i j => decide (i ≤ j)) (fun i j => decide (i < j)) (kd (.int 0)) (vb i) (vb j))
theorem ev_inB {i j : Nat} {ρ : Rho} {z n : Int} (hi : vb i ρ = .val (.int z)) (hj : vb j ρ = .val (.int n)) : inB i j ρ = .val (decide (0 ≤ z ∧ z < n)) := by
  rw [inB, tst_ev, chn_ev, kd_ev, bind_val, hi, bind_val]
  dsimp only
  by_cases q : (0 : Int) ≤ z
  · rw [if_pos (by simpa using q), hj, bind_val]
    simp [q]
  · rw [if_neg (by simpa using q)]
    simp [q]
theorem ev_out {i i' j : Nat} {ρ : Rho} {z z' n : Int} (hi : vb i ρ = .val (.int z)) (hi' : vb i' ρ = .val (.int z')) (hj : vb j ρ = .val (.int n)) : orB (notB (inB i j)) (notB (inB i' j)) ρ = .val (!decide ((0 ≤ z ∧ z < n) ∧ (0 ≤ z' ∧ z' < n))) := by
  rw [orB_ev, notB_ev, ev_inB hi hj, bind_val, bind_val, notB_ev, ev_inB hi' hj, bind_val]
  by_cases q : 0 ≤ z ∧ z < n <;> by_cases q' : 0 ≤ z' ∧ z' < n <;> simp [q, q']
noncomputable def r2 (ns : List Int) (p hl : D) (a3 a4 a5 a6 a7 a8 a9 a10 : Option Slt) : Rho := [some (.shr (.scr ns)), some (.shr p), some (.shr hl), a3, a4, a5, a6, a7, a8, a9, a10]
section
variable {en : List (Nat × Nat)} {re : List Nat} {tb : List (List Int)} {k4 k5 : D}
theorem par_ok {i j : Nat} {a : Rho → R (List D)} {ρ : Rho} {x y : D} (h : a ρ = .val [x, y]) : par i j a ρ = .val (.nx ((ρ.set i (some (.shr x))).set j (some (.shr y)))) := by
  unfold par; rw [h]; rfl
noncomputable abbrev IF1 : Rho → R Out := DL.iff (orB (notB (inB 4 3)) (notB (inB 5 3)))
  (DL.iff (tst (bin fne (vb 6) (eT (aC (kd (.int 1)) (aC (kd .non) aN)))))
  (ret (kd (.bl false)))
  nxt)
  (sq (asg 7 (bin fix (bin fix (bin fix (vb 1) (kd (.int 2))) (vb 4)) (vb 5)))
  (sq (DL.iff (orB (tst (bin fne (bin fix (vb 6) (kd (.int 0))) (una fneg (kd (.int 1))))) (andB (tst (bin (iI flt) (vb 7) (kd (.int 0)))) (tst (una (fun d => .val (fisNot d)) (bin fix (vb 6) (kd (.int 1)))))))
  (ret (kd (.bl false)))
  nxt)
  (DL.iff (andB (tst (bin (iI fge) (vb 7) (kd (.int 0)))) (orB (notB (tst (cal 1 dn_law_whole (aC (bin fix (vb 6) (kd (.int 1))) aN)))) (tst (bin fne (bin fix (vb 6) (kd (.int 1))) (vb 7)))))
  (ret (kd (.bl false)))
  nxt)))
theorem feq_pair (i : Int) : feq (.tup [.int i, .non]) (.tup [.int i, .non]) = .val (.bl true) := feq_same rfl
theorem fne_pair (i : Int) : fne (.tup [.int i, .non]) (.tup [.int i, .non]) = .val (.bl false) := fne_same rfl
theorem ev_IF1 (h : HallN en re tb) (ns : List Int) {z1 z2 : Int} (g1 : z1.natAbs < 10 ^ 40) (g2 : z2.natAbs < 10 ^ 40) (a8 a9 a10 : Option Slt) : ∃ d6, plD' dn_law_met [hlD en re tb, .int 0, .int z1, .int z2] = .val d6 ∧ ∃ b7, IF1 (r2 ns (prD en re tb k4 k5) (hlD en re tb) (some (.shr (nD en.length))) (some (.shr (.int z1))) (some (.shr (.int z2))) (some (.shr d6)) none a8 a9 a10) = .val (.nx (r2 ns (prD en re tb k4 k5) (hlD en re tb) (some (.shr (nD en.length))) (some (.shr (.int z1))) (some (.shr (.int z2))) (some (.shr d6)) b7 a8 a9 a10)) := by
  by_cases q : (0 ≤ z1 ∧ z1 < (en.length : Int)) ∧ (0 ≤ z2 ∧ z2 < (en.length : Int))
  · obtain ⟨⟨q1, q2⟩, ⟨q3, q4⟩⟩ := q
    obtain ⟨a, rfl⟩ := Int.eq_ofNat_of_zero_le q1
    obtain ⟨b, rfl⟩ := Int.eq_ofNat_of_zero_le q3
    have ha : a < en.length := by omega
    have hb : b < en.length := by omega
    have em := ev_met0 (ev_then h ha hb)
    have ht := h.tl
    have t1 := fix_tab (tb := tb) (show a < tb.length by omega)
    have r1 := fix_row (r := tb.getD a []) (i := b) (by rw [h.rl _ ha]; exact hb)
    refine ⟨.tup [.int (-1), thD (ent tb a b)], by unfold plD'; rw [em]; rfl, some (.shr (.int (ent tb a b))), ?_⟩
    rw [IF1, iff_ev, ev_out (z := a) (z' := b) (n := en.length) (Eq.trans rfl rfl) (Eq.trans rfl rfl) (Eq.trans rfl rfl), bind_val, if_neg (by simp; omega)]
    have x1 : asg 7 (bin fix (bin fix (bin fix (vb 1) (kd (.int 2))) (vb 4)) (vb 5)) (r2 ns (prD en re tb k4 k5) (hlD en re tb) (some (.shr (nD en.length))) (some (.shr (.int (a : Int)))) (some (.shr (.int (b : Int)))) (some (.shr (.tup [.int (-1), thD (ent tb a b)]))) none a8 a9 a10) = .val (.nx (r2 ns (prD en re tb k4 k5) (hlD en re tb) (some (.shr (nD en.length))) (some (.shr (.int (a : Int)))) (some (.shr (.int (b : Int)))) (some (.shr (.tup [.int (-1), thD (ent tb a b)]))) (some (.shr (.int (ent tb a b)))) a8 a9 a10)) := by
      rw [asg_ev, bin_ev, bin_ev, bin_ev]
      show R.bind (R.bind (R.bind (fix (prD en re tb k4 k5) (.int 2)) fun x => fix x (.int (a : Int))) fun x => fix x (.int (b : Int))) _ = _
      rw [prD_2, bind_val, t1, bind_val, r1, bind_val]; rfl
    rw [sq_ev, x1, bind_val]; dsimp only
    have en' : ent tb a b = -1 ∨ 0 ≤ ent tb a b := by
      rcases ent_cases h ha hb with e | ⟨k, _, e⟩
      · exact .inl e
      · exact .inr (by show 0 ≤ (tb.getD a []).getD b (-1); rw [e]; omega)
    generalize ent tb a b = z at en'
    have c2 : ∀ (d : D), bin fix (vb 6) (kd (.int 1)) (r2 ns (prD en re tb k4 k5) (hlD en re tb) (some (.shr (nD en.length))) (some (.shr (.int (a : Int)))) (some (.shr (.int (b : Int)))) (some (.shr (.tup [.int (-1), d]))) (some (.shr (.int z))) a8 a9 a10) = .val d := fun d => by
      rw [bin_ev]
      show fix (.tup [.int (-1), d]) (.int 1) = _
      simp
    have c1 : ∀ (d : D), tst (bin fne (bin fix (vb 6) (kd (.int 0))) (una fneg (kd (.int 1)))) (r2 ns (prD en re tb k4 k5) (hlD en re tb) (some (.shr (nD en.length))) (some (.shr (.int (a : Int)))) (some (.shr (.int (b : Int)))) (some (.shr (.tup [.int (-1), d]))) (some (.shr (.int z))) a8 a9 a10) = .val false := fun d => by
      rw [tst_ev, bin_ev, bin_ev]
      show R.bind (R.bind (fix (.tup [.int (-1), d]) (.int 0)) fun x => fne x (.int (-1))) asB = _
      simp
    have c3 : ∀ (d : D), vb 7 (r2 ns (prD en re tb k4 k5) (hlD en re tb) (some (.shr (nD en.length))) (some (.shr (.int (a : Int)))) (some (.shr (.int (b : Int)))) (some (.shr (.tup [.int (-1), d]))) (some (.shr (.int z))) a8 a9 a10) = .val (.int z) := fun d => Eq.trans rfl rfl
    rcases en' with rfl | hz
    · have ed : thD (-1) = .non := if_pos rfl
      rw [ed]
      rw [sq_ev, iff_ev, orB_ev, c1, bind_val, if_neg (by decide), andB_ev, tst_ev, bin_ev, c3, bind_val, kd_ev, bind_val, iI_ev, flt_ev, bind_val]
      rw [show asB (.bl (decide ((-1 : Int) < 0))) = .val true from rfl, bind_val, if_pos rfl, tst_ev, una_ev, c2, bind_val, fisNot_non, bind_val]
      rw [show asB (.bl false) = .val false from rfl, bind_val, if_neg (by decide), nxt_ev, bind_val]
      dsimp only
      rw [iff_ev, andB_ev, tst_ev, bin_ev, c3, bind_val, kd_ev, bind_val, iI_ev, fge_ev, bind_val]
      rfl
    · have ed : thD z = .int z := if_neg (by omega)
      rw [ed]
      rw [sq_ev, iff_ev, orB_ev, c1, bind_val, if_neg (by decide), andB_ev, tst_ev, bin_ev, c3, bind_val, kd_ev, bind_val, iI_ev, flt_ev, bind_val]
      rw [show decide (z < 0) = false by simp; omega, asB_ev, bind_val, if_neg (by decide), bind_val, if_neg (by decide), nxt_ev, bind_val]
      dsimp only
      rw [iff_ev, andB_ev, tst_ev, bin_ev, c3, bind_val, kd_ev, bind_val, iI_ev, fge_ev, bind_val]
      rw [show decide ((0 : Int) ≤ z) = true by simpa using hz, asB_ev, bind_val, if_pos rfl, orB_ev, notB_ev, tst_ev, cal_ev, aC_ev, c2, bind_val, aN_ev, bind_val, bind_val]
      rw [if_pos (show [D.int z].length = 1 from rfl), show dn_law_whole [.int z] = .val (.bl true) from Eq.trans rfl rfl, noex_val, bind_val, asB_ev, bind_val, bind_val, if_neg (by decide), tst_ev, bin_ev, c2, bind_val, c3, bind_val, fne_ii, bind_val]
      simp
  · have em : dn_law_met [hlD en re tb, .int 0, .int z1, .int z2] = .val (.pl (.tup [.int 1, .non])) := by
      by_cases q1 : 0 ≤ z1 ∧ z1 < (en.length : Int)
      · obtain ⟨a, rfl⟩ := Int.eq_ofNat_of_zero_le q1.1
        exact ev_met0x (ev_then_no2 (by omega) (fun z => q ⟨q1, z⟩) g2)
      · exact ev_met0x (ev_then_no1 q1 g1)
    refine ⟨.tup [.int 1, .non], by unfold plD'; rw [em]; rfl, none, ?_⟩
    rw [IF1, iff_ev, ev_out (z := z1) (z' := z2) (n := en.length) (Eq.trans rfl rfl) (Eq.trans rfl rfl) (Eq.trans rfl rfl), bind_val, if_pos (by rw [decide_eq_false q]; rfl), iff_ev, tst_ev, bin_ev]
    show R.bind (R.bind (fne (.tup [.int 1, .non]) (.tup [.int 1, .non])) asB) _ = _
    rw [fne_pair]; rfl
noncomputable abbrev EQ2 : Rho → R D := bin feq (vb 6) (eT (aC (kd (.int 2)) (aC (kd .non) aN)))
noncomputable abbrev T2 : Rho → R Bool := orB (tst (bin fne (bin fix (vb 6) (kd (.int 0))) (una fneg (kd (.int 1))))) (notB (tst (cal 2 dn_law_ints (aC (bin fix (vb 6) (kd (.int 1))) (aC (cal 3 dn_law_between (aC (vr 1) (aC (vr 9) (aC (vr 10) aN)))) aN)))))
noncomputable abbrev RT : Rho → R Out := ret (cal 2 dn_law_ints (aC (cal 3 (lsD dn_between) (aC (vr 2) (aC (vr 9) (aC (vr 10) aN)))) (aC (cal 3 dn_law_between (aC (vr 1) (aC (vr 9) (aC (vr 10) aN)))) aN)))
noncomputable abbrev NEW : Rho → R Out := newD 6 (calF 4 dn_law_met (aC (vr 2) (aC (kd (.int 1)) (aC (vr 9) (aC (vr 10) aN)))))
  (sq (DL.iff (orB (notB (inB 9 8)) (notB (inB 10 8))) (ret EQ2) nxt) (sq (DL.iff T2 (ret (kd (.bl false))) nxt) (sq bad RT)))
  (ifN 6 (orB (notB (inB 9 8)) (notB (inB 10 8))) EQ2 (ifN 6 T2 (kd (.bl false)) (appN 6 RT)))
theorem ev_NEW (h : HallN en re tb) (ns : List Int) {z1 z2 : Int} (g1 : z1.natAbs < 10 ^ 40) (g2 : z2.natAbs < 10 ^ 40) (a3 a4 a5 a6 a7 : Option Slt) : NEW (r2 ns (prD en re tb k4 k5) (hlD en re tb) a3 a4 a5 a6 a7 (some (.shr (nD re.length))) (some (.shr (.int z1))) (some (.shr (.int z2)))) = .val (.rt (.bl true)) := by
  have hcall : calF 4 dn_law_met (aC (vr 2) (aC (kd (.int 1)) (aC (vr 9) (aC (vr 10) aN)))) (r2 ns (prD en re tb k4 k5) (hlD en re tb) a3 a4 a5 a6 a7 (some (.shr (nD re.length))) (some (.shr (.int z1))) (some (.shr (.int z2)))) = dn_law_met [hlD en re tb, .int 1, .int z1, .int z2] := Eq.trans rfl rfl
  by_cases q : (0 ≤ z1 ∧ z1 < (re.length : Int)) ∧ (0 ≤ z2 ∧ z2 < (re.length : Int))
  · obtain ⟨⟨q1, q2⟩, ⟨q3, q4⟩⟩ := q
    obtain ⟨a, rfl⟩ := Int.eq_ofNat_of_zero_le q1
    obtain ⟨b, rfl⟩ := Int.eq_ofNat_of_zero_le q3
    have ha : a < re.length := by omega
    have hb : b < re.length := by omega
    have eb := ev_btwF h ha hb
    have em := ev_met1 eb
    have el := ev_lbetween (k4 := k4) (k5 := k5) h a b
    have hlen : (btw en a b).length ≤ 40 := by
      unfold btw
      have := List.length_filter_le (fun i => decide (en.getD i (0, 0) = (a, b))) (List.range en.length)
      rw [List.length_range] at this
      have := h.na40
      omega
    have ei := ev_ints (btw en a b) hlen
    have hlb : ∀ a6, cal 3 dn_law_between (aC (vr 1) (aC (vr 9) (aC (vr 10) aN))) (r2 ns (prD en re tb k4 k5) (hlD en re tb) a3 a4 a5 a6 a7 (some (.shr (nD re.length))) (some (.shr (.int (a : Int)))) (some (.shr (.int (b : Int))))) = .val (.lst ((btw en a b).map nD)) := fun a6 => by
      have e0 : aC (vr 1) (aC (vr 9) (aC (vr 10) aN)) (r2 ns (prD en re tb k4 k5) (hlD en re tb) a3 a4 a5 a6 a7 (some (.shr (nD re.length))) (some (.shr (.int (a : Int)))) (some (.shr (.int (b : Int))))) = .val [prD en re tb k4 k5, .int (a : Int), .int (b : Int)] := Eq.trans rfl rfl
      rw [cal_ev, e0, bind_val, if_pos (show [prD en re tb k4 k5, .int (a : Int), .int (b : Int)].length = 3 from rfl), el, noex_val]
    unfold NEW newD
    rw [hcall, em]
    dsimp only
    refine (if_pos (by show 6 < 11; decide)).trans ?_
    unfold ifN
    show R.bind (orB _ _ (r2 ns (prD en re tb k4 k5) (hlD en re tb) a3 a4 a5 (pairD (.int (-1)) ((btw en a b).map nD)) a7 (some (.shr (nD re.length))) (some (.shr (.int (a : Int)))) (some (.shr (.int (b : Int)))))) _ = _
    rw [ev_out (z := a) (z' := b) (n := re.length) (Eq.trans rfl rfl) (Eq.trans rfl rfl) (Eq.trans rfl rfl), bind_val, if_neg (by simp; omega)]
    show R.bind (T2 (r2 ns (prD en re tb k4 k5) (hlD en re tb) a3 a4 a5 (pairD (.int (-1)) ((btw en a b).map nD)) a7 (some (.shr (nD re.length))) (some (.shr (.int (a : Int)))) (some (.shr (.int (b : Int)))))) _ = _
    have t2 : T2 (r2 ns (prD en re tb k4 k5) (hlD en re tb) a3 a4 a5 (pairD (.int (-1)) ((btw en a b).map nD)) a7 (some (.shr (nD re.length))) (some (.shr (.int (a : Int)))) (some (.shr (.int (b : Int))))) = .val false := by
      have c1 : tst (bin fne (bin fix (vb 6) (kd (.int 0))) (una fneg (kd (.int 1)))) (r2 ns (prD en re tb k4 k5) (hlD en re tb) a3 a4 a5 (pairD (.int (-1)) ((btw en a b).map nD)) a7 (some (.shr (nD re.length))) (some (.shr (.int (a : Int)))) (some (.shr (.int (b : Int))))) = .val false := by
        rw [tst_ev, bin_ev, bin_ev]
        show R.bind (R.bind (fix (.tup [.int (-1), .lst ((btw en a b).map nD)]) (.int 0)) fun x => fne x (.int (-1))) asB = _
        simp
      have c2 : bin fix (vb 6) (kd (.int 1)) (r2 ns (prD en re tb k4 k5) (hlD en re tb) a3 a4 a5 (pairD (.int (-1)) ((btw en a b).map nD)) a7 (some (.shr (nD re.length))) (some (.shr (.int (a : Int)))) (some (.shr (.int (b : Int))))) = .val (.lst ((btw en a b).map nD)) := by
        rw [bin_ev]
        show fix (.tup [.int (-1), .lst ((btw en a b).map nD)]) (.int 1) = _
        simp
      rw [T2, orB_ev, c1, bind_val, if_neg (by decide), notB_ev, tst_ev, cal_ev, aC_ev, c2, bind_val, aC_ev, hlb, bind_val, aN_ev, bind_val, bind_val, bind_val]
      show R.bind (R.bind (noex (dn_law_ints [.lst ((btw en a b).map nD), .lst ((btw en a b).map nD)])) asB) _ = _
      rw [ei]; rfl
    rw [t2, bind_val, if_neg (by decide)]
    unfold appN
    rw [if_pos (show ((btw en a b).map nD).length < LIM by rw [List.length_map]; exact Nat.lt_of_le_of_lt hlen (by decide))]
    show RT (r2 ns (prD en re tb k4 k5) (hlD en re tb) a3 a4 a5 none a7 (some (.shr (nD re.length))) (some (.shr (.int (a : Int)))) (some (.shr (.int (b : Int))))) = _
    have hb2 : cal 3 (lsD dn_between) (aC (vr 2) (aC (vr 9) (aC (vr 10) aN))) (r2 ns (prD en re tb k4 k5) (hlD en re tb) a3 a4 a5 none a7 (some (.shr (nD re.length))) (some (.shr (.int (a : Int)))) (some (.shr (.int (b : Int))))) = .val (.lst ((btw en a b).map nD)) := by
      rw [cal_ev]
      show noex (lsD dn_between [hlD en re tb, .int (a : Int), .int (b : Int)]) = _
      unfold lsD
      rw [eb]; rfl
    rw [RT, ret_ev, cal_ev, aC_ev, hb2, bind_val, aC_ev, hlb, bind_val, aN_ev, bind_val, bind_val, bind_val]
    show R.bind (noex (dn_law_ints [.lst ((btw en a b).map nD), .lst ((btw en a b).map nD)])) _ = _
    rw [ei]; rfl
  · have em : dn_law_met [hlD en re tb, .int 1, .int z1, .int z2] = .val (.pl (.tup [.int 2, .non])) := by
      by_cases q1 : 0 ≤ z1 ∧ z1 < (re.length : Int)
      · obtain ⟨a, rfl⟩ := Int.eq_ofNat_of_zero_le q1.1
        exact ev_met1x (ev_btwF_no2 (by omega) (fun z => q ⟨q1, z⟩) g2)
      · exact ev_met1x (ev_btwF_no1 q1 g1)
    unfold NEW newD
    rw [hcall, em]
    dsimp only
    show sq _ _ (r2 ns (prD en re tb k4 k5) (hlD en re tb) a3 a4 a5 (some (.shr (.tup [.int 2, .non]))) a7 (some (.shr (nD re.length))) (some (.shr (.int z1))) (some (.shr (.int z2)))) = _
    rw [sq_ev, iff_ev, ev_out (z := z1) (z' := z2) (n := re.length) (Eq.trans rfl rfl) (Eq.trans rfl rfl) (Eq.trans rfl rfl), bind_val, if_pos (by rw [decide_eq_false q]; rfl), ret_ev]
    have e2 : EQ2 (r2 ns (prD en re tb k4 k5) (hlD en re tb) a3 a4 a5 (some (.shr (.tup [.int 2, .non]))) a7 (some (.shr (nD re.length))) (some (.shr (.int z1))) (some (.shr (.int z2)))) = .val (.bl true) := by
      rw [EQ2, bin_ev]
      show feq (.tup [.int 2, .non]) (.tup [.int 2, .non]) = _
      exact feq_pair 2
    rw [e2]; rfl
end
theorem law_val (ns : List Int) (hl : ns.length ≤ 63) : dn_law [.scr ns] = .val (.bl true) := by
  obtain ⟨sz, kn, g, hp⟩ := ev_parts ns 0
  have h := hall_of g
  have hh : dn_law_hall [prD (enOf kn) (reOf sz kn) (tbOf kn) (.lst (kn.map arrD)) (resD sz)] = .val (hlD (enOf kn) (reOf sz kn) (tbOf kn)) := ev_hall g _
  have hp' : dn_law_parts [.scr ns, .int 0] = .val (prD (enOf kn) (reOf sz kn) (tbOf kn) (.lst (kn.map arrD)) (resD sz)) := hp
  generalize enOf kn = en at h hh hp'
  generalize reOf sz kn = re at h hh hp'
  generalize tbOf kn = tb at h hh hp'
  generalize D.lst (kn.map arrD) = k4 at h hh hp'
  generalize resD sz = k5 at h hh hp'
  have n40 := h.na40
  have n6 := h.nb6
  have n1 := h.na1
  have b1 := h.nb1
  obtain ⟨z1, e1, g1⟩ := ev_number ns 4 en.length (by omega) (by omega)
  obtain ⟨z2, e2, g2⟩ := ev_number ns 6 en.length (by omega) (by omega)
  obtain ⟨z3, e3, g3⟩ := ev_number ns 8 re.length (by omega) (by omega)
  obtain ⟨z4, e4, g4⟩ := ev_number ns 10 re.length (by omega) (by omega)
  simp only [dn_law, den_law]
  show fin (sq (asg 1 _) _ [some (.shr (.scr ns)), none, none, none, none, none, none, none, none, none, none]) = _
  have x1 : asg 1 (cal 2 dn_law_parts (aC (vr 0) (aC (kd (.int 0)) aN))) [some (.shr (.scr ns)), none, none, none, none, none, none, none, none, none, none] = .val (.nx [some (.shr (.scr ns)), some (.shr (prD en re tb k4 k5)), none, none, none, none, none, none, none, none, none]) := by
    rw [asg_ev, cal_ev]
    show R.bind (noex (dn_law_parts [.scr ns, .int 0])) _ = _
    rw [hp']; rfl
  rw [sq_ev, x1, bind_val]; dsimp only
  have x2 : asg 2 (cal 1 dn_law_hall (aC (vr 1) aN)) [some (.shr (.scr ns)), some (.shr (prD en re tb k4 k5)), none, none, none, none, none, none, none, none, none] = .val (.nx (r2 ns (prD en re tb k4 k5) (hlD en re tb) none none none none none none none none)) := by
    rw [asg_ev, cal_ev]
    show R.bind (noex (dn_law_hall [prD en re tb k4 k5])) _ = _
    rw [hh]; rfl
  rw [sq_ev, x2, bind_val]; dsimp only
  have x3 : asg 3 (una flen (bin fix (vb 1) (kd (.int 0)))) (r2 ns (prD en re tb k4 k5) (hlD en re tb) none none none none none none none none) = .val (.nx (r2 ns (prD en re tb k4 k5) (hlD en re tb) (some (.shr (nD en.length))) none none none none none none none)) := by
    rw [asg_ev, una_ev, bin_ev]
    show R.bind (R.bind (fix (prD en re tb k4 k5) (.int 0)) flen) _ = _
    rw [prD_0, bind_val, flen_ens]; rfl
  rw [sq_ev, x3, bind_val]; dsimp only
  have x4 : par 4 5 (aC (cal 3 dn_law_number (aC (vr 0) (aC (kd (.int 4)) (aC (vr 3) aN)))) (aC (cal 3 dn_law_number (aC (vr 0) (aC (kd (.int 6)) (aC (vr 3) aN)))) aN)) (r2 ns (prD en re tb k4 k5) (hlD en re tb) (some (.shr (nD en.length))) none none none none none none none) = .val (.nx (r2 ns (prD en re tb k4 k5) (hlD en re tb) (some (.shr (nD en.length))) (some (.shr (.int z1))) (some (.shr (.int z2))) none none none none none)) := by
    refine par_ok (x := .int z1) (y := .int z2) ?_
    have c1 : cal 3 dn_law_number (aC (vr 0) (aC (kd (.int 4)) (aC (vr 3) aN))) (r2 ns (prD en re tb k4 k5) (hlD en re tb) (some (.shr (nD en.length))) none none none none none none none) = .val (.int z1) := by
      rw [cal_ev]
      show noex (dn_law_number [.scr ns, .int ((4 : Nat) : Int), .int (en.length : Int)]) = _
      rw [e1]; rfl
    have c2 : cal 3 dn_law_number (aC (vr 0) (aC (kd (.int 6)) (aC (vr 3) aN))) (r2 ns (prD en re tb k4 k5) (hlD en re tb) (some (.shr (nD en.length))) none none none none none none none) = .val (.int z2) := by
      rw [cal_ev]
      show noex (dn_law_number [.scr ns, .int ((6 : Nat) : Int), .int (en.length : Int)]) = _
      rw [e2]; rfl
    rw [aC_ev, c1, bind_val, aC_ev, c2]; rfl
  rw [sq_ev, x4, bind_val]; dsimp only
  obtain ⟨d6, f1, b7, f2⟩ := ev_IF1 (k4 := k4) (k5 := k5) h ns g1 g2 none none none
  have x5 : asg 6 (cal 4 (plD' dn_law_met) (aC (vr 2) (aC (kd (.int 0)) (aC (vr 4) (aC (vr 5) aN))))) (r2 ns (prD en re tb k4 k5) (hlD en re tb) (some (.shr (nD en.length))) (some (.shr (.int z1))) (some (.shr (.int z2))) none none none none none) = .val (.nx (r2 ns (prD en re tb k4 k5) (hlD en re tb) (some (.shr (nD en.length))) (some (.shr (.int z1))) (some (.shr (.int z2))) (some (.shr d6)) none none none none)) := by
    rw [asg_ev, cal_ev]
    show R.bind (noex (plD' dn_law_met [hlD en re tb, .int 0, .int z1, .int z2])) _ = _
    rw [f1]; rfl
  rw [sq_ev, x5, bind_val]; dsimp only
  rw [sq_ev]
  show fin (R.bind (IF1 (r2 ns (prD en re tb k4 k5) (hlD en re tb) (some (.shr (nD en.length))) (some (.shr (.int z1))) (some (.shr (.int z2))) (some (.shr d6)) none none none none)) _) = _
  rw [f2, bind_val]; dsimp only
  have x6 : asg 8 (una flen (bin fix (vb 1) (kd (.int 1)))) (r2 ns (prD en re tb k4 k5) (hlD en re tb) (some (.shr (nD en.length))) (some (.shr (.int z1))) (some (.shr (.int z2))) (some (.shr d6)) b7 none none none) = .val (.nx (r2 ns (prD en re tb k4 k5) (hlD en re tb) (some (.shr (nD en.length))) (some (.shr (.int z1))) (some (.shr (.int z2))) (some (.shr d6)) b7 (some (.shr (nD re.length))) none none)) := by
    rw [asg_ev, una_ev, bin_ev]
    show R.bind (R.bind (fix (prD en re tb k4 k5) (.int 1)) flen) _ = _
    rw [prD_1, bind_val, flen_res]; rfl
  rw [sq_ev, x6, bind_val]; dsimp only
  have x7 : par 9 10 (aC (cal 3 dn_law_number (aC (vr 0) (aC (kd (.int 8)) (aC (vr 8) aN)))) (aC (cal 3 dn_law_number (aC (vr 0) (aC (kd (.int 10)) (aC (vr 8) aN)))) aN)) (r2 ns (prD en re tb k4 k5) (hlD en re tb) (some (.shr (nD en.length))) (some (.shr (.int z1))) (some (.shr (.int z2))) (some (.shr d6)) b7 (some (.shr (nD re.length))) none none) = .val (.nx (r2 ns (prD en re tb k4 k5) (hlD en re tb) (some (.shr (nD en.length))) (some (.shr (.int z1))) (some (.shr (.int z2))) (some (.shr d6)) b7 (some (.shr (nD re.length))) (some (.shr (.int z3))) (some (.shr (.int z4))))) := by
    refine par_ok (x := .int z3) (y := .int z4) ?_
    have c1 : cal 3 dn_law_number (aC (vr 0) (aC (kd (.int 8)) (aC (vr 8) aN))) (r2 ns (prD en re tb k4 k5) (hlD en re tb) (some (.shr (nD en.length))) (some (.shr (.int z1))) (some (.shr (.int z2))) (some (.shr d6)) b7 (some (.shr (nD re.length))) none none) = .val (.int z3) := by
      rw [cal_ev]
      show noex (dn_law_number [.scr ns, .int ((8 : Nat) : Int), .int (re.length : Int)]) = _
      rw [e3]; rfl
    have c2 : cal 3 dn_law_number (aC (vr 0) (aC (kd (.int 10)) (aC (vr 8) aN))) (r2 ns (prD en re tb k4 k5) (hlD en re tb) (some (.shr (nD en.length))) (some (.shr (.int z1))) (some (.shr (.int z2))) (some (.shr d6)) b7 (some (.shr (nD re.length))) none none) = .val (.int z4) := by
      rw [cal_ev]
      show noex (dn_law_number [.scr ns, .int ((10 : Nat) : Int), .int (re.length : Int)]) = _
      rw [e4]; rfl
    rw [aC_ev, c1, bind_val, aC_ev, c2]; rfl
  rw [sq_ev, x7, bind_val]; dsimp only
  show fin (NEW _) = _
  rw [ev_NEW h ns g3 g4]
  rfl
end DL

set_option Elab.async false
set_option linter.all false
set_option maxRecDepth 100000
set_option maxHeartbeats 4000000
namespace DL
open PySem PySem.Spec PyProof.Rows L2
set_option autoImplicit false
theorem lenS {n : Nat} {us : List Value} (h : us.length = n + 1) : ∃ y l, us = y :: l ∧ l.length = n := by
  cases us with
  | nil => cases h
  | cons y l => exact ⟨y, l, rfl, Nat.succ.inj h⟩
theorem len1 {us : List Value} (h : us.length = 1) : ∃ y0, us = [y0] := by
  obtain ⟨y, l, e, h⟩ := lenS h
  exact ⟨y, by rw [e, List.eq_nil_of_length_eq_zero h]⟩
theorem len2 {us : List Value} (h : us.length = 2) : ∃ y0 y1, us = [y0, y1] := by
  obtain ⟨y, l, rfl, g⟩ := lenS h
  obtain ⟨y1, rfl⟩ := len1 g
  exact ⟨y, y1, rfl⟩
theorem len3 {us : List Value} (h : us.length = 3) : ∃ y0 y1 y2, us = [y0, y1, y2] := by
  obtain ⟨y, l, rfl, g⟩ := lenS h
  obtain ⟨y1, y2, rfl⟩ := len2 g
  exact ⟨y, y1, y2, rfl⟩
theorem len4 {us : List Value} (h : us.length = 4) : ∃ y0 y1 y2 y3, us = [y0, y1, y2, y3] := by
  obtain ⟨y, l, rfl, g⟩ := lenS h
  obtain ⟨y1, y2, y3, rfl⟩ := len3 g
  exact ⟨y, y1, y2, y3, rfl⟩
theorem len5 {us : List Value} (h : us.length = 5) : ∃ y0 y1 y2 y3 y4, us = [y0, y1, y2, y3, y4] := by
  obtain ⟨y, l, rfl, g⟩ := lenS h
  obtain ⟨y1, y2, y3, y4, rfl⟩ := len4 g
  exact ⟨y, y1, y2, y3, y4, rfl⟩
noncomputable def spLaw (K : PySem.W.Frag) : Sp := fun vs H Q _ => ∃ (a : Addr) (ns : List Int), vs = [.ref a] ∧ SqL K H a (ns.map V.int) ∧ ns.length ≤ 63 ∧ ∀ H', Q (.bl true) H'
theorem law_imp {P : Program} {w : World} {K : PySem.W.Frag} {mg : Str → Option Value} {base : Heap} {C : Addr} {k : Nat} {f : Addr} {fd : FuncData} (hval : ∀ ns : List Int, ns.length ≤ 63 → dn_law [.scr ns] = .val (.bl true)) (F : FnOk P w K mg base CX0 k f fd ["script"] (spD K C 1 dn_law)) : FnOk P w K mg base CX0 k f fd ["script"] (spLaw K) :=
  F.imp fun vs H Q E yy0 => by
   obtain ⟨a, ns, e, hS, hl, q⟩ := yy0
   exact by
    subst e
    refine ⟨rfl, [.scr ns], .cons (.scr hS) .nil, ?_⟩
    rw [hval ns hl]
    intro v H' _ hv
    cases hv
    exact q H'
theorem all_mk {l : PySem.W.OpenLaw} {w : World} {K : PySem.W.Frag} {h : Heap} {mg : Str → Option Value} {fa C f1 f2 f3 f4 f5 f6 f7 f8 f9 f10 f11 f12 f13 f14 f15 f16 f17 f18 f19 f20 f21 f22 f23 f24 f25 f26 f27 f28 f29 C0 C1 C2 C3 C4 C5 C6 CA : Addr} {tb ta : Tok} (hval : ∀ ns : List Int, ns.length ≤ 63 → dn_law [.scr ns] = .val (.bl true)) (X : K.In h) (G : h.Ns mainGlobals mg) (hfa : mg "law" = some (.ref fa))
    {od1 od2 od3 od4 od5 od6 od7 od8 od9 od10 od11 od12 od13 od14 od15 od16 od17 od18 od19 od20 od21 od22 od23 od24 od25 od26 od27 od28 od29 an1 an2 an3 an4 an5 an6 an7 an8 an9 an10 an11 an12 an13 an14 an15 an16 an17 an18 an19 an20 an21 an22 an23 an24 an25 an26 an27 an28 an29 : Option Addr} {sl1 sl2 sl3 sl4 sl5 sl6 sl7 sl8 sl9 sl10 sl11 sl12 sl13 sl14 sl15 sl16 sl17 sl18 sl19 sl20 sl21 sl22 sl23 sl24 sl25 sl26 sl27 sl28 sl29 : Array (Option Value)} {oc1 oc2 oc3 oc4 oc5 oc6 oc7 oc8 oc9 oc10 oc11 oc12 oc13 oc14 oc15 oc16 oc17 oc18 oc19 oc20 oc21 oc22 oc23 oc24 oc25 oc26 oc27 oc28 oc29 kV1 kV2 kV3 kV4 kV5 kV6 kV7 kV8 kV9 kV10 kV11 kV12 kV13 kV14 kV15 kV16 kV17 kV18 kV19 kV20 kV21 kV22 kV23 kV24 kV25 kV26 kV27 kV28 kV29 dc1 dc2 dc3 dc4 dc5 dc6 dc7 dc8 dc9 dc10 dc11 dc12 dc13 dc14 dc15 dc16 dc17 dc18 dc19 dc20 dc21 dc22 dc23 dc24 dc25 dc26 dc27 dc28 dc29 pm1 pm2 pm3 pm4 pm5 pm6 pm7 pm8 pm9 pm10 pm11 pm12 pm13 pm14 pm15 pm16 pm17 pm18 pm19 pm20 pm21 pm22 pm23 pm24 pm25 pm26 pm27 pm28 pm29 cd1 cd2 cd3 cd4 cd5 cd6 cd7 cd8 cd9 cd10 cd11 cd12 cd13 cd14 cd15 cd16 cd17 cd18 cd19 cd20 cd21 cd22 cd23 cd24 cd25 cd26 cd27 cd28 cd29 ct1 ct2 ct3 ct4 ct5 ct6 ct7 ct8 ct9 ct10 ct11 ct12 ct13 ct14 ct15 ct16 ct17 ct18 ct19 ct20 ct21 ct22 ct23 ct24 ct25 ct26 ct27 ct28 ct29 : Value}
    (aC : PySem.W.nsIn K mainGlobals "Hall" = some (some (.ref C)))
    (a1 : PySem.W.nsIn K mainGlobals "_law_cell" = some (some (.ref f1))) (l1 : K.lookup f1 = some ⟨oc1, od1, .func (PySem.W.fnOf "_law_cell" "_law_cell" (defArgs s_law_cell) (defBody s_law_cell) (defScope s_law_cell) .none kV1 dc1 pm1 an1 cd1 ct1), sl1⟩) (c1 : PySem.W.codeIn K cd1 "_law_cell" = true) (k1 : PySem.W.keepIn K (.ref f1) = true)
    (a2 : PySem.W.nsIn K mainGlobals "_law_sizes" = some (some (.ref f2))) (l2 : K.lookup f2 = some ⟨oc2, od2, .func (PySem.W.fnOf "_law_sizes" "_law_sizes" (defArgs s_law_sizes) (defBody s_law_sizes) (defScope s_law_sizes) .none kV2 dc2 pm2 an2 cd2 ct2), sl2⟩) (c2 : PySem.W.codeIn K cd2 "_law_sizes" = true) (k2 : PySem.W.keepIn K (.ref f2) = true)
    (a3 : PySem.W.nsIn K mainGlobals "_law_next" = some (some (.ref f3))) (l3 : K.lookup f3 = some ⟨oc3, od3, .func (PySem.W.fnOf "_law_next" "_law_next" (defArgs s_law_next) (defBody s_law_next) (defScope s_law_next) .none kV3 dc3 pm3 an3 cd3 ct3), sl3⟩) (c3 : PySem.W.codeIn K cd3 "_law_next" = true) (k3 : PySem.W.keepIn K (.ref f3) = true)
    (a4 : PySem.W.nsIn K mainGlobals "_law_closed" = some (some (.ref f4))) (l4 : K.lookup f4 = some ⟨oc4, od4, .func (PySem.W.fnOf "_law_closed" "_law_closed" (defArgs s_law_closed) (defBody s_law_closed) (defScope s_law_closed) .none kV4 dc4 pm4 an4 cd4 ct4), sl4⟩) (c4 : PySem.W.codeIn K cd4 "_law_closed" = true) (k4 : PySem.W.keepIn K (.ref f4) = true)
    (a5 : PySem.W.nsIn K mainGlobals "_law_arrows" = some (some (.ref f5))) (l5 : K.lookup f5 = some ⟨oc5, od5, .func (PySem.W.fnOf "_law_arrows" "_law_arrows" (defArgs s_law_arrows) (defBody s_law_arrows) (defScope s_law_arrows) .none kV5 dc5 pm5 an5 cd5 ct5), sl5⟩) (c5 : PySem.W.codeIn K cd5 "_law_arrows" = true) (k5 : PySem.W.keepIn K (.ref f5) = true)
    (a6 : PySem.W.nsIn K mainGlobals "_law_parts" = some (some (.ref f6))) (l6 : K.lookup f6 = some ⟨oc6, od6, .func (PySem.W.fnOf "_law_parts" "_law_parts" (defArgs s_law_parts) (defBody s_law_parts) (defScope s_law_parts) .none kV6 dc6 pm6 an6 cd6 ct6), sl6⟩) (c6 : PySem.W.codeIn K cd6 "_law_parts" = true) (k6 : PySem.W.keepIn K (.ref f6) = true)
    (a7 : PySem.W.nsIn K mainGlobals "check_counts" = some (some (.ref f7))) (l7 : K.lookup f7 = some ⟨oc7, od7, .func (PySem.W.fnOf "check_counts" "check_counts" (defArgs s_check_counts) (defBody s_check_counts) (defScope s_check_counts) .none kV7 dc7 pm7 an7 cd7 ct7), sl7⟩) (c7 : PySem.W.codeIn K cd7 "check_counts" = true) (k7 : PySem.W.keepIn K (.ref f7) = true)
    (a8 : PySem.W.nsIn K mainGlobals "is_below" = some (some (.ref f8))) (l8 : K.lookup f8 = some ⟨oc8, od8, .func (PySem.W.fnOf "is_below" "is_below" (defArgs s_is_below) (defBody s_is_below) (defScope s_is_below) .none kV8 dc8 pm8 an8 cd8 ct8), sl8⟩) (c8 : PySem.W.codeIn K cd8 "is_below" = true) (k8 : PySem.W.keepIn K (.ref f8) = true)
    (a9 : PySem.W.nsIn K mainGlobals "check_ends" = some (some (.ref f9))) (l9 : K.lookup f9 = some ⟨oc9, od9, .func (PySem.W.fnOf "check_ends" "check_ends" (defArgs s_check_ends) (defBody s_check_ends) (defScope s_check_ends) .none kV9 dc9 pm9 an9 cd9 ct9), sl9⟩) (c9 : PySem.W.codeIn K cd9 "check_ends" = true) (k9 : PySem.W.keepIn K (.ref f9) = true)
    (a10 : PySem.W.nsIn K mainGlobals "check_rests" = some (some (.ref f10))) (l10 : K.lookup f10 = some ⟨oc10, od10, .func (PySem.W.fnOf "check_rests" "check_rests" (defArgs s_check_rests) (defBody s_check_rests) (defScope s_check_rests) .none kV10 dc10 pm10 an10 cd10 ct10), sl10⟩) (c10 : PySem.W.codeIn K cd10 "check_rests" = true) (k10 : PySem.W.keepIn K (.ref f10) = true)
    (a11 : PySem.W.nsIn K mainGlobals "check_form" = some (some (.ref f11))) (l11 : K.lookup f11 = some ⟨oc11, od11, .func (PySem.W.fnOf "check_form" "check_form" (defArgs s_check_form) (defBody s_check_form) (defScope s_check_form) .none kV11 dc11 pm11 an11 cd11 ct11), sl11⟩) (c11 : PySem.W.codeIn K cd11 "check_form" = true) (k11 : PySem.W.keepIn K (.ref f11) = true)
    (a12 : PySem.W.nsIn K mainGlobals "check_entry" = some (some (.ref f12))) (l12 : K.lookup f12 = some ⟨oc12, od12, .func (PySem.W.fnOf "check_entry" "check_entry" (defArgs s_check_entry) (defBody s_check_entry) (defScope s_check_entry) .none kV12 dc12 pm12 an12 cd12 ct12), sl12⟩) (c12 : PySem.W.codeIn K cd12 "check_entry" = true) (k12 : PySem.W.keepIn K (.ref f12) = true)
    (a13 : PySem.W.nsIn K mainGlobals "check_table" = some (some (.ref f13))) (l13 : K.lookup f13 = some ⟨oc13, od13, .func (PySem.W.fnOf "check_table" "check_table" (defArgs s_check_table) (defBody s_check_table) (defScope s_check_table) .none kV13 dc13 pm13 an13 cd13 ct13), sl13⟩) (c13 : PySem.W.codeIn K cd13 "check_table" = true) (k13 : PySem.W.keepIn K (.ref f13) = true)
    (a14 : PySem.W.nsIn K mainGlobals "check_beside_rests" = some (some (.ref f14))) (l14 : K.lookup f14 = some ⟨oc14, od14, .func (PySem.W.fnOf "check_beside_rests" "check_beside_rests" (defArgs s_check_beside_rests) (defBody s_check_beside_rests) (defScope s_check_beside_rests) .none kV14 dc14 pm14 an14 cd14 ct14), sl14⟩) (c14 : PySem.W.codeIn K cd14 "check_beside_rests" = true) (k14 : PySem.W.keepIn K (.ref f14) = true)
    (a15 : PySem.W.nsIn K mainGlobals "check_thirds" = some (some (.ref f15))) (l15 : K.lookup f15 = some ⟨oc15, od15, .func (PySem.W.fnOf "check_thirds" "check_thirds" (defArgs s_check_thirds) (defBody s_check_thirds) (defScope s_check_thirds) .none kV15 dc15 pm15 an15 cd15 ct15), sl15⟩) (c15 : PySem.W.codeIn K cd15 "check_thirds" = true) (k15 : PySem.W.keepIn K (.ref f15) = true)
    (a16 : PySem.W.nsIn K mainGlobals "check_threes" = some (some (.ref f16))) (l16 : K.lookup f16 = some ⟨oc16, od16, .func (PySem.W.fnOf "check_threes" "check_threes" (defArgs s_check_threes) (defBody s_check_threes) (defScope s_check_threes) .none kV16 dc16 pm16 an16 cd16 ct16), sl16⟩) (c16 : PySem.W.codeIn K cd16 "check_threes" = true) (k16 : PySem.W.keepIn K (.ref f16) = true)
    (a17 : PySem.W.findIn K (.ref C) "__init__" = some (some (.ref f17))) (i17 : PySem.W.isFn K (.ref f17) = true) (l17 : K.lookup f17 = some ⟨oc17, od17, .func (PySem.W.fnOf "__init__" "Hall.__init__" (defArgs s_Hall___init) (defBody s_Hall___init) (defScope s_Hall___init) .none kV17 dc17 pm17 an17 cd17 ct17), sl17⟩) (c17 : PySem.W.codeIn K cd17 "Hall.__init__" = true) (k17 : PySem.W.keepIn K (.ref f17) = true)
    (a18 : PySem.W.nsIn K mainGlobals "_law_hall" = some (some (.ref f18))) (l18 : K.lookup f18 = some ⟨oc18, od18, .func (PySem.W.fnOf "_law_hall" "_law_hall" (defArgs s_law_hall) (defBody s_law_hall) (defScope s_law_hall) .none kV18 dc18 pm18 an18 cd18 ct18), sl18⟩) (c18 : PySem.W.codeIn K cd18 "_law_hall" = true) (k18 : PySem.W.keepIn K (.ref f18) = true)
    (a19 : PySem.W.nsIn K mainGlobals "check_arrow" = some (some (.ref f19))) (l19 : K.lookup f19 = some ⟨oc19, od19, .func (PySem.W.fnOf "check_arrow" "check_arrow" (defArgs s_check_arrow) (defBody s_check_arrow) (defScope s_check_arrow) .none kV19 dc19 pm19 an19 cd19 ct19), sl19⟩) (c19 : PySem.W.codeIn K cd19 "check_arrow" = true) (k19 : PySem.W.keepIn K (.ref f19) = true)
    (a20 : PySem.W.nsIn K mainGlobals "then" = some (some (.ref f20))) (l20 : K.lookup f20 = some ⟨oc20, od20, .func (PySem.W.fnOf "then" "then" (defArgs s_then) (defBody s_then) (defScope s_then) .none kV20 dc20 pm20 an20 cd20 ct20), sl20⟩) (c20 : PySem.W.codeIn K cd20 "then" = true) (k20 : PySem.W.keepIn K (.ref f20) = true)
    (a21 : PySem.W.nsIn K mainGlobals "check_box" = some (some (.ref f21))) (l21 : K.lookup f21 = some ⟨oc21, od21, .func (PySem.W.fnOf "check_box" "check_box" (defArgs s_check_box) (defBody s_check_box) (defScope s_check_box) .none kV21 dc21 pm21 an21 cd21 ct21), sl21⟩) (c21 : PySem.W.codeIn K cd21 "check_box" = true) (k21 : PySem.W.keepIn K (.ref f21) = true)
    (a22 : PySem.W.nsIn K mainGlobals "between" = some (some (.ref f22))) (l22 : K.lookup f22 = some ⟨oc22, od22, .func (PySem.W.fnOf "between" "between" (defArgs s_between) (defBody s_between) (defScope s_between) .none kV22 dc22 pm22 an22 cd22 ct22), sl22⟩) (c22 : PySem.W.codeIn K cd22 "between" = true) (k22 : PySem.W.keepIn K (.ref f22) = true)
    (a23 : PySem.W.nsIn K mainGlobals "_law_which" = some (some (.ref f23))) (l23 : K.lookup f23 = some ⟨oc23, od23, .func (PySem.W.fnOf "_law_which" "_law_which" (defArgs s_law_which) (defBody s_law_which) (defScope s_law_which) .none kV23 dc23 pm23 an23 cd23 ct23), sl23⟩) (c23 : PySem.W.codeIn K cd23 "_law_which" = true) (k23 : PySem.W.keepIn K (.ref f23) = true)
    (a24 : PySem.W.nsIn K mainGlobals "_law_met" = some (some (.ref f24))) (l24 : K.lookup f24 = some ⟨oc24, od24, .func (PySem.W.fnOf "_law_met" "_law_met" (defArgs s_law_met) (defBody s_law_met) (defScope s_law_met) .none kV24 dc24 pm24 an24 cd24 ct24), sl24⟩) (c24 : PySem.W.codeIn K cd24 "_law_met" = true) (k24 : PySem.W.keepIn K (.ref f24) = true)
    (a25 : PySem.W.nsIn K mainGlobals "_law_ints" = some (some (.ref f25))) (l25 : K.lookup f25 = some ⟨oc25, od25, .func (PySem.W.fnOf "_law_ints" "_law_ints" (defArgs s_law_ints) (defBody s_law_ints) (defScope s_law_ints) .none kV25 dc25 pm25 an25 cd25 ct25), sl25⟩) (c25 : PySem.W.codeIn K cd25 "_law_ints" = true) (k25 : PySem.W.keepIn K (.ref f25) = true)
    (a26 : PySem.W.nsIn K mainGlobals "_law_number" = some (some (.ref f26))) (l26 : K.lookup f26 = some ⟨oc26, od26, .func (PySem.W.fnOf "_law_number" "_law_number" (defArgs s_law_number) (defBody s_law_number) (defScope s_law_number) .none kV26 dc26 pm26 an26 cd26 ct26), sl26⟩) (c26 : PySem.W.codeIn K cd26 "_law_number" = true) (k26 : PySem.W.keepIn K (.ref f26) = true)
    (a27 : PySem.W.nsIn K mainGlobals "_law_between" = some (some (.ref f27))) (l27 : K.lookup f27 = some ⟨oc27, od27, .func (PySem.W.fnOf "_law_between" "_law_between" (defArgs s_law_between) (defBody s_law_between) (defScope s_law_between) .none kV27 dc27 pm27 an27 cd27 ct27), sl27⟩) (c27 : PySem.W.codeIn K cd27 "_law_between" = true) (k27 : PySem.W.keepIn K (.ref f27) = true)
    (a28 : PySem.W.nsIn K mainGlobals "_law_whole" = some (some (.ref f28))) (l28 : K.lookup f28 = some ⟨oc28, od28, .func (PySem.W.fnOf "_law_whole" "_law_whole" (defArgs s_law_whole) (defBody s_law_whole) (defScope s_law_whole) .none kV28 dc28 pm28 an28 cd28 ct28), sl28⟩) (c28 : PySem.W.codeIn K cd28 "_law_whole" = true) (k28 : PySem.W.keepIn K (.ref f28) = true)
    (a29 : PySem.W.nsIn K mainGlobals "law" = some (some (.ref f29))) (l29 : K.lookup f29 = some ⟨oc29, od29, .func (PySem.W.fnOf "law" "law" (defArgs s_law) (defBody s_law) (defScope s_law) .none kV29 dc29 pm29 an29 cd29 ct29), sl29⟩) (c29 : PySem.W.codeIn K cd29 "law" = true) (k29 : PySem.W.keepIn K (.ref f29) = true)
    (pg : PySem.W.plainGet K C Str.empty = true) (hd : PySem.W.hasDictIn K C = true) (po : PySem.W.plainOver K C = true) (sa : PySem.W.findIn K (.ref C) "__setattr__" = some (some (.builtin "object.__setattr__"))) (mk : PySem.W.makesIn K C = true) (kc : PySem.W.keepIn K (.ref C) = true)
    (nE : PySem.W.findIn K (.ref C) "ends" = some none) (nR : PySem.W.findIn K (.ref C) "rests" = some none) (nT : PySem.W.findIn K (.ref C) "table" = some none)
    (z_len : PySem.W.nsIn K mainGlobals "len" = some none)
    (z_list : PySem.W.nsIn K mainGlobals "list" = some none)
    (z_tuple : PySem.W.nsIn K mainGlobals "tuple" = some none)
    (z_range : PySem.W.nsIn K mainGlobals "range" = some none)
    (z_enumerate : PySem.W.nsIn K mainGlobals "enumerate" = some none)
    (z_max : PySem.W.nsIn K mainGlobals "max" = some none)
    (z_isinstance : PySem.W.nsIn K mainGlobals "isinstance" = some none)
    (z_min : PySem.W.nsIn K mainGlobals "min" = some none)
    (z_int : PySem.W.nsIn K mainGlobals "int" = some none)
    (z_bool : PySem.W.nsIn K mainGlobals "bool" = some none)
    (z_ValueError : PySem.W.nsIn K mainGlobals "ValueError" = some none)
    (mb : PySem.W.nsIn K mainGlobals "MOST_BOXES" = some (some (.int 6 tb))) (ma : PySem.W.nsIn K mainGlobals "MOST_ARROWS" = some (some (.int 40 ta)))
    (ih1 : PySem.W.findIn K (.ref C) "__class__" = some (some (.builtin "object.__class__"))) (ih2 : PySem.W.specialIn K (.builtin "object.__class__") "__get__" = some (some (.builtin "getset_descriptor.__get__"))) (ih3 : PySem.W.takesIn K (.builtin "object.__class__") = some true)
    (ih4 : PySem.W.mroIn K C (.type "object") = some true)
    (e0 : PySem.W.nsIn K mainGlobals "NoHall" = some (some (.ref C0)))
    (e1 : PySem.W.nsIn K mainGlobals "NoArrow" = some (some (.ref C1)))
    (e2 : PySem.W.nsIn K mainGlobals "NoBox" = some (some (.ref C2)))
    (e3 : PySem.W.nsIn K mainGlobals "NoPicture" = some (some (.ref C3)))
    (e4 : PySem.W.nsIn K mainGlobals "NoReading" = some (some (.ref C4)))
    (e5 : PySem.W.nsIn K mainGlobals "NoThing" = some (some (.ref C5)))
    (e6 : PySem.W.nsIn K mainGlobals "NoSending" = some (some (.ref C6)))
    (eA : PySem.W.nsIn K mainGlobals "ArrowError" = some (some (.ref CA)))
    (x1a : PySem.W.excIn K C1 [.type "ValueError", .type "Exception", .type "BaseException", .type "object"] "ValueError.__new__" = true) (x1b : PySem.W.findIn K (.ref C1) "__getattribute__" = some (some (.builtin "BaseException.__getattribute__"))) (x1c : PySem.W.findIn K (.ref C1) "__getattr__" = some none) (x1d : PySem.W.findIn K (.ref C1) "__class__" = some (some (.builtin "object.__class__"))) (x1e : PySem.W.mroIn K C1 (.type "object") = some true)
    (q10 : PySem.W.kitOne K (.ref C1) (.ref C0) = some false)    (q11 : PySem.W.kitOne K (.ref C1) (.ref C1) = some true)    (q12 : PySem.W.kitOne K (.ref C1) (.ref C2) = some false)    (q13 : PySem.W.kitOne K (.ref C1) (.ref C3) = some false)    (q14 : PySem.W.kitOne K (.ref C1) (.ref C4) = some false)    (q15 : PySem.W.kitOne K (.ref C1) (.ref C5) = some false)    (q16 : PySem.W.kitOne K (.ref C1) (.ref C6) = some false)    (v1 : PySem.W.kitOne K (.ref C1) (.type "ValueError") = some true) (u1 : PySem.W.kitOne K (.ref C1) (.ref CA) = some true) (n1 : C1 ≠ CA)
    (x2a : PySem.W.excIn K C2 [.type "ValueError", .type "Exception", .type "BaseException", .type "object"] "ValueError.__new__" = true) (x2b : PySem.W.findIn K (.ref C2) "__getattribute__" = some (some (.builtin "BaseException.__getattribute__"))) (x2c : PySem.W.findIn K (.ref C2) "__getattr__" = some none) (x2d : PySem.W.findIn K (.ref C2) "__class__" = some (some (.builtin "object.__class__"))) (x2e : PySem.W.mroIn K C2 (.type "object") = some true)
    (q20 : PySem.W.kitOne K (.ref C2) (.ref C0) = some false)    (q21 : PySem.W.kitOne K (.ref C2) (.ref C1) = some false)    (q22 : PySem.W.kitOne K (.ref C2) (.ref C2) = some true)    (q23 : PySem.W.kitOne K (.ref C2) (.ref C3) = some false)    (q24 : PySem.W.kitOne K (.ref C2) (.ref C4) = some false)    (q25 : PySem.W.kitOne K (.ref C2) (.ref C5) = some false)    (q26 : PySem.W.kitOne K (.ref C2) (.ref C6) = some false)    (v2 : PySem.W.kitOne K (.ref C2) (.type "ValueError") = some true) (u2 : PySem.W.kitOne K (.ref C2) (.ref CA) = some true) (n2 : C2 ≠ CA)
    (be : PySem.W.kitOne K (.ref CA) (.type "BaseException") = some true)
    (kii : PySem.W.kitOne K (.type "int") (.type "int") = some true)
    (kbi : PySem.W.kitOne K (.type "bool") (.type "int") = some true)
    (kNi : PySem.W.kitOne K (.type "NoneType") (.type "int") = some false)
    (kli : PySem.W.kitOne K (.type "list") (.type "int") = some false)
    (kti : PySem.W.kitOne K (.type "tuple") (.type "int") = some false)
    (kib : PySem.W.kitOne K (.type "int") (.type "bool") = some false)
    (kbb : PySem.W.kitOne K (.type "bool") (.type "bool") = some true)
    (kNb : PySem.W.kitOne K (.type "NoneType") (.type "bool") = some false)
    (klb : PySem.W.kitOne K (.type "list") (.type "bool") = some false)
    (ktb : PySem.W.kitOne K (.type "tuple") (.type "bool") = some false)
    (kil : PySem.W.kitOne K (.type "int") (.type "list") = some false)
    (kbl : PySem.W.kitOne K (.type "bool") (.type "list") = some false)
    (kNl : PySem.W.kitOne K (.type "NoneType") (.type "list") = some false)
    (kll : PySem.W.kitOne K (.type "list") (.type "list") = some true)
    (ktl : PySem.W.kitOne K (.type "tuple") (.type "list") = some false)
 :
    ∃ fd : FuncData, (∀ (s : Shared) (v : Value), BindsTo s fd ⟨[v], []⟩ [("script", v)]) ∧ ∀ base : Heap, K.In base → base.Ns mainGlobals mg → FnOk l.prog w K mg base CX0 7 fa fd ["script"] (spLaw K) := by
  have e := hfa.symm.trans (PySem.W.mg_of X G a29)
  cases e
  have cl : Cls K C := ⟨pg, hd, po, sa⟩
  have mem : ∀ c, c ∈ [1, 2] → c = 1 ∨ c = 2 := fun c hc => by simpa using hc
  have xa : XAll K mg [1, 2] := by
    refine ⟨fun k hk => ?_, fun c hc Cc h => ?_, fun c hc k hk Cc Ck h1 h2 => ?_, fun c hc Cc h => ?_⟩
    · match k, hk with
      | 0, _ => exact ⟨C0, e0, PySem.W.mg_of X G e0⟩
      | 1, _ => exact ⟨C1, e1, PySem.W.mg_of X G e1⟩
      | 2, _ => exact ⟨C2, e2, PySem.W.mg_of X G e2⟩
      | 3, _ => exact ⟨C3, e3, PySem.W.mg_of X G e3⟩
      | 4, _ => exact ⟨C4, e4, PySem.W.mg_of X G e4⟩
      | 5, _ => exact ⟨C5, e5, PySem.W.mg_of X G e5⟩
      | 6, _ => exact ⟨C6, e6, PySem.W.mg_of X G e6⟩
    · rcases mem c hc with rfl | rfl
      · cases e1.symm.trans h; exact ⟨x1a, x1b, x1c, x1d, ih2, ih3, x1e⟩
      · cases e2.symm.trans h; exact ⟨x2a, x2b, x2c, x2d, ih2, ih3, x2e⟩
    · rcases mem c hc with rfl | rfl
      · cases e1.symm.trans h1
        match k, hk with
        | 0, _ => cases e0.symm.trans h2; exact q10
        | 1, _ => cases e1.symm.trans h2; exact q11
        | 2, _ => cases e2.symm.trans h2; exact q12
        | 3, _ => cases e3.symm.trans h2; exact q13
        | 4, _ => cases e4.symm.trans h2; exact q14
        | 5, _ => cases e5.symm.trans h2; exact q15
        | 6, _ => cases e6.symm.trans h2; exact q16
      · cases e2.symm.trans h1
        match k, hk with
        | 0, _ => cases e0.symm.trans h2; exact q20
        | 1, _ => cases e1.symm.trans h2; exact q21
        | 2, _ => cases e2.symm.trans h2; exact q22
        | 3, _ => cases e3.symm.trans h2; exact q23
        | 4, _ => cases e4.symm.trans h2; exact q24
        | 5, _ => cases e5.symm.trans h2; exact q25
        | 6, _ => cases e6.symm.trans h2; exact q26
    · rcases mem c hc with rfl | rfl
      · cases e1.symm.trans h; exact v1
      · cases e2.symm.trans h; exact v2
  have xb : XB K mg [1, 2] CA := by
    refine ⟨PySem.W.mg_of X G eA, be, fun c hc Cc h => ?_⟩
    rcases mem c hc with rfl | rfl
    · cases e1.symm.trans h; exact ⟨u1, n1⟩
    · cases e2.symm.trans h; exact ⟨u2, n2⟩
  have T : Txt K mg C := ⟨cl, nE, nR, nT, PySem.W.mg_none_of X G z_len, PySem.W.mg_none_of X G z_list, PySem.W.mg_none_of X G z_tuple, PySem.W.mg_none_of X G z_range, PySem.W.mg_none_of X G z_enumerate, PySem.W.mg_none_of X G z_max, PySem.W.mg_none_of X G z_isinstance, PySem.W.mg_none_of X G z_min, PySem.W.mg_none_of X G z_int, PySem.W.mg_none_of X G z_bool, PySem.W.mg_none_of X G z_ValueError, ⟨cl, ih1, ih2, ih3, ih4⟩, PySem.W.mg_of X G aC, ⟨tb, PySem.W.mg_of X G mb⟩, ⟨ta, PySem.W.mg_of X G ma⟩, ⟨C1, PySem.W.mg_of X G e1, x1a⟩, ⟨C2, PySem.W.mg_of X G e2, x2a⟩, xa, ⟨CA, xb⟩, ⟨kii, kbi, kNi, kli, kti⟩, ⟨kib, kbb, kNb, klb, ktb⟩, ⟨kil, kbl, kNl, kll, ktl⟩⟩
  have F1 := fun_mk (st := s_law_cell) l1 c1 k1
  have b1 := F1.binds (ps := ["script", "k"]) fun _ _ _ _ _ _ us hl => by obtain ⟨y0, y1, rfl⟩ := len2 hl; rfl
  have F2 := fun_mk (st := s_law_sizes) l2 c2 k2
  have b2 := F2.binds (ps := ["script", "k"]) fun _ _ _ _ _ _ us hl => by obtain ⟨y0, y1, rfl⟩ := len2 hl; rfl
  have F3 := fun_mk (st := s_law_next) l3 c3 k3
  have b3 := F3.binds (ps := ["step"]) fun _ _ _ _ _ _ us hl => by obtain ⟨y0, rfl⟩ := len1 hl; rfl
  have F4 := fun_mk (st := s_law_closed) l4 c4 k4
  have b4 := F4.binds (ps := ["known"]) fun _ _ _ _ _ _ us hl => by obtain ⟨y0, rfl⟩ := len1 hl; rfl
  have F5 := fun_mk (st := s_law_arrows) l5 c5 k5
  have b5 := F5.binds (ps := ["script", "k", "sizes"]) fun _ _ _ _ _ _ us hl => by obtain ⟨y0, y1, y2, rfl⟩ := len3 hl; rfl
  have F6 := fun_mk (st := s_law_parts) l6 c6 k6
  have b6 := F6.binds (ps := ["script", "k"]) fun _ _ _ _ _ _ us hl => by obtain ⟨y0, y1, rfl⟩ := len2 hl; rfl
  have F7 := fun_mk (st := s_check_counts) l7 c7 k7
  have b7 := F7.binds (ps := ["ends", "rests"]) fun _ _ _ _ _ _ us hl => by obtain ⟨y0, y1, rfl⟩ := len2 hl; rfl
  have F8 := fun_mk (st := s_is_below) l8 c8 k8
  have b8 := F8.binds (ps := ["number", "count"]) fun _ _ _ _ _ _ us hl => by obtain ⟨y0, y1, rfl⟩ := len2 hl; rfl
  have F9 := fun_mk (st := s_check_ends) l9 c9 k9
  have b9 := F9.binds (ps := ["ends", "boxes"]) fun _ _ _ _ _ _ us hl => by obtain ⟨y0, y1, rfl⟩ := len2 hl; rfl
  have F10 := fun_mk (st := s_check_rests) l10 c10 k10
  have b10 := F10.binds (ps := ["ends", "rests"]) fun _ _ _ _ _ _ us hl => by obtain ⟨y0, y1, rfl⟩ := len2 hl; rfl
  have F11 := fun_mk (st := s_check_form) l11 c11 k11
  have b11 := F11.binds (ps := ["table", "arrows"]) fun _ _ _ _ _ _ us hl => by obtain ⟨y0, y1, rfl⟩ := len2 hl; rfl
  have F12 := fun_mk (st := s_check_entry) l12 c12 k12
  have b12 := F12.binds (ps := ["ends", "one", "other", "made"]) fun _ _ _ _ _ _ us hl => by obtain ⟨y0, y1, y2, y3, rfl⟩ := len4 hl; rfl
  have F13 := fun_mk (st := s_check_table) l13 c13 k13
  have b13 := F13.binds (ps := ["ends", "table"]) fun _ _ _ _ _ _ us hl => by obtain ⟨y0, y1, rfl⟩ := len2 hl; rfl
  have F14 := fun_mk (st := s_check_beside_rests) l14 c14 k14
  have b14 := F14.binds (ps := ["ends", "rests", "table"]) fun _ _ _ _ _ _ us hl => by obtain ⟨y0, y1, y2, rfl⟩ := len3 hl; rfl
  have F15 := fun_mk (st := s_check_thirds) l15 c15 k15
  have b15 := F15.binds (ps := ["table", "one", "other", "made"]) fun _ _ _ _ _ _ us hl => by obtain ⟨y0, y1, y2, y3, rfl⟩ := len4 hl; rfl
  have F16 := fun_mk (st := s_check_threes) l16 c16 k16
  have b16 := F16.binds (ps := ["table"]) fun _ _ _ _ _ _ us hl => by obtain ⟨y0, rfl⟩ := len1 hl; rfl
  have F17 := fun_mk (st := s_Hall___init) l17 c17 k17
  have b17 := F17.binds (ps := ["self", "ends", "rests", "table"]) fun _ _ _ _ _ _ us hl => by obtain ⟨y0, y1, y2, y3, rfl⟩ := len4 hl; rfl
  have F18 := fun_mk (st := s_law_hall) l18 c18 k18
  have b18 := F18.binds (ps := ["parts"]) fun _ _ _ _ _ _ us hl => by obtain ⟨y0, rfl⟩ := len1 hl; rfl
  have F19 := fun_mk (st := s_check_arrow) l19 c19 k19
  have b19 := F19.binds (ps := ["hall", "arrow"]) fun _ _ _ _ _ _ us hl => by obtain ⟨y0, y1, rfl⟩ := len2 hl; rfl
  have F20 := fun_mk (st := s_then) l20 c20 k20
  have b20 := F20.binds (ps := ["hall", "one", "other"]) fun _ _ _ _ _ _ us hl => by obtain ⟨y0, y1, y2, rfl⟩ := len3 hl; rfl
  have F21 := fun_mk (st := s_check_box) l21 c21 k21
  have b21 := F21.binds (ps := ["hall", "box"]) fun _ _ _ _ _ _ us hl => by obtain ⟨y0, y1, rfl⟩ := len2 hl; rfl
  have F22 := fun_mk (st := s_between) l22 c22 k22
  have b22 := F22.binds (ps := ["hall", "box", "other"]) fun _ _ _ _ _ _ us hl => by obtain ⟨y0, y1, y2, rfl⟩ := len3 hl; rfl
  have F23 := fun_mk (st := s_law_which) l23 c23 k23
  have b23 := F23.binds (ps := ["e"]) fun _ _ _ _ _ _ us hl => by obtain ⟨y0, rfl⟩ := len1 hl; rfl
  have F24 := fun_mk (st := s_law_met) l24 c24 k24
  have b24 := F24.binds (ps := ["hall", "way", "one", "other"]) fun _ _ _ _ _ _ us hl => by obtain ⟨y0, y1, y2, y3, rfl⟩ := len4 hl; rfl
  have F25 := fun_mk (st := s_law_ints) l25 c25 k25
  have b25 := F25.binds (ps := ["found", "due"]) fun _ _ _ _ _ _ us hl => by obtain ⟨y0, y1, rfl⟩ := len2 hl; rfl
  have F26 := fun_mk (st := s_law_number) l26 c26 k26
  have b26 := F26.binds (ps := ["script", "k", "many"]) fun _ _ _ _ _ _ us hl => by obtain ⟨y0, y1, y2, rfl⟩ := len3 hl; rfl
  have F27 := fun_mk (st := s_law_between) l27 c27 k27
  have b27 := F27.binds (ps := ["parts", "box", "other"]) fun _ _ _ _ _ _ us hl => by obtain ⟨y0, y1, y2, rfl⟩ := len3 hl; rfl
  have F28 := fun_mk (st := s_law_whole) l28 c28 k28
  have b28 := F28.binds (ps := ["found"]) fun _ _ _ _ _ _ us hl => by obtain ⟨y0, rfl⟩ := len1 hl; rfl
  have F29 := fun_mk (st := s_law) l29 c29 k29
  have b29 := F29.binds (ps := ["script"]) fun _ _ _ _ _ _ us hl => by obtain ⟨y0, rfl⟩ := len1 hl; rfl
  refine ⟨PySem.W.fnOf "law" "law" (defArgs s_law) (defBody s_law) (defScope s_law) .none kV29 dc29 pm29 an29 cd29 ct29, fun s v => .of_eq rfl, fun base _ _ => ?_⟩
  have r1 : Fn l.prog w K mg base C 1 "_law_cell" 2 dn_law_cell := mk_law_cell  T F1 (PySem.W.mg_of X G a1) b1
  have r2 : Fn l.prog w K mg base C 2 "_law_sizes" 2 dn_law_sizes := mk_law_sizes r1 T F2 (PySem.W.mg_of X G a2) b2
  have r3 : Fn l.prog w K mg base C 1 "_law_next" 1 dn_law_next := mk_law_next  T F3 (PySem.W.mg_of X G a3) b3
  have r4 : Mv l.prog w K mg base C 1 "_law_closed" dm_law_closed := mk_law_closed  T F4 (PySem.W.mg_of X G a4) b4
  have r5 : Fn l.prog w K mg base C 2 "_law_arrows" 3 dn_law_arrows := mk_law_arrows r1 r4 r3 T F5 (PySem.W.mg_of X G a5) b5
  have r6 : Fn l.prog w K mg base C 3 "_law_parts" 2 dn_law_parts := mk_law_parts r5 r2 T F6 (PySem.W.mg_of X G a6) b6
  have r7 : Fn l.prog w K mg base C 1 "check_counts" 2 dn_check_counts := mk_check_counts  T F7 (PySem.W.mg_of X G a7) b7
  have r8 : Fn l.prog w K mg base C 1 "is_below" 2 dn_is_below := mk_is_below  T F8 (PySem.W.mg_of X G a8) b8
  have r9 : Fn l.prog w K mg base C 2 "check_ends" 2 dn_check_ends := mk_check_ends r8 T F9 (PySem.W.mg_of X G a9) b9
  have r10 : Fn l.prog w K mg base C 2 "check_rests" 2 dn_check_rests := mk_check_rests r8 T F10 (PySem.W.mg_of X G a10) b10
  have r11 : Fn l.prog w K mg base C 1 "check_form" 2 dn_check_form := mk_check_form  T F11 (PySem.W.mg_of X G a11) b11
  have r12 : Fn l.prog w K mg base C 2 "check_entry" 4 dn_check_entry := mk_check_entry r8 T F12 (PySem.W.mg_of X G a12) b12
  have r13 : Fn l.prog w K mg base C 3 "check_table" 2 dn_check_table := mk_check_table r12 T F13 (PySem.W.mg_of X G a13) b13
  have r14 : Fn l.prog w K mg base C 1 "check_beside_rests" 3 dn_check_beside_rests := mk_check_beside_rests  T F14 (PySem.W.mg_of X G a14) b14
  have r15 : Fn l.prog w K mg base C 1 "check_thirds" 4 dn_check_thirds := mk_check_thirds  T F15 (PySem.W.mg_of X G a15) b15
  have r16 : Fn l.prog w K mg base C 2 "check_threes" 1 dn_check_threes := mk_check_threes r15 T F16 (PySem.W.mg_of X G a16) b16
  have r17 : FnH l.prog w K mg base C 4 den_Hall := mk_Hall___init r14 r7 r9 r11 r10 r13 r16 T F17 ⟨mk, a17, i17, kc⟩ b17
  have r18 : Fn l.prog w K mg base C 6 "_law_hall" 1 dn_law_hall := mk_law_hall r17 T F18 (PySem.W.mg_of X G a18) b18
  have r19 : FnX l.prog w K mg base C 2 "check_arrow" 2 dn_check_arrow := mk_check_arrow r8 T F19 (PySem.W.mg_of X G a19) b19
  have r20 : FnX l.prog w K mg base C 3 "then" 3 dn_then := mk_then r19 T F20 (PySem.W.mg_of X G a20) b20
  have r21 : FnX l.prog w K mg base C 2 "check_box" 2 dn_check_box := mk_check_box r8 T F21 (PySem.W.mg_of X G a21) b21
  have r22 : FnF l.prog w K mg base C 3 "between" 3 dn_between := mk_between r21 T F22 (PySem.W.mg_of X G a22) b22
  have r23 : FnN l.prog w K mg base C 1 "_law_which" 1 dn_law_which := mk_law_which  T F23 (PySem.W.mg_of X G a23) b23
  have r24 : FnP l.prog w K mg base C 4 "_law_met" 4 dn_law_met := mk_law_met r23 r22 r20 T F24 (PySem.W.mg_of X G a24) b24
  have r25 : Fn l.prog w K mg base C 1 "_law_ints" 2 dn_law_ints := mk_law_ints  T F25 (PySem.W.mg_of X G a25) b25
  have r26 : Fn l.prog w K mg base C 2 "_law_number" 3 dn_law_number := mk_law_number r1 T F26 (PySem.W.mg_of X G a26) b26
  have r27 : Fn l.prog w K mg base C 1 "_law_between" 3 dn_law_between := mk_law_between  T F27 (PySem.W.mg_of X G a27) b27
  have r28 : Fn l.prog w K mg base C 1 "_law_whole" 1 dn_law_whole := mk_law_whole  T F28 (PySem.W.mg_of X G a28) b28
  exact law_imp hval (def_ok (C := C) F29 sc_law (fun cdv A outer s H E hr => body_law r27 r18 r25 r24 r26 r6 r28 r22 T cdv A outer s H E hr))
theorem walk {l : PySem.W.OpenLaw} {q : Program} {loose : List Str} {XP : (Str → Option Value) → Heap → Prop} {YP : World → Heap → Prop} {d : DefRec} {K : Params → PySem.W.Frag} (hn : l.most = some 63) (hdf : d.params.defaults = [])
    (hY : ∀ (w : World) (h : Heap), YP w h → (K w.params).In h)
    (F : ∀ (w : World) (mg : Str → Option Value) (fa : Addr) (h : Heap), (K w.params).In h → h.Ns mainGlobals mg → mg d.name = some (.ref fa) →
      ∃ fd : FuncData, (∀ (s : Shared) (u : Value), BindsTo s fd ⟨[u], []⟩ [("script", u)]) ∧ ∀ base : Heap, (K w.params).In base → base.Ns mainGlobals mg → FnOk l.prog w (K w.params) mg base CX0 7 fa fd ["script"] (spLaw (K w.params))) :
    PySem.W.WalkO q loose XP YP l.row.toRowW d [] (fun f vs => PySem.call f vs) :=
  L2.walk_of (n := 63) (k := 7) (x := "script") (CX := fun _ => CX0) (sp := fun w => spLaw (K w.params)) hn (by decide) hdf ⟨rfl, by decide, by decide⟩ hY F (fun _ _ a ns hl _ hS => ⟨a, ns, rfl, hS, hl, fun _ => rfl⟩) fun _ _ _ _ _ z => z
end DL

set_option Elab.async false
set_option linter.all false
def PySem.W.Fast.tw15228242495531440128 := 0
def PySem.W.Fast.tw3718550670898907168 := 0
def PySem.W.Fast.tw1879825392925005952 := 0
def PySem.W.Fast.tw1647487147549611168 := 0
def PySem.W.Fast.tw16043210669939181728 := 0
def PySem.W.Fast.tw17413831746887946656 := 0
def PySem.W.Fast.tw4694697436017799680 := 0
def PySem.W.Fast.tw609869094696883808 := 0
def PySem.W.Fast.tw1705094650038407872 := 0
def PySem.W.Fast.tw9416086725463169888 := 0
def PySem.W.Fast.tw7996477498561450912 := 0
def PySem.W.Fast.tw15209134889914370016 := 0
def PySem.W.Fast.tw11283003127326304257 := 0
def PySem.W.Fast.tw1414969106471698625 := 0
def PySem.W.Fast.tw1472712540326572225 := 0
def PySem.W.Fast.tw10009249273728730401 := 0
def PySem.W.Fast.tw5601677065671684417 := 0
def PySem.W.Fast.tw661763322211715425 := 0
def PySem.W.Fast.tw6031853784634265985 := 0
def PySem.W.Fast.tw6113592252891133313 := 0
def PySem.W.Fast.tw16692730272652056993 := 0
def PySem.W.Fast.tw4665218067366527521 := 0
def PySem.W.Fast.tw691682634496380577 := 0
def PySem.W.Fast.tw12236019704442505025 := 0
def PySem.W.Fast.tw2787934911088208898 := 0
def PySem.W.Fast.tw4015153607169966210 := 0
def PySem.W.Fast.tw11851913905224102018 := 0
def PySem.W.Fast.tw17931262658616093986 := 0
def PySem.W.Fast.tw2966317224256647458 := 0
def PySem.W.Fast.tw5511878032594196802 := 0
def PySem.W.Fast.tw17541941765461835138 := 0
def PySem.W.Fast.tw9900489008625470114 := 0
def PySem.W.Fast.tw2777127486182915906 := 0
def PySem.W.Fast.tw16893772442597651298 := 0
def PySem.W.Fast.tw5512067547853000642 := 0
def PySem.W.Fast.tw16436421462300247010 := 0
def PySem.W.Fast.tw18170773694682199043 := 0
def PySem.W.Fast.tw17707912393806216259 := 0
def PySem.W.Fast.tw9930181807244780835 := 0
def PySem.W.Fast.tw4341467623325305123 := 0
def PySem.W.Fast.tw16966105304137296259 := 0
def PySem.W.Fast.tw5912163790563211939 := 0
def PySem.W.Fast.tw14354935382179458915 := 0
def PySem.W.Fast.tw15698937924679930948 := 0
def PySem.W.Fast.tw9356168119970134148 := 0
def PySem.W.Fast.tw8576784569591456964 := 0
def PySem.W.Fast.tw13832045501562669284 := 0
def PySem.W.Fast.tw16870951842459328772 := 0
def PySem.W.Fast.tw10446652170975398180 := 0
def PySem.W.Fast.tw17374716361286325796 := 0
def PySem.W.Fast.tw13307529040144444996 := 0
def PySem.W.Fast.tw2596206822437673668 := 0
def PySem.W.Fast.tw4022705555969192772 := 0
def PySem.W.Fast.tw4261970993470308228 := 0
def PySem.W.Fast.tw13114038741688049572 := 0
def PySem.W.Fast.tw13178561851241161797 := 0
def PySem.W.Fast.tw4452490549562021957 := 0
def PySem.W.Fast.tw754693392850645061 := 0
def PySem.W.Fast.tw16358624242803549285 := 0
def PySem.W.Fast.tw17182059974297757957 := 0
def PySem.W.Fast.tw10490432117599236357 := 0
def PySem.W.Fast.tw10032449947644357925 := 0
def PySem.W.Fast.tw6877138193419087173 := 0
def PySem.W.Fast.tw587077424450301381 := 0
def PySem.W.Fast.tw18105897275104473541 := 0
def PySem.W.Fast.tw3093099324366585381 := 0
def PySem.W.Fast.tw8346893873404760645 := 0
def PySem.W.Fast.tw12154863632920569445 := 0
def PySem.W.Fast.tw17635946856606282533 := 0
def PySem.W.Fast.tw3335741852974707525 := 0
def PySem.W.Fast.tw8413396066617782149 := 0
def PySem.W.Fast.tw12835259738795930918 := 0
def PySem.W.Fast.tw16411253652211513702 := 0
def PySem.W.Fast.tw1366882065592497510 := 0
def PySem.W.Fast.tw5319767588181931430 := 0
def PySem.W.Fast.tw14258616357498261126 := 0
def PySem.W.Fast.tw4328294677069573798 := 0
def PySem.W.Fast.tw6344827375563799398 := 0
def PySem.W.Fast.tw2487233681819274150 := 0
def PySem.W.Fast.tw8488535170830753702 := 0
def PySem.W.Fast.tw12381566382224144326 := 0
def PySem.W.Fast.tw6199438641257436167 := 0
def PySem.W.Fast.tw1772385081462777991 := 0
def PySem.W.Fast.tw6158695003191513319 := 0
def PySem.W.Fast.tw9694663639579329895 := 0
def PySem.W.Fast.tw529014616757833159 := 0
def PySem.W.Fast.tw2624994666423961095 := 0
def PySem.W.Fast.tw12107984786971551335 := 0
def PySem.W.Fast.tw12097304742432234119 := 0
def PySem.W.Fast.tw799684910121994887 := 0
def PySem.W.Fast.tw11941829306418325351 := 0
def PySem.W.Fast.tw264284019768990663 := 0
def PySem.W.Fast.tw8216378329601085480 := 0
def PySem.W.Fast.tw2610190546666101832 := 0
def PySem.W.Fast.tw1872051535289609384 := 0
def PySem.W.Fast.tw12256366870851383464 := 0
def PySem.W.Fast.tw18160124660519641320 := 0
def PySem.W.Fast.tw9260979058283618600 := 0
def PySem.W.Fast.tw6208563341445210504 := 0
def PySem.W.Fast.tw10494484978740926984 := 0
def PySem.W.Fast.tw563768989220863496 := 0
def PySem.W.Fast.tw1987902752523555368 := 0
def PySem.W.Fast.tw12471629268409331368 := 0
def PySem.W.Fast.tw14568113011463186088 := 0
def PySem.W.Fast.tw4022879835886625480 := 0
def PySem.W.Fast.tw7165060492837338024 := 0
def PySem.W.Fast.tw4036326622211829672 := 0
def PySem.W.Fast.tw7218733900659194824 := 0
def PySem.W.Fast.tw11724634183855986697 := 0
def PySem.W.Fast.tw8566818653157441705 := 0
def PySem.W.Fast.tw8874248934042436873 := 0
def PySem.W.Fast.tw17787760275573695785 := 0
def PySem.W.Fast.tw9832780735852393833 := 0
def PySem.W.Fast.tw17978131943401992553 := 0
def PySem.W.Fast.tw3780913172635666889 := 0
def PySem.W.Fast.tw12794556579261959721 := 0
def PySem.W.Fast.tw12954641348280601225 := 0
def PySem.W.Fast.tw4550296681357628265 := 0
def PySem.W.Fast.tw9387136131115565066 := 0
def PySem.W.Fast.tw7508923239207236746 := 0
def PySem.W.Fast.tw4973408612360367306 := 0
def PySem.W.Fast.tw1875989992546851082 := 0
def PySem.W.Fast.tw18201769086470536682 := 0
def PySem.W.Fast.tw16305527633782483466 := 0
def PySem.W.Fast.tw1282775967986206250 := 0
def PySem.W.Fast.tw559932673854823018 := 0
def PySem.W.Fast.tw10997688728847953770 := 0
def PySem.W.Fast.tw13543265186163213387 := 0
def PySem.W.Fast.tw1395271219922159691 := 0
def PySem.W.Fast.tw7224103338920794283 := 0
def PySem.W.Fast.tw7084845226278930891 := 0
def PySem.W.Fast.tw17658240432252417579 := 0
def PySem.W.Fast.tw7002664757893494411 := 0
def PySem.W.Fast.tw15243373230389038891 := 0
def PySem.W.Fast.tw5629551707946326827 := 0
def PySem.W.Fast.tw4167419808016047915 := 0
def PySem.W.Fast.tw11727576259834554315 := 0
def PySem.W.Fast.tw17139653426792689772 := 0
def PySem.W.Fast.tw2857621813875275980 := 0
def PySem.W.Fast.tw163041735632312524 := 0
def PySem.W.Fast.tw14579791937017026860 := 0
def PySem.W.Fast.tw7231845186817705388 := 0
def PySem.W.Fast.tw332729036202033740 := 0
def PySem.W.Fast.tw15894153254688081548 := 0
def PySem.W.Fast.tw5249582896542075596 := 0
def PySem.W.Fast.tw2096784689604996876 := 0
def PySem.W.Fast.tw12792301039139169196 := 0
def PySem.W.Fast.tw12972776405148140909 := 0
def PySem.W.Fast.tw6447254284814479789 := 0
def PySem.W.Fast.tw11451636220322854445 := 0
def PySem.W.Fast.tw16034624525686711310 := 0
def PySem.W.Fast.tw2778756772502857902 := 0
def PySem.W.Fast.tw7455147043612084462 := 0
def PySem.W.Fast.tw489320045308064014 := 0
def PySem.W.Fast.tw16945016422782990894 := 0
def PySem.W.Fast.tw2457180267867170510 := 0
def PySem.W.Fast.tw4082529023610692398 := 0
def PySem.W.Fast.tw13141786623465785262 := 0
def PySem.W.Fast.tw2113315266771068878 := 0
def PySem.W.Fast.tw10621468984914287791 := 0
def PySem.W.Fast.tw18435133688971913423 := 0
def PySem.W.Fast.tw18170350660476464623 := 0
def PySem.W.Fast.tw1269352669303036431 := 0
def PySem.W.Fast.tw4654601533131247247 := 0
def PySem.W.Fast.tw14760587509541740335 := 0
def PySem.W.Fast.tw3767294246785643375 := 0
def PySem.W.Fast.tw7003381731379416975 := 0
def PySem.W.Fast.tw5545973077919576975 := 0
def PySem.W.Fast.tw14716174060639823791 := 0
def PySem.W.Fast.tw15255986700436140975 := 0
def PySem.W.Fast.tw9398216119624235983 := 0
def PySem.W.Fast.tw9222431056862483472 := 0
def PySem.W.Fast.tw11105110821931283536 := 0
def PySem.W.Fast.tw5131045659578012784 := 0
def PySem.W.Fast.tw9207784538650294416 := 0
def PySem.W.Fast.tw9182048509880252752 := 0
def PySem.W.Fast.tw8382074374827260304 := 0
def PySem.W.Fast.tw11640783819538375280 := 0
def PySem.W.Fast.tw9745861261168578288 := 0
def PySem.W.Fast.tw11471248513316926224 := 0
def PySem.W.Fast.tw15822846920173252400 := 0
def PySem.W.Fast.tw17241098245753824080 := 0
def PySem.W.Fast.tw8810012952487160720 := 0
def PySem.W.Fast.tw393135102764596112 := 0
def PySem.W.Fast.tw9564355623565319152 := 0
def PySem.W.Fast.tw17742792132514150384 := 0
def PySem.W.Fast.tw14496068595010077809 := 0
def PySem.W.Fast.tw1472600519031209137 := 0
def PySem.W.Fast.tw13462551443108046033 := 0
def PySem.W.Fast.tw15581307559904887025 := 0
def PySem.W.Fast.tw6630148705036459281 := 0
def PySem.W.Fast.tw4822250030912029009 := 0
def PySem.W.Fast.tw1550402110077730225 := 0
def PySem.W.Fast.tw15779208250192927441 := 0
def PySem.W.Fast.tw12871956083716315857 := 0
def PySem.W.Fast.tw15358642737602313969 := 0
def PySem.W.Fast.tw5904056567775004433 := 0
def PySem.W.Fast.tw15625499774749965201 := 0
def PySem.W.Fast.tw6620727573868232722 := 0
def PySem.W.Fast.tw10478165729166396658 := 0
def PySem.W.Fast.tw10147515481441302834 := 0
def PySem.W.Fast.tw12275164419820417682 := 0
def PySem.W.Fast.tw17358281190018515762 := 0
def PySem.W.Fast.tw18008272021622300498 := 0
def PySem.W.Fast.tw6721063898119243634 := 0
def PySem.W.Fast.tw2307729606031589395 := 0
def PySem.W.Fast.tw7312396881541458003 := 0
def PySem.W.Fast.tw13905526683177265267 := 0
def PySem.W.Fast.tw5849146687682996723 := 0
def PySem.W.Fast.tw13253753300099516115 := 0
def PySem.W.Fast.tw1513081556581860115 := 0
def PySem.W.Fast.tw5101545316136987443 := 0
def PySem.W.Fast.tw11867414652438908755 := 0
def PySem.W.Fast.tw12250303618299487219 := 0
def PySem.W.Fast.tw16549837952905507827 := 0
def PySem.W.Fast.tw10158478854291804244 := 0
def PySem.W.Fast.tw6276529154983695508 := 0
def PySem.W.Fast.tw9006554616635141268 := 0
def PySem.W.Fast.tw3606974281622222068 := 0
def PySem.W.Fast.tw9813552979872425396 := 0
def PySem.W.Fast.tw3618064644433485268 := 0
def PySem.W.Fast.tw7955011571592301044 := 0
def PySem.W.Fast.tw17128158993363894868 := 0
def PySem.W.Fast.tw1197358550492009044 := 0
def PySem.W.Fast.tw4612764423891768916 := 0
def PySem.W.Fast.tw6185422741489562228 := 0
def PySem.W.Fast.tw11612796029097666228 := 0
def PySem.W.Fast.tw16346669671005997844 := 0
def PySem.W.Fast.tw4964975700888428597 := 0
def PySem.W.Fast.tw13802994030547272853 := 0
def PySem.W.Fast.tw2168184653069706421 := 0
def PySem.W.Fast.tw14226811280837999797 := 0
def PySem.W.Fast.tw13921074291076960693 := 0
def PySem.W.Fast.tw719180949046301205 := 0
def PySem.W.Fast.tw3594724459803273973 := 0
def PySem.W.Fast.tw7211534791035224118 := 0
def PySem.W.Fast.tw8346727689510792406 := 0
def PySem.W.Fast.tw8680473307292911030 := 0
def PySem.W.Fast.tw2852678562351036118 := 0
def PySem.W.Fast.tw217671700013184822 := 0
def PySem.W.Fast.tw9409408224500594486 := 0
def PySem.W.Fast.tw8031568680858168343 := 0
def PySem.W.Fast.tw6675301889622284695 := 0
def PySem.W.Fast.tw10087062622262016471 := 0
def PySem.W.Fast.tw1580537873148228247 := 0
def PySem.W.Fast.tw14443650290253737719 := 0
def PySem.W.Fast.tw5283586784471304983 := 0
def PySem.W.Fast.tw6718293691721603959 := 0
def PySem.W.Fast.tw18361669078123545656 := 0
def PySem.W.Fast.tw3242607800130985080 := 0
def PySem.W.Fast.tw6951033457481196760 := 0
def PySem.W.Fast.tw1331715823942067480 := 0
def PySem.W.Fast.tw6026398105957663000 := 0
def PySem.W.Fast.tw11440626696129061208 := 0
def PySem.W.Fast.tw17981794183735056856 := 0
def PySem.W.Fast.tw7362962266432392696 := 0
def PySem.W.Fast.tw17011204711852845592 := 0
def PySem.W.Fast.tw16574014008550264440 := 0
def PySem.W.Fast.tw14567595431558307480 := 0
def PySem.W.Fast.tw8225398047206459096 := 0
def PySem.W.Fast.tw3036384773515761400 := 0
def PySem.W.Fast.tw2992526101369836344 := 0
def PySem.W.Fast.tw17745251100179321752 := 0
def PySem.W.Fast.tw16836178677585160152 := 0
def PySem.W.Fast.tw7688244849362997337 := 0
def PySem.W.Fast.tw14784000279399973977 := 0
def PySem.W.Fast.tw11290243509160872185 := 0
def PySem.W.Fast.tw3380079117215631673 := 0
def PySem.W.Fast.tw7842951483697111385 := 0
def PySem.W.Fast.tw12631689904122922425 := 0
def PySem.W.Fast.tw6001385224236459449 := 0
def PySem.W.Fast.tw11631745710113964665 := 0
def PySem.W.Fast.tw6986699107067200153 := 0
def PySem.W.Fast.tw14727733622621352633 := 0
def PySem.W.Fast.tw17078961542845525753 := 0
def PySem.W.Fast.tw8707169477103130361 := 0
def PySem.W.Fast.tw7015808203096949497 := 0
def PySem.W.Fast.tw5710239340208216889 := 0
def PySem.W.Fast.tw9898315019470108473 := 0
def PySem.W.Fast.tw7696126811266545497 := 0
def PySem.W.Fast.tw18032966181214879577 := 0
def PySem.W.Fast.tw4179855393326604249 := 0
def PySem.W.Fast.tw3584742123971644377 := 0
def PySem.W.Fast.tw3164805857187227641 := 0
def PySem.W.Fast.tw6824859747525075994 := 0
def PySem.W.Fast.tw1640560519863374938 := 0
def PySem.W.Fast.tw300985079959656634 := 0
def PySem.W.Fast.tw5149944534343291098 := 0
def PySem.W.Fast.tw13901627606174955834 := 0
def PySem.W.Fast.tw9551629805884762490 := 0
def PySem.W.Fast.tw17017038089320834458 := 0
def PySem.W.Fast.tw18343343537826434554 := 0
def PySem.W.Fast.tw8245866407576713786 := 0
def PySem.W.Fast.tw12867075728491844186 := 0
def PySem.W.Fast.tw18004358473005554266 := 0
def PySem.W.Fast.tw5725445749318452858 := 0
def PySem.W.Fast.tw10847661086201808570 := 0
def PySem.W.Fast.tw15981302214355571418 := 0
def PySem.W.Fast.tw11747716338213373754 := 0
def PySem.W.Fast.tw16185486003451917210 := 0
def PySem.W.Fast.tw5311691413432264666 := 0
def PySem.W.Fast.tw522441508980595739 := 0
def PySem.W.Fast.tw3331998579788441691 := 0
def PySem.W.Fast.tw10757142590069234043 := 0
def PySem.W.Fast.tw3161560056210286075 := 0
def PySem.W.Fast.tw16287502725404265115 := 0
def PySem.W.Fast.tw16739441317955277595 := 0
def PySem.W.Fast.tw17928132727098581787 := 0
def PySem.W.Fast.tw6862937119142078331 := 0
def PySem.W.Fast.tw5589510904594043803 := 0
def PySem.W.Fast.tw963434170962527163 := 0
def PySem.W.Fast.tw4522122362295654331 := 0
def PySem.W.Fast.tw14672660662785722331 := 0
def PySem.W.Fast.tw16897537905391257595 := 0
def PySem.W.Fast.tw8616145917282284796 := 0
def PySem.W.Fast.tw3515093136167304604 := 0
def PySem.W.Fast.tw3492339288089920988 := 0
def PySem.W.Fast.tw1136805393474540188 := 0
def PySem.W.Fast.tw3616046865059484508 := 0
def PySem.W.Fast.tw18155041485289392028 := 0
def PySem.W.Fast.tw15159596855405828060 := 0
def PySem.W.Fast.tw949841901665169404 := 0
def PySem.W.Fast.tw748043034998619357 := 0
def PySem.W.Fast.tw17892293700359751965 := 0
def PySem.W.Fast.tw16216681434331221437 := 0
def PySem.W.Fast.tw15160083485828510237 := 0
def PySem.W.Fast.tw16834958585540516381 := 0
def PySem.W.Fast.tw17713787321230702429 := 0
def PySem.W.Fast.tw4770153506981144413 := 0
def PySem.W.Fast.tw12264854792356020125 := 0
def PySem.W.Fast.tw1043848147080000638 := 0
def PySem.W.Fast.tw1344806314390539422 := 0
def PySem.W.Fast.tw16715896614610739678 := 0
def PySem.W.Fast.tw15958908890107040254 := 0
def PySem.W.Fast.tw14321198024090746398 := 0
def PySem.W.Fast.tw14697257208931195550 := 0
def PySem.W.Fast.tw14860964372593579710 := 0
def PySem.W.Fast.tw15228269359304230750 := 0
def PySem.W.Fast.tw922819864782925758 := 0
def PySem.W.Fast.tw309349981440704543 := 0
def PySem.W.Fast.tw7405492944392050783 := 0
def PySem.W.Fast.tw672148862887473343 := 0
def PySem.W.Fast.tw8909066765747146975 := 0
def PySem.W.Fast.tw10746818590471536895 := 0
def PySem.W.Fast.tw16264644396510742815 := 0
def PySem.W.Fast.tw2876445443930399 := 0
def PySem.W.Fast.tw15128941814838763871 := 0
def PySem.W.Fast.tw1016523154393889183 := 0
def PySem.W.Fast.tw14422287186347487711 := 0
def PySem.W.Fast.tw4107397616550482527 := 0
def PySem.W.Fast.tw8626399271653052031 := 0
def PySem.W.Fast.tw1950717479329782431 := 0
def PySem.W.Fast.tw3714208533045120735 := 0
def PySem.W.Fast.tw2086150723417768735 := 0
def PySem.W.Fast.tw9418894351585164127 := 0
def PySem.W.Fast.tw18120363021465679743 := 0
def PySem.W.Fast.tw13562811435764416383 := 0
def PySem.W.Fast.tw11017387471162347423 := 0
def PySem.W.Fast.tw16729736213921767423 := 0
noncomputable def PySem.W.Fast.tw5138596777915610816 : PySem.Program := PySem.Challenge.pw_arrowhall_k02_arrows_that_follow
theorem PySem.W.Fast.te5138596777915610816 : PySem.Challenge.pw_arrowhall_k02_arrows_that_follow = PySem.W.Fast.tw5138596777915610816 := rfl
open PySem PySem.W PyProof.Rows
set_option maxRecDepth 100000 in
set_option maxHeartbeats 0 in
theorem PySem.Challenge.cw_arrowhall_k02_arrows_that_follow_holds : PySem.Challenge.rw_arrowhall_k02_arrows_that_follow.Holds := by
  w_on; o_law; k_head; (case hw => w_witness2)
  k_fill
  refine DL.walk (l := PySem.Challenge.rw_arrowhall_k02_arrows_that_follow) rfl rfl (fun w h Y => PySem.W.kIn_of Y) ?F
  case F =>
    intro w mg fa h KX G hmg
    refine' DL.all_mk DL.law_val KX G hmg ?aC ?a1 ?l1 ?c1 ?k1 ?a2 ?l2 ?c2 ?k2 ?a3 ?l3 ?c3 ?k3 ?a4 ?l4 ?c4 ?k4 ?a5 ?l5 ?c5 ?k5 ?a6 ?l6 ?c6 ?k6 ?a7 ?l7 ?c7 ?k7 ?a8 ?l8 ?c8 ?k8 ?a9 ?l9 ?c9 ?k9 ?a10 ?l10 ?c10 ?k10 ?a11 ?l11 ?c11 ?k11 ?a12 ?l12 ?c12 ?k12 ?a13 ?l13 ?c13 ?k13 ?a14 ?l14 ?c14 ?k14 ?a15 ?l15 ?c15 ?k15 ?a16 ?l16 ?c16 ?k16 ?a17 ?i17 ?l17 ?c17 ?k17 ?a18 ?l18 ?c18 ?k18 ?a19 ?l19 ?c19 ?k19 ?a20 ?l20 ?c20 ?k20 ?a21 ?l21 ?c21 ?k21 ?a22 ?l22 ?c22 ?k22 ?a23 ?l23 ?c23 ?k23 ?a24 ?l24 ?c24 ?k24 ?a25 ?l25 ?c25 ?k25 ?a26 ?l26 ?c26 ?k26 ?a27 ?l27 ?c27 ?k27 ?a28 ?l28 ?c28 ?k28 ?a29 ?l29 ?c29 ?k29 ?pg ?hd ?po ?sa ?mk ?kc ?nE ?nR ?nT ?z_len ?z_list ?z_tuple ?z_range ?z_enumerate ?z_max ?z_isinstance ?z_min ?z_int ?z_bool ?z_ValueError ?mb ?ma ?ih1 ?ih2 ?ih3 ?ih4 ?e0 ?e1 ?e2 ?e3 ?e4 ?e5 ?e6 ?eA ?x1a ?x1b ?x1c ?x1d ?x1e ?q10 ?q11 ?q12 ?q13 ?q14 ?q15 ?q16 ?v1 ?u1 ?n1 ?x2a ?x2b ?x2c ?x2d ?x2e ?q20 ?q21 ?q22 ?q23 ?q24 ?q25 ?q26 ?v2 ?u2 ?n2 ?be ?kii ?kbi ?kNi ?kli ?kti ?kib ?kbb ?kNb ?klb ?ktb ?kil ?kbl ?kNl ?kll ?ktl
    (case aC => k_is)
    (case a1 => k_is)
    (case l1 => k_is)
    (case c1 => k_is)
    (case k1 => k_is)
    (case a2 => k_is)
    (case l2 => k_is)
    (case c2 => k_is)
    (case k2 => k_is)
    (case a3 => k_is)
    (case l3 => k_is)
    (case c3 => k_is)
    (case k3 => k_is)
    (case a4 => k_is)
    (case l4 => k_is)
    (case c4 => k_is)
    (case k4 => k_is)
    (case a5 => k_is)
    (case l5 => k_is)
    (case c5 => k_is)
    (case k5 => k_is)
    (case a6 => k_is)
    (case l6 => k_is)
    (case c6 => k_is)
    (case k6 => k_is)
    (case a7 => k_is)
    (case l7 => k_is)
    (case c7 => k_is)
    (case k7 => k_is)
    (case a8 => k_is)
    (case l8 => k_is)
    (case c8 => k_is)
    (case k8 => k_is)
    (case a9 => k_is)
    (case l9 => k_is)
    (case c9 => k_is)
    (case k9 => k_is)
    (case a10 => k_is)
    (case l10 => k_is)
    (case c10 => k_is)
    (case k10 => k_is)
    (case a11 => k_is)
    (case l11 => k_is)
    (case c11 => k_is)
    (case k11 => k_is)
    (case a12 => k_is)
    (case l12 => k_is)
    (case c12 => k_is)
    (case k12 => k_is)
    (case a13 => k_is)
    (case l13 => k_is)
    (case c13 => k_is)
    (case k13 => k_is)
    (case a14 => k_is)
    (case l14 => k_is)
    (case c14 => k_is)
    (case k14 => k_is)
    (case a15 => k_is)
    (case l15 => k_is)
    (case c15 => k_is)
    (case k15 => k_is)
    (case a16 => k_is)
    (case l16 => k_is)
    (case c16 => k_is)
    (case k16 => k_is)
    (case a17 => k_is)
    (case i17 => k_is)
    (case l17 => k_is)
    (case c17 => k_is)
    (case k17 => k_is)
    (case a18 => k_is)
    (case l18 => k_is)
    (case c18 => k_is)
    (case k18 => k_is)
    (case a19 => k_is)
    (case l19 => k_is)
    (case c19 => k_is)
    (case k19 => k_is)
    (case a20 => k_is)
    (case l20 => k_is)
    (case c20 => k_is)
    (case k20 => k_is)
    (case a21 => k_is)
    (case l21 => k_is)
    (case c21 => k_is)
    (case k21 => k_is)
    (case a22 => k_is)
    (case l22 => k_is)
    (case c22 => k_is)
    (case k22 => k_is)
    (case a23 => k_is)
    (case l23 => k_is)
    (case c23 => k_is)
    (case k23 => k_is)
    (case a24 => k_is)
    (case l24 => k_is)
    (case c24 => k_is)
    (case k24 => k_is)
    (case a25 => k_is)
    (case l25 => k_is)
    (case c25 => k_is)
    (case k25 => k_is)
    (case a26 => k_is)
    (case l26 => k_is)
    (case c26 => k_is)
    (case k26 => k_is)
    (case a27 => k_is)
    (case l27 => k_is)
    (case c27 => k_is)
    (case k27 => k_is)
    (case a28 => k_is)
    (case l28 => k_is)
    (case c28 => k_is)
    (case k28 => k_is)
    (case a29 => k_is)
    (case l29 => k_is)
    (case c29 => k_is)
    (case k29 => k_is)
    (case pg => k_is)
    (case hd => k_is)
    (case po => k_is)
    (case sa => k_is)
    (case mk => k_is)
    (case kc => k_is)
    (case nE => k_is)
    (case nR => k_is)
    (case nT => k_is)
    (case z_len => k_is)
    (case z_list => k_is)
    (case z_tuple => k_is)
    (case z_range => k_is)
    (case z_enumerate => k_is)
    (case z_max => k_is)
    (case z_isinstance => k_is)
    (case z_min => k_is)
    (case z_int => k_is)
    (case z_bool => k_is)
    (case z_ValueError => k_is)
    (case mb => k_is)
    (case ma => k_is)
    (case ih1 => k_is)
    (case ih2 => k_is)
    (case ih3 => k_is)
    (case ih4 => k_is)
    (case e0 => k_is)
    (case e1 => k_is)
    (case e2 => k_is)
    (case e3 => k_is)
    (case e4 => k_is)
    (case e5 => k_is)
    (case e6 => k_is)
    (case eA => k_is)
    (case x1a => k_exc)
    (case x1b => k_is)
    (case x1c => k_is)
    (case x1d => k_is)
    (case x1e => k_is)
    (case q10 => kit_is)
    (case q11 => kit_is)
    (case q12 => kit_is)
    (case q13 => kit_is)
    (case q14 => kit_is)
    (case q15 => kit_is)
    (case q16 => kit_is)
    (case v1 => kit_is)
    (case u1 => kit_is)
    (case n1 => first | decide | exact (fun h => by cases h))
    (case x2a => k_exc)
    (case x2b => k_is)
    (case x2c => k_is)
    (case x2d => k_is)
    (case x2e => k_is)
    (case q20 => kit_is)
    (case q21 => kit_is)
    (case q22 => kit_is)
    (case q23 => kit_is)
    (case q24 => kit_is)
    (case q25 => kit_is)
    (case q26 => kit_is)
    (case v2 => kit_is)
    (case u2 => kit_is)
    (case n2 => first | decide | exact (fun h => by cases h))
    (case be => kit_is)
    (case kii => kit_is)
    (case kbi => kit_is)
    (case kNi => kit_is)
    (case kli => kit_is)
    (case kti => kit_is)
    (case kib => kit_is)
    (case kbb => kit_is)
    (case kNb => kit_is)
    (case klb => kit_is)
    (case ktb => kit_is)
    (case kil => kit_is)
    (case kbl => kit_is)
    (case kNl => kit_is)
    (case kll => kit_is)
    (case ktl => kit_is)
