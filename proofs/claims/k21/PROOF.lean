import PyProof.Rows.All
import Wide.All
import OpenK.AllK
import Wide.FinOn
import Lean
import PyProof.EqAt
import PyProof.EqKinds
import PyProof.TupleCall
import KE.KRevSl
import PySem.Challenge.RW_bestcalls_k21_whole_onward
set_option genSizeOf false
set_option Elab.async false
set_option linter.all false
set_option maxRecDepth 100000
namespace L2
open PySem PySem.Spec PyProof.Rows
noncomputable abbrev Key:=Sum Int Str
noncomputable def ztc : Key → Value → Bool
 | .inl k, v=>Value.isInt k v
 | .inr x, v=>Value.isStrOf x v
noncomputable def keyH (w : World) : Key → Int
 | .inl k=>hashInt k
 | .inr x=>hashStr w x
theorem zen : ∀ {k : Key} {v : Value}, ztc k v = true → (∃ i t, k = Sum.inl i ∧ v = Value.int i t) ∨ (∃ x t, k = Sum.inr x ∧ v = Value.str x t)
 | .inl i, v, h=>by
  obtain ⟨t, e⟩:=Value.isInt_shape (k:=i) (v:=v) h
  exact .inl ⟨i, t, rfl, e⟩
 | .inr x, v, h=>by
  obtain ⟨t, e⟩:=Value.isStrOf_shape (x:=x) (v:=v) h
  exact .inr ⟨x, t, rfl, e⟩
theorem zafe (i : Int) (t : Tok) : ztc (.inl i) (.int i t) = true:=by simp [ztc, Value.isInt]
theorem zaff (x : Str) (t : Tok) : ztc (.inr x) (.str x t) = true:=by simp [ztc, Value.isStrOf]
theorem zaov (a b : Int) : decide ((Sum.inl a : Key) = Sum.inl b) = (a == b):=by
 by_cases e : a = b
 ·subst e; simp
 ·have h : ¬ (Sum.inl a : Key) = Sum.inl b:=fun q=>e (Sum.inl.inj q)
  rw [decide_eq_false h]
  exact (beq_eq_false_iff_ne.mpr e).symm
theorem zaow (a b : Str) : decide ((Sum.inr a : Key) = Sum.inr b) = decide (a = b):=by
 by_cases e : a = b
 ·subst e; simp
 ·have h : ¬ (Sum.inr a : Key) = Sum.inr b:=fun q=>e (Sum.inr.inj q)
  rw [decide_eq_false h, decide_eq_false e]
theorem zaox (a : Int) (b : Str) : decide ((Sum.inl a : Key) = Sum.inr b) = false:=decide_eq_false (fun q=>nomatch q)
theorem zaoy (a : Str) (b : Int) : decide ((Sum.inr a : Key) = Sum.inl b) = false:=decide_eq_false (fun q=>nomatch q)
noncomputable def zdd (prog : Program) (w : World) : PySem.KeyKind prog w Key where
 is:=ztc
 hash:=keyH w
 inj:=fun v a b ha hb=>by
  rcases zen ha with ⟨i, t, rfl, rfl⟩ | ⟨x, t, rfl, rfl⟩
  ·rcases zen hb with ⟨j, u, rfl, e⟩ | ⟨y, u, rfl, e⟩
   ·injection e with e1 _; rw [e1]
   ·exact nomatch e
  ·rcases zen hb with ⟨j, u, rfl, e⟩ | ⟨y, u, rfl, e⟩
   ·exact nomatch e
   ·injection e with e1 _; rw [e1]
 byValue:=fun k v h=>by
  rcases zen h with ⟨i, t, rfl, rfl⟩ | ⟨x, t, rfl, rfl⟩ <;> rfl
 pyHash:=fun hv h=>by
  rcases zen hv with ⟨i, t, rfl, rfl⟩ | ⟨x, t, rfl, rfl⟩
  ·exact wpAny_pyHash_int h
  ·exact wpAny_pyHash_str h
 eqBool:=fun hu hv h=>by
  rcases zen hu with ⟨i, t, rfl, rfl⟩ | ⟨x, t, rfl, rfl⟩
  ·rcases zen hv with ⟨j, u, rfl, rfl⟩ | ⟨y, u, rfl, rfl⟩
   ·rw [zaov] at h; exact wpAny_eqBool_int h
   ·rw [zaox] at h; exact SeqAt.EqAt.int_str i t y u _ _ _ _ h
  ·rcases zen hv with ⟨j, u, rfl, rfl⟩ | ⟨y, u, rfl, rfl⟩
   ·rw [zaoy] at h; exact SeqAt.EqAt.str_int x t j u _ _ _ _ h
   ·rw [zaow] at h; exact wpAny_eqBool_str h
 «strs»:=fun k x t v h=>by
  rcases zen h with ⟨i, u, rfl, e⟩ | ⟨y, u, rfl, e⟩
  ·exact nomatch e
  ·injection e with e1 _
   subst e1
   cases v <;> rfl
theorem zaab (prog : Program) (w : World) (i : Int) (t : Tok) : (zdd prog w).is (.inl i) (.int i t) = true:=zafe i t
theorem zaac (prog : Program) (w : World) (x : Str) (t : Tok) : (zdd prog w).is (.inr x) (.str x t) = true:=zaff x t
end L2
namespace L2
open PySem PySem.Spec PyProof.Rows
inductive V where
 | non | bl (b : Bool) | int (i : Int) | str (x : Str) | byt (b : Array UInt8) | flt (b : UInt64) | ref (a : Addr) | ty (n : String)
 deriving DecidableEq
noncomputable def RelV : V → Value → Prop
 | .non, u=>u = Value.none
 | .bl b, u=>u = Value.bool b
 | .int i, u=>∃ t, u = Value.int i t
 | .str x, u=>∃ t, u = Value.str x t
 | .byt b, u=>∃ t, u = Value.bytes b t
 | .flt b, u=>∃ t, u = Value.float b t
 | .ref a, u=>u = Value.ref a
 | .ty n, u=>u = Value.type n
noncomputable abbrev Vals : List V → List Value → Prop:=Paired RelV
theorem Vals.length {xs : List V} {us : List Value} (r : Vals xs us) : xs.length = us.length:=Paired.length r
theorem Vals.get : ∀ {xs : List V} {us : List Value} {i : Nat} {x : V}, Vals xs us → xs[i]? = some x → ∃ u, us[i]? = some u ∧ RelV x u
 | _, _, _, _, .nil, e=>by simp at e
 | _, _, 0, _, .cons r _, e=>by simp at e; subst e; exact ⟨_, rfl, r⟩
 | _, _, i + 1, x, .cons _ t, e=>by
  obtain ⟨u, h1, h2⟩:=Vals.get (i:=i) (x:=x) t (by simpa using e)
  exact ⟨u, by simpa using h1, h2⟩
theorem Vals.set {x : V} {u : Value} (r : RelV x u) : ∀ {xs : List V} {us : List Value} (i : Nat), Vals xs us → Vals (xs.set i x) (us.set i u)
 | _, _, _, .nil=>.nil
 | _, _, 0, .cons _ t=>.cons r t
 | _, _, i + 1, .cons q t=>.cons q (Vals.set r i t)
theorem Vals.append : ∀ {xs ys : List V} {us ws : List Value}, Vals xs us → Vals ys ws → Vals (xs ++ ys) (us ++ ws)
 | _, _, _, _, .nil, s=>s
 | _, _, _, _, .cons r t, s=>.cons r (Vals.append t s)
theorem Vals.take : ∀ {xs : List V} {us : List Value} (n : Nat), Vals xs us → Vals (xs.take n) (us.take n)
 | _, _, 0, _=>.nil
 | _, _, _ + 1, .nil=>.nil
 | _, _, n + 1, .cons r t=>.cons r (Vals.take n t)
theorem Vals.drop : ∀ {xs : List V} {us : List Value} (n : Nat), Vals xs us → Vals (xs.drop n) (us.drop n)
 | _, _, 0, r=>r
 | _, _, _ + 1, .nil=>.nil
 | _, _, n + 1, .cons _ t=>Vals.drop n t
noncomputable def RelO : Option V → Option Value → Prop
 | some v, some u=>RelV v u
 | none, none=>True
 | _, _=>False
noncomputable def KV {κ : Type} : List (κ × V) → List (κ × Value) → Prop:=Paired fun (p : κ × V) (q : κ × Value)=>p.1 = q.1 ∧ RelV p.2 q.2
noncomputable def kV : Key → V
 | .inl i=>.int i
 | .inr x=>.str x
inductive HO where
  | lst (xs : List V)
  | tup (xs : List V)
  | dK (kvs : List (Key × V)) | dT (kvs : List (List Key × V))
  | set (S : Int → Bool) (n : Nat)
  | ins (C dx : Addr) (fs : List (Str × V))
  | own (x : Addr)
  | xd (fs : List (Str × V))
  | met (f x : Addr)
  | rng (lo hi : Int)
  | frz (o : Obj) (u : HO)
  | tbl (ps : Array Value)
  | ext (φ : Heap → Prop)
noncomputable abbrev Hp:=Addr → Option HO
noncomputable def upd (H : Hp) (a : Addr) (o : HO) : Hp:=fun b=>if b = a then some o else H b
theorem zbn {H : Hp} {a : Addr} {o : HO} : upd H a o a = some o:=by unfold upd; rw [if_pos rfl]
theorem zcj {H : Hp} {a b : Addr} {o : HO} (h : b ≠ a) : upd H a o b = H b:=by unfold upd; rw [if_neg h]
theorem zaml {H : Hp} {a : Addr} {o u : HO} : upd (upd H a o) a u = upd H a u:=by
 funext b; unfold upd; split <;> rfl
theorem zaqz {H : Hp} {a b : Addr} {o u : HO} (h : H a = some o) (h' : H b = some u) (d : o ≠ u) : a ≠ b:=by
 intro e; subst e; rw [h] at h'; exact d (Option.some.inj h')
theorem zce {H : Hp} {a b : Addr} {o : HO} (h : H a = some o) (h' : H b = none) : a ≠ b:=by
 intro e; subst e; rw [h] at h'; cases h'
section
variable (P : Program) (w : World)
noncomputable def zgq (H : Hp) (h : Heap) (a : Addr) : HO → Prop
 | .lst xs=>xs.length ≤ sizeLine ∧ ∃ (its : List Value) (n : Nat), Vals xs its ∧ h.get? a = some { cls:=.type "list", data:=.seq its.toArray n }
 | .tup xs=>xs.length ≤ sizeLine ∧ ∃ its : List Value, Vals xs its ∧ IsTup h a its.toArray
 | .dK kvs=>kvs.length ≤ sizeLine ∧ (a == sysModules) = false ∧ ∃ vs, KV kvs vs ∧ h.DictOf (zdd P w) a vs
 | .dT kvs=>kvs.length ≤ sizeLine ∧ (a == sysModules) = false ∧ ∃ xs : List (List Key × Addr × Value),
   Paired (fun (p : List Key × V) (q : List Key × Addr × Value)=>p.1 = q.1 ∧ H q.2.1 = some (.tup (p.1.map kV)) ∧ RelV p.2 q.2.2) kvs xs ∧
   ∃ o es ep, h.get? a = some o ∧ o.ExactDict ∧ o.data = .dict es ep ∧ es.toList = xs.map (entryOfKey (tupleKind (zdd P w))) ∧ (xs.map (·.1)).Nodup
 | .set S n=>h.SetOf (intKind P w) a S n
 | .ins C dx fs=>H dx = some (.own a) ∧ fs.length ≤ 1000 ∧ dx ≠ a ∧ h.get? a = some (PySem.W.instObj C dx) ∧
   ∃ mA, h.Ns1 dx mA ∧ (∀ f, RelO (fs.lookup f) (mA f)) ∧ PySem.Within mA (fs.map (·.1))
 | .own _=>∃ o, h.get? a = some o
 | .xd fs=>∃ mA, h.Ns1 a mA ∧ ∀ f, RelO (fs.lookup f) (mA f)
 | .rng lo hi=>∃ t u v, h.get? a = some { cls:=.type "range", data:=.fields #[.int lo t, .int hi u, .int 1 v] }
 | .frz o u=>h.get? a = some o ∧ zgq H h a u
 | .tbl ps=>h.get? a = some { cls:=.none, data:=.fields ps }
 | .met f x=>h.get? a = some (PySem.W.methodObj (.ref f) (.ref x))
 | .ext φ=>φ h ∧ (∃ o, h.get? a = some o) ∧ ∀ h1 h2 : Heap, φ h1 → (∀ o, h1.get? a = some o → h2.get? a = some o) → φ h2
noncomputable def HOk (H : Hp) (h : Heap) : Prop:=∀ a o, H a = some o → zgq P w H h a o
end
section
variable {P : Program} {w : World} {H H' : Hp} {h h' : Heap} {a : Addr} {o : HO}
theorem zgq.lt (x : zgq P w H h a o) : a < h.objs.size:=by
 cases o with
 | lst xs=>obtain ⟨_, _, _, _, e⟩:=x; exact Heap.lt_size e
 | tup xs=>obtain ⟨_, _, _, p⟩:=x; exact p.lt
 | dK kvs=>obtain ⟨_, _, _, _, o, _, _, e, _⟩:=x; exact Heap.lt_size e
 | dT kvs=>obtain ⟨_, _, _, _, o, _, _, e, _⟩:=x; exact Heap.lt_size e
 | set S n=>obtain ⟨o, _, _, _, e, _⟩:=x; exact Heap.lt_size e
 | ins C dx fs=>obtain ⟨_, _, _, e, _⟩:=x; exact Heap.lt_size e
 | own y=>obtain ⟨_, e⟩:=x; exact Heap.lt_size e
 | xd fs=>obtain ⟨_, ⟨_, _, _, e, _⟩, _⟩:=x; exact Heap.lt_size e
 | rng lo hi=>obtain ⟨_, _, _, e⟩:=x; exact Heap.lt_size e
 | frz ob u=>obtain ⟨e, _⟩:=x; exact Heap.lt_size e
 | tbl ps=>exact Heap.lt_size (show h.get? a = some _ from x)
 | met f y=>exact Heap.lt_size (show h.get? a = some _ from x)
 | ext φ=>obtain ⟨_, ⟨_, e⟩, _⟩:=x; exact Heap.lt_size e
theorem Paired.mapP {α β : Type} {F G : α → β → Prop} : ∀ {l₁ : List α} {l₂ : List β}, Paired F l₁ l₂ → (∀ a b, F a b → G a b) → Paired G l₁ l₂
 | _, _, .nil, _=>.nil
 | _, _, .cons r t, f=>.cons (f _ _ r) (Paired.mapP t f)
theorem zgq.stay (x : zgq P w H h a o) (k : ∀ b u, (b = a ∨ H b = some (.own a)) → h.get? b = some u → h'.get? b = some u)
  (ho : ∀ b, H b = some (.own a) → H' b = some (.own a)) (ht : ∀ b xs, H b = some (.tup xs) → H' b = some (.tup xs)) : zgq P w H' h' a o:=by
 induction o with
 | lst xs=>obtain ⟨z, its, n, r, e⟩:=x; exact ⟨z, its, n, r, k _ _ (.inl rfl) e⟩
 | tup xs=>obtain ⟨z, its, r, ob, e, c⟩:=x; exact ⟨z, its, r, ob, k _ _ (.inl rfl) e, c⟩
 | dK kvs=>obtain ⟨z, y, vs, r, ob, es, ep, e, c⟩:=x; exact ⟨z, y, vs, r, ob, es, ep, k _ _ (.inl rfl) e, c⟩
 | dT kvs =>
  obtain ⟨z, y, xs, r, ob, es, ep, e, c⟩:=x
  exact ⟨z, y, xs, Paired.mapP r fun p q z=>⟨z.1, ht _ _ z.2.1, z.2.2⟩, ob, es, ep, k _ _ (.inl rfl) e, c⟩
 | set S n=>obtain ⟨ob, es, ep, t, e, c⟩:=x; exact ⟨ob, es, ep, t, k _ _ (.inl rfl) e, c⟩
 | ins C dx fs =>
  obtain ⟨d, z, ne, e, mA, ⟨od, es, ep, e2, c⟩, r⟩:=x
  exact ⟨ho _ d, z, ne, k _ _ (.inl rfl) e, mA, ⟨od, es, ep, k _ _ (.inr d) e2, c⟩, r⟩
 | own y=>obtain ⟨ob, e⟩:=x; exact ⟨ob, k _ _ (.inl rfl) e⟩
 | xd fs=>obtain ⟨mA, ⟨od, es, ep, e, c⟩, r⟩:=x; exact ⟨mA, ⟨od, es, ep, k _ _ (.inl rfl) e, c⟩, r⟩
 | rng lo hi=>obtain ⟨t, u, v, e⟩:=x; exact ⟨t, u, v, k _ _ (.inl rfl) e⟩
 | frz ob u ih=>obtain ⟨e, q⟩:=x; exact ⟨k _ _ (.inl rfl) e, ih q⟩
 | tbl ps =>
  have e : h.get? a = some { cls:=.none, data:=.fields ps }:=x
  show h'.get? a = some { cls:=.none, data:=.fields ps }
  exact k a _ (.inl rfl) e
 | met f y =>
  have e : h.get? a = some (PySem.W.methodObj (.ref f) (.ref y)):=x
  show h'.get? a = some (PySem.W.methodObj (.ref f) (.ref y))
  exact k a _ (.inl rfl) e
 | ext φ=>obtain ⟨p, ⟨o, e⟩, st⟩:=x; exact ⟨st _ _ p fun o q=>k _ _ (.inl rfl) q, ⟨o, k _ _ (.inl rfl) e⟩, st⟩
theorem HOk.lt (x : HOk P w H h) (e : H a = some o) : a < h.objs.size:=(x a o e).lt
theorem HOk.fresh (x : HOk P w H h) (e : h.objs.size ≤ a) : H a = none:=by
 cases q : H a with
 | none=>rfl
 | some u=>exact absurd (Nat.lt_of_lt_of_le (x.lt q) e) (Nat.lt_irrefl _)
theorem HOk.kept (x : HOk P w H h) (k : ∀ b u, h.get? b = some u → h'.get? b = some u) : HOk P w H h':=fun a o e =>
 (x a o e).stay (fun b u _ q=>k b u q) (fun _ q=>q) fun _ _ q=>q
theorem HOk.laid (x : HOk P w H h) (k : ∀ b u, h.get? b = some u → h'.get? b = some u) (hp : h.objs.size ≤ a) (new : zgq P w (upd H a o) h' a o) : HOk P w (upd H a o) h':=fun b u e=>by
 have hn:=x.fresh hp
 by_cases hb : b = a
 ·subst hb; rw [zbn] at e; cases e; exact new
 ·rw [zcj hb] at e
  exact (x b u e).stay (fun c v _ q=>k c v q) (fun c q=>by rw [zcj (zce q hn)]; exact q) fun c xs q=>by rw [zcj (zce q hn)]; exact q
end
noncomputable def Rd (H : Hp) (a : Addr) (u : HO) : Prop:=H a = some u ∨ ∃ o, H a = some (.frz o u)
theorem Rd.ok {P : Program} {w : World} {H : Hp} {h : Heap} {a : Addr} {u : HO} (r : Rd H a u) (x : HOk P w H h) : zgq P w H h a u:=by
 rcases r with r | ⟨o, r⟩
 ·exact x a u r
 ·obtain ⟨_, q⟩:=x a _ r
  exact q
noncomputable def Mut : Option HO → Prop
 | some (.lst _)=>True
 | some (.dK _)=>True
 | some (.dT _)=>True
 | some (.set _ _)=>True
 | some (.ins _ _ _)=>True
 | some (.ext _)=>True
 | _=>False
section
variable {P : Program} {w : World} {H : Hp} {h h' : Heap} {x e : Addr} {o' : HO}
theorem HOk.write (ok : HOk P w H h) (mu : Mut (H x)) (he : e = x ∨ H e = some (.own x)) (k : ∀ b u, b ≠ e → h.get? b = some u → h'.get? b = some u) (heo : ∃ u, h'.get? e = some u)
  (new : zgq P w (upd H x o') h' x o') : HOk P w (upd H x o') h':=fun b u q=>by
 have nown : ∀ c y, H c = some (.own y) → c ≠ x:=fun c y r z=>by subst z; rw [r] at mu; exact mu
 have ntup : ∀ c xs, H c = some (.tup xs) → c ≠ x:=fun c xs r z=>by subst z; rw [r] at mu; exact mu
 by_cases hb : b = x
 ·subst hb; rw [zbn] at q; cases q; exact new
 ·rw [zcj hb] at q
  by_cases hbe : b = e
  ·have q' : H b = some (.own x):=by
    rcases he with z | z
    ·exact absurd (hbe.trans z) hb
    ·rw [hbe]; exact z
   rw [q] at q'; cases q'
   obtain ⟨v, hv⟩:=heo
   exact ⟨v, by rw [hbe]; exact hv⟩
  ·refine (ok b u q).stay (fun c v hc r=>k c v ?_ r) (fun c r=>by rw [zcj (nown c b r)]; exact r) fun c xs r=>by rw [zcj (ntup c xs r)]; exact r
   rcases hc with rfl | hc
   ·exact hbe
   ·rintro rfl
    rcases he with z | z
    ·exact nown c b hc z
    ·rw [hc] at z; cases z; exact hb rfl
end
set_option genInjectivity false in
structure Un (fs ex : List Addr) (H H' : Hp) (h h' : Heap) : Prop where
 keep : ∀ b o, h.get? b = some o → H b = none → b ∉ fs → b ∉ ex → h'.get? b = some o
 slot : ∀ b o, h.get? b = some o → H b = none → b ∈ fs → b ∉ ex → ∃ sl, h'.get? b = some { o with slots:=sl }
 free : ∀ b o, h.get? b = some o → H b = none → b ∉ ex → H' b = none
 there : ∀ b o, h.get? b = some o → b ∉ ex → ∃ o', h'.get? b = some o'
 tups : ∀ b xs, H b = some (.tup xs) → H' b = some (.tup xs)
 frzs : ∀ b o u, H b = some (.frz o u) → H' b = some (.frz o u)
 tbls : ∀ b ps, H b = some (.tbl ps) → ∃ more, H' b = some (.tbl (ps ++ more))
section
variable {fs fs' ex ex' : List Addr} {H H1 H2 : Hp} {h h1 h2 h' : Heap} {a x e : Addr} {o : HO}
theorem Un.any (u : Un fs ex H H1 h h1) {b : Addr} {ob : Obj} (q : h.get? b = some ob) (n : H b = none) (hx : b ∉ ex) : ∃ sl, h1.get? b = some { ob with slots:=sl }:=by
 by_cases hb : b ∈ fs
 ·exact u.slot b ob q n hb hx
 ·exact ⟨ob.slots, u.keep b ob q n hb hx⟩
theorem Un.kept (k : ∀ b u, h.get? b = some u → h'.get? b = some u) : Un fs ex H H h h' :=
 ⟨fun b ob q _ _ _=>k b ob q, fun b ob q _ _ _=>⟨ob.slots, k b ob q⟩, fun _ _ _ n _=>n, fun b ob q _=>⟨ob, k b ob q⟩, fun _ _ q=>q, fun _ _ _ q=>q, fun _ ps q=>⟨#[], by rw [q]; simp⟩⟩
theorem Un.refl : Un fs ex H H h h:=Un.kept fun _ _ q=>q
theorem Un.laid (k : ∀ b u, h.get? b = some u → h'.get? b = some u) (hp : h.objs.size ≤ a) (hn : H a = none) : Un fs ex H (upd H a o) h h' where
 keep:=fun b u q _ _ _=>k b u q
 slot:=fun b u q _ _ _=>⟨u.slots, k b u q⟩
 free:=fun b u q n _=>by rw [zcj (Nat.ne_of_lt (Nat.lt_of_lt_of_le (Heap.lt_size q) hp))]; exact n
 there:=fun b u q _=>⟨u, k b u q⟩
 tups:=fun b xs q=>by rw [zcj (zce q hn)]; exact q
 frzs:=fun b u xs q=>by rw [zcj (zce q hn)]; exact q
 tbls:=fun b ps q=>⟨#[], by rw [zcj (zce q hn), q]; simp⟩
theorem Un.write (mu : Mut (H x)) (he : e = x ∨ H e = some (.own x)) (k : ∀ b u, b ≠ e → h.get? b = some u → h'.get? b = some u) (heo : ∃ u, h'.get? e = some u) : Un fs ex H (upd H x o) h h':=by
 have hx : ∀ b, H b = none → b ≠ x:=fun b n z=>by subst z; rw [n] at mu; exact mu
 have hb : ∀ b, H b = none → b ≠ e:=fun b n z=>by
  subst z
  rcases he with r | r
  ·exact hx b n r
  ·rw [n] at r; cases r
 have hm : ∀ b u, H b = some u → ¬ Mut (some u) → b ≠ x:=fun b u q nm z=>by subst z; rw [q] at mu; exact nm mu
 refine ⟨fun b u q n _ _=>k b u (hb b n) q, fun b u q n _ _=>⟨u.slots, k b u (hb b n) q⟩, fun b u q n _=>by rw [zcj (hx b n)]; exact n, fun b u q _=>?_,
  fun b xs q=>by rw [zcj (hm b _ q fun z=>z)]; exact q, fun b u xs q=>by rw [zcj (hm b _ q fun z=>z)]; exact q, fun b ps q=>⟨#[], by rw [zcj (hm b _ q fun z=>z), q]; simp⟩⟩
 by_cases hbe : b = e
 ·subst hbe; exact heo
 ·exact ⟨u, k b u hbe q⟩
end
noncomputable def trk (h : Heap) (H : Hp) : List Addr:=(List.range h.objs.size).filter fun a=>(H a).isSome
noncomputable def hidT (h : Heap) (H : Hp) : Heap:=PySem.W.hideAll h (trk h H)
theorem zafg (h : Heap) (H : Hp) : (hidT h H).objs.size = h.objs.size:=PySem.W.hideAll_size _ _
theorem zajf {h : Heap} {H : Hp} {b : Addr} {o : Obj} (e : h.get? b = some o) (n : H b = none) : (hidT h H).get? b = some o :=
 PySem.W.hideAll_get _ e fun hm=>by
  have q : (H b).isSome = true:=(List.mem_filter.mp hm).2
  rw [n] at q; simp at q
theorem zamm {h : Heap} {H : Hp} {b : Addr} {o : Obj} (e : (hidT h H).get? b = some o) : h.get? b = some o ∧ H b = none:=by
 have e' : h.get? b = some o:=PySem.W.of_hideAll (trk h H) e
 refine ⟨e', ?_⟩
 cases q : H b with
 | none=>rfl
 | some x =>
  have hm : b ∈ trk h H:=List.mem_filter.mpr ⟨List.mem_range.mpr (Heap.lt_size e'), by simp [q]⟩
  have z : (hidT h H).get? b = none:=PySem.W.hideAll_none (trk h H) hm
  rw [z] at e; cases e
end L2
namespace L2
open PySem PySem.Spec PyProof.Rows
set_option genInjectivity false in
structure Mod (K : PySem.W.Frag) (mg : Str → Option Value) (base : Heap) : Prop where
 kin : K.In base
 glob : base.Ns mainGlobals mg
 blt : ∃ mb, base.Ns builtinsNs mb ∧ ∀ x : Str, x ≠ "__name__" → mb x = bootBuiltins x
 nolimit : base.NoLimit
set_option genInjectivity false in
structure Cx where
 prog : Program
 w : World
 K : PySem.W.Frag
 mg : Str → Option Value
 base : Heap
 A : Around
 N : List Str
 s₀ : Shared
 H₀ : Hp
 env : Env
 outer : List Env
 stack : List Env
 ex : List Addr
 fn : Str → Bool
 calm : Bool
 pn : List (Addr × Obj)
 xe : Value → Shared → Prop
noncomputable def frs (l : List Env) : List Addr:=l.filterMap (·.frame)
noncomputable abbrev Cx.fs (X : Cx) : List Addr:=frs X.outer
noncomputable def Vis (sc : Scope) (x : Str) : Prop:=sc.names.lookup x = some .local ∨ sc.names.lookup x = some .cell ∨ sc.names.lookup x = some .free
noncomputable def visB (sc : Scope) (x : Str) : Bool:=match sc.names.lookup x with
 | some .local=>true
 | some .cell=>true
 | some .free=>true
 | _=>false
theorem visB.of {sc : Scope} {x : Str} (h : visB sc x = true) : Vis sc x:=by
 unfold visB at h
 cases e : sc.names.lookup x with
 | none=>rw [e] at h; cases h
 | some k=>rw [e] at h; cases k <;> first | exact .inl e | exact .inr (.inl e) | exact .inr (.inr e) | cases h
noncomputable def Loc (sc : Scope) (x : Str) : Prop:=sc.names.lookup x = some .local ∨ sc.names.lookup x = some .cell
noncomputable def Look (env : Env) (h : Heap) (m : Str → Option Value) (x : Str) (u : Value) : Prop :=
 (env.kindOf x = some .local ∧ m x = some u) ∨ ((env.kindOf x = some .cell ∨ env.kindOf x = some .free) ∧ ∃ c, env.cells.lookup x = some c ∧ h.IsCell c (some u))
set_option genInjectivity false in
structure Cx.Ok (X : Cx) : Prop where
 mod : Mod X.K X.mg X.base
 kind : X.env.scope.kind = .function
 glob : X.env.globals = mainGlobals
 blt : X.env.builtins = builtinsNs
 above : X.s₀.heap.objs.size ≤ X.env.locals
 inj : ∀ x y c, X.env.cells.lookup x = some c → X.env.cells.lookup y = some c → x = y
 has : ∀ x, (X.env.kindOf x = some .cell ∨ X.env.kindOf x = some .free) → ∃ c, X.env.cells.lookup x = some c
 cab : ∀ x c, X.fn x = true → X.env.cells.lookup x = some c → X.s₀.heap.objs.size ≤ c
 hd : X.calm = true → X.A.handled = none
 frames : X.A.frames = some X.stack
 stk : X.stack = X.outer ∨ (X.stack = X.env :: X.outer ∧ X.env.frame = some X.env.locals)
 exf : ∀ b ∈ X.ex, b ≠ X.env.locals ∧ ∀ x c, X.env.cells.lookup x = some c → c ≠ b
 bs : ∀ b o, X.base.get? b = some o → X.s₀.heap.get? b = some o ∧ X.H₀ b = none
 bsz : X.base.objs.size ≤ X.s₀.heap.objs.size
 noex : ∀ b o, X.base.get? b = some o → b ∉ X.ex
 exfs : ∀ b ∈ X.ex, b ∉ X.fs
 funs : X.s₀.heap.FunFrames X.base X.outer
 frf : ∀ b ∈ X.fs, X.H₀ b = none
set_option genInjectivity false in
structure Inv (X : Cx) (pins : List (Addr × Obj)) (σ : List (Option V)) (H : Hp) (s : Shared) : Prop where
 ok : X.Ok
 os : s.os = X.s₀.os
 bare : AllBare s.gens
 base : Un X.fs X.ex X.H₀ H X.s₀.heap s.heap
 loc : ∃ m, s.heap.Ns X.env.locals m ∧ ∀ (i : Nat) (x : Str) (v : V), X.N[i]? = some x → σ[i]? = some (some v) → Vis X.env.scope x → ∃ u, RelV v u ∧ Look X.env s.heap m x u
 cell : ∀ x c, X.env.cells.lookup x = some c → ∃ v, s.heap.IsCell c v
 free : H X.env.locals = none
 freeC : ∀ x c, X.env.cells.lookup x = some c → H c = none
 pin : ∀ p ∈ X.pn ++ pins, s.heap.get? p.1 = some p.2 ∧ H p.1 = none ∧ p.1 ≠ X.env.locals ∧ p.1 ∉ X.fs ∧ ∀ v, p.2.data ≠ .cell v
 hok : HOk X.prog X.w H s.heap
 len : σ.length = X.N.length
section
variable {X : Cx} {pins : List (Addr × Obj)} {σ : List (Option V)} {H H' : Hp} {s : Shared} {h' : Heap}
theorem Cx.Ok.nofr (ok : X.Ok) {b : Addr} {o : Obj} (e : X.base.get? b = some o) : b ∉ X.fs:=fun hb=>by
 have:=(ok.funs.mem hb).1
 rw [e] at this; cases this
theorem Inv.bs (I : Inv X pins σ H s) : ∀ b o, X.base.get? b = some o → s.heap.get? b = some o ∧ H b = none:=fun b o e =>
 ⟨I.base.keep b o (I.ok.bs b o e).1 (I.ok.bs b o e).2 (I.ok.nofr e) (I.ok.noex b o e), I.base.free b o (I.ok.bs b o e).1 (I.ok.bs b o e).2 (I.ok.noex b o e)⟩
theorem Inv.bk (I : Inv X pins σ H s) : ∀ b o, X.base.get? b = some o → s.heap.get? b = some o:=fun b o e=>(I.bs b o e).1
theorem Inv.mod (I : Inv X pins σ H s) : Mod X.K X.mg X.base:=I.ok.mod
theorem Inv.kIn (I : Inv X pins σ H s) : X.K.In s.heap:=I.ok.mod.kin.keeps I.bk
theorem Inv.lt (I : Inv X pins σ H s) : X.env.locals < s.heap.objs.size:=let ⟨_, hn, _⟩:=I.loc; hn.lt
theorem Inv.sz (I : Inv X pins σ H s) : X.s₀.heap.objs.size ≤ s.heap.objs.size:=Nat.le_trans I.ok.above (Nat.le_of_lt I.lt)
theorem Inv.nofs (I : Inv X pins σ H s) {a : Addr} (h : s.heap.objs.size ≤ a) : a ∉ X.fs:=fun hb=>by
 obtain ⟨_, o, ho, _⟩:=I.ok.funs.mem hb
 exact absurd (Nat.lt_of_lt_of_le (Heap.lt_size ho) (Nat.le_trans I.sz h)) (Nat.lt_irrefl _)
theorem Inv.cne (I : Inv X pins σ H s) : ∀ x c, X.env.cells.lookup x = some c → c ≠ X.env.locals:=fun x c e z=>by
 obtain ⟨v, o, ho, hd⟩:=I.cell x c e
 obtain ⟨m, ⟨o', es, ep, ho', hd', _⟩, _⟩:=I.loc
 rw [z, ho'] at ho; cases ho; rw [hd'] at hd; cases hd
theorem Inv.funs (I : Inv X pins σ H s) : s.heap.FunFrames X.base X.outer:=by
 have all : ∀ (l : List Env), (∀ b ∈ frs l, b ∈ X.fs) → X.s₀.heap.FunFrames X.base l → s.heap.FunFrames X.base l:=by
  intro l
  induction l with
  | nil=>intro _ _; trivial
  | cons env r ih =>
   intro hs hl
   obtain ⟨hk, ⟨L, o, hf, hn, ho, hd⟩, hr⟩:=hl
   have hL : L ∈ X.fs:=hs L (by unfold frs; rw [List.filterMap_cons, hf]; exact List.mem_cons_self)
   obtain ⟨sl, e⟩:=I.base.slot L o ho (I.ok.frf L hL) hL fun z=>I.ok.exfs L z hL
   exact ⟨hk, ⟨L, _, hf, hn, e, hd⟩, ih (fun b hb=>hs b (by unfold frs; rw [List.filterMap_cons, hf]; exact List.mem_cons_of_mem _ hb)) hr⟩
 exact all X.outer (fun _ hb=>hb) I.ok.funs
theorem Inv.stack (I : Inv X pins σ H s) : s.heap.FunFrames X.base X.stack:=by
 rcases I.ok.stk with e | ⟨e, hf⟩
 ·rw [e]; exact I.funs
 ·rw [e]
  obtain ⟨m, hn, _⟩:=I.loc
  refine .cons (by rw [I.ok.kind]; decide) hf hn ?_ I.funs
  exact Heap.get?_none_of_le (Nat.le_trans I.ok.bsz I.ok.above)
theorem Inv.stkSub (I : Inv X pins σ H s) : ∀ b ∈ frs X.stack, b ∈ X.env.locals :: X.fs:=fun b hb=>by
 rcases I.ok.stk with e | ⟨e, hf⟩
 ·rw [e] at hb; exact List.mem_cons_of_mem _ hb
 ·rw [e] at hb
  unfold frs at hb
  rw [List.filterMap_cons, hf] at hb
  exact hb
theorem Inv.stkFree (I : Inv X pins σ H s) : ∀ b ∈ frs X.stack, H b = none:=fun b hb=>by
 rcases List.mem_cons.mp (I.stkSub b hb) with e | hb
 ·rw [e]; exact I.free
 ·obtain ⟨_, o, ho, _⟩:=I.ok.funs.mem hb
  exact I.base.free b o ho (I.ok.frf b hb) fun z=>I.ok.exfs b z hb
theorem Inv.step {g' : Array GenState} {t' : Nat} {d' : Drawn} {ch : List Addr} (I : Inv X pins σ H s)
  (hch : ∀ b ∈ ch, (b ∈ X.ex ∨ X.s₀.heap.objs.size ≤ b) ∧ b ≠ X.env.locals ∧ (∀ x c, X.env.cells.lookup x = some c → c ≠ b) ∧ ∀ p ∈ X.pn ++ pins, p.1 ≠ b)
  (keep : ∀ b o, b ≠ X.env.locals → b ∉ X.fs → b ∉ ch → s.heap.get? b = some o → H b = none → h'.get? b = some o)
  (slot : ∀ b o, b ≠ X.env.locals → b ∈ X.fs → b ∉ ch → s.heap.get? b = some o → H b = none → ∃ sl, h'.get? b = some { o with slots:=sl }) (free : ∀ b o, b ∉ ch → s.heap.get? b = some o → H b = none → H' b = none)
  (there : ∀ b o, b ∉ ch → s.heap.get? b = some o → ∃ o', h'.get? b = some o')
  (tups : ∀ b xs, H b = some (.tup xs) → H' b = some (.tup xs)) (frzs : ∀ b o u, H b = some (.frz o u) → H' b = some (.frz o u)) (tbls : ∀ b ps, H b = some (.tbl ps) → ∃ more, H' b = some (.tbl (ps ++ more)))
  (ns : ∀ m, s.heap.Ns X.env.locals m → h'.Ns X.env.locals m) (hok : HOk X.prog X.w H' h') (hg : AllBare g') :
  Inv X pins σ H' { s with heap:=h', gens:=g', drawn:=d', toks:=t' }:=by
 have neL : ∀ b o, X.s₀.heap.get? b = some o → b ≠ X.env.locals:=fun b o e=>Nat.ne_of_lt (Nat.lt_of_lt_of_le (Heap.lt_size e) I.ok.above)
 have neC : ∀ b o, X.s₀.heap.get? b = some o → b ∉ X.ex → b ∉ ch:=fun b o e hx hb=>by
  rcases (hch b hb).1 with z | z
  ·exact hx z
  ·exact absurd (Nat.lt_of_lt_of_le (Heap.lt_size e) z) (Nat.lt_irrefl _)
 have cellK : ∀ x c, X.env.cells.lookup x = some c → ∀ v, s.heap.IsCell c v → h'.IsCell c v:=fun x c e v ⟨o, ho, hd⟩=>by
  have nch : c ∉ ch:=fun z=>(hch c z).2.2.1 x c e rfl
  by_cases hc : c ∈ X.fs
  ·obtain ⟨sl, q⟩:=slot c o (I.cne x c e) hc nch ho (I.freeC x c e)
   exact ⟨_, q, hd⟩
  ·exact ⟨o, keep c o (I.cne x c e) hc nch ho (I.freeC x c e), hd⟩
 refine ⟨I.ok, I.os, hg, ⟨fun b o e n hb hx=>?_, fun b o e n hb hx=>?_, fun b o e n hx=>?_, fun b o e hx=>?_, fun b xs e=>tups b xs (I.base.tups b xs e), fun b o xs e=>frzs b o xs (I.base.frzs b o xs e), fun b ps e=>?_⟩, ?_, fun x c e=>?_, ?_, fun x c e=>?_, fun p hp=>?_, hok, I.len⟩
 ·exact keep b o (neL b o e) hb (neC b o e hx) (I.base.keep b o e n hb hx) (I.base.free b o e n hx)
 ·obtain ⟨sl, e1⟩:=I.base.slot b o e n hb hx
  obtain ⟨sl', e2⟩:=slot b _ (neL b o e) hb (neC b o e hx) e1 (I.base.free b o e n hx)
  exact ⟨sl', e2⟩
 ·obtain ⟨o', e1⟩:=I.base.there b o e hx
  exact free b o' (neC b o e hx) e1 (I.base.free b o e n hx)
 ·obtain ⟨o', e1⟩:=I.base.there b o e hx
  exact there b o' (neC b o e hx) e1
 ·obtain ⟨m1, e1⟩:=I.base.tbls b ps e
  obtain ⟨m2, e2⟩:=tbls b _ e1
  exact ⟨m1 ++ m2, by rw [e2, Array.append_assoc]⟩
 ·obtain ⟨m, hn, hl⟩:=I.loc
  refine ⟨m, ns m hn, fun i x v e1 e2 e3=>?_⟩
  obtain ⟨u, r, l⟩:=hl i x v e1 e2 e3
  refine ⟨u, r, ?_⟩
  rcases l with l | ⟨k, c, e, z⟩
  ·exact .inl l
  ·exact .inr ⟨k, c, e, cellK x c e _ z⟩
 ·obtain ⟨v, z⟩:=I.cell x c e
  exact ⟨v, cellK x c e v z⟩
 ·obtain ⟨m, ⟨o, _, _, ho, _⟩, _⟩:=I.loc
  exact free _ o (fun z=>(hch _ z).2.1 rfl) ho I.free
 ·obtain ⟨v, o, ho, hd⟩:=I.cell x c e
  exact free c o (fun z=>(hch c z).2.2.1 x c e rfl) ho (I.freeC x c e)
 ·obtain ⟨e, n, ne, nf, d⟩:=I.pin p hp
  have nch : p.1 ∉ ch:=fun z=>(hch p.1 z).2.2.2 p hp rfl
  exact ⟨keep p.1 p.2 ne nf nch e n, free p.1 p.2 nch e n, ne, nf, d⟩
theorem Inv.un {t' : Nat} (I : Inv X pins σ H s) (u : Un X.fs [] H H' s.heap h') (hok : HOk X.prog X.w H' h') : Inv X pins σ H' { s with heap:=h', toks:=t' }:=by
 obtain ⟨m, ⟨o, es, ep, ho, r⟩, _⟩:=id I.loc
 obtain ⟨sl, hL⟩:=u.any ho I.free (by simp)
 exact I.step (g':=s.gens) (d':=s.drawn) (ch:=[]) (fun _ z=>nomatch z) (fun b o _ hb _ e n=>u.keep b o e n hb (by simp)) (fun b o _ hb _ e n=>u.slot b o e n hb (by simp)) (fun b o _ e n=>u.free b o e n (by simp)) (fun b o _ e=>u.there b o e (by simp)) u.tups u.frzs u.tbls (fun m' hm=>by
  obtain ⟨o', es', ep', ho', r'⟩:=hm
  rw [ho] at ho'; cases ho'
  exact ⟨_, es', ep', hL, r'⟩) hok I.bare
theorem Inv.call {g' : Array GenState} {t' : Nat} {d' : Drawn} {ch : List Addr} (I : Inv X pins σ H s) (u : Un (frs X.stack) ch H H' s.heap h') (hok : HOk X.prog X.w H' h') (hg : AllBare g')
  (hch : ∀ b ∈ ch, (b ∈ X.ex ∨ X.s₀.heap.objs.size ≤ b) ∧ b ≠ X.env.locals ∧ (∀ x c, X.env.cells.lookup x = some c → c ≠ b) ∧ ∀ p ∈ X.pn ++ pins, p.1 ≠ b) :
  Inv X pins σ H' { s with heap:=h', gens:=g', drawn:=d', toks:=t' }:=by
 obtain ⟨m, ⟨o, es, ep, ho, r⟩, _⟩:=id I.loc
 obtain ⟨sl, hL⟩:=u.any ho I.free fun z=>(hch _ z).2.1 rfl
 exact I.step (ch:=ch) hch (fun b o hL hb hc e n=>u.keep b o e n (fun z=>(List.mem_cons.mp (I.stkSub b z)).elim hL hb) hc) (fun b o _ _ hc e n=>u.any e n hc) (fun b o hc e n=>u.free b o e n hc) (fun b o hc e=>u.there b o e hc) u.tups u.frzs u.tbls (fun m' hm=>by
  obtain ⟨o', es', ep', ho', r'⟩:=hm
  rw [ho] at ho'; cases ho'
  exact ⟨_, es', ep', hL, r'⟩) hok hg
theorem Inv.turned {t' : Nat} {it : Addr} (I : Inv X pins σ H s) (k : ∀ b o, b ≠ it → s.heap.get? b = some o → h'.get? b = some o) (hn : H it = none) (hL : it ≠ X.env.locals)
  (h1 : it ∈ X.ex ∨ X.s₀.heap.objs.size ≤ it) (h2 : ∀ x c, X.env.cells.lookup x = some c → c ≠ it) (h3 : ∀ p ∈ X.pn ++ pins, p.1 ≠ it) : Inv X pins σ H { s with heap:=h', toks:=t' }:=by
 have nit : ∀ b u, H b = some u → b ≠ it:=fun b u e z=>by rw [z, hn] at e; cases e
 refine I.step (g':=s.gens) (d':=s.drawn) (ch:=[it]) (fun b hb=>?_) (fun b o _ _ hc e _=>k b o (fun z=>hc (by simp [z])) e) (fun b o _ _ hc e _=>⟨o.slots, k b o (fun z=>hc (by simp [z])) e⟩) (fun _ _ _ _ n=>n)
  (fun b o hc e=>⟨o, k b o (fun z=>hc (by simp [z])) e⟩) (fun _ _ e=>e) (fun _ _ _ e=>e) (fun b ps e=>⟨#[], by rw [e]; simp⟩) (fun m hm=>?_) (fun b u e=>?_) I.bare
 ·have e : b = it:=by simpa using hb
  subst e
  exact ⟨h1, hL, h2, h3⟩
 ·obtain ⟨o, es, ep, ho, r⟩:=hm
  exact ⟨o, es, ep, k _ o (Ne.symm hL) ho, r⟩
 ·refine (I.hok b u e).stay (fun c v hc q=>k c v ?_ q) (fun _ q=>q) fun _ _ q=>q
  rcases hc with z | z
  ·rw [z]; exact nit b u e
  ·exact nit c _ z
theorem Inv.tok (I : Inv X pins σ H s) (t : Nat) : Inv X pins σ H { s with toks:=t }:=I.un (h':=s.heap) (t':=t) Un.refl I.hok
theorem Inv.kept {t' : Nat} (I : Inv X pins σ H s) (k : ∀ b u, s.heap.get? b = some u → h'.get? b = some u) : Inv X pins σ H { s with heap:=h', toks:=t' }:=I.un (Un.kept k) (I.hok.kept k)
theorem Inv.laid {a : Addr} {o : HO} {t' : Nat} (I : Inv X pins σ H s) (k : ∀ b u, s.heap.get? b = some u → h'.get? b = some u) (hp : s.heap.objs.size ≤ a) (new : zgq X.prog X.w (upd H a o) h' a o) :
  Inv X pins σ (upd H a o) { s with heap:=h', toks:=t' }:=I.un (Un.laid k hp (I.hok.fresh hp)) (I.hok.laid k hp new)
theorem Inv.write {x e : Addr} {o : HO} {t' : Nat} (I : Inv X pins σ H s) (mu : Mut (H x)) (he : e = x ∨ H e = some (.own x)) (k : ∀ b u, b ≠ e → s.heap.get? b = some u → h'.get? b = some u) (heo : ∃ u, h'.get? e = some u)
  (new : zgq X.prog X.w (upd H x o) h' x o) : Inv X pins σ (upd H x o) { s with heap:=h', toks:=t' }:=I.un (Un.write mu he k heo) (I.hok.write mu he k heo new)
theorem Inv.pins_of {pins' : List (Addr × Obj)} (I : Inv X pins σ H s) (h : ∀ p ∈ pins', s.heap.get? p.1 = some p.2 ∧ H p.1 = none ∧ p.1 ≠ X.env.locals ∧ p.1 ∉ X.fs ∧ ∀ v, p.2.data ≠ .cell v) : Inv X pins' σ H s :=
 ⟨I.ok, I.os, I.bare, I.base, I.loc, I.cell, I.free, I.freeC, fun p hp=>(List.mem_append.mp hp).elim (fun z=>I.pin p (List.mem_append_left _ z)) (h p), I.hok, I.len⟩
theorem zabv {N : List Str} (hN : N.Nodup) {i j : Nat} {x : Str} (a : N[i]? = some x) (b : N[j]? = some x) : i = j:=by
 obtain ⟨h1, e1⟩:=List.getElem?_eq_some_iff.mp a
 obtain ⟨h2, e2⟩:=List.getElem?_eq_some_iff.mp b
 exact (List.getElem_inj hN).mp (e1.trans e2.symm)
theorem zwt {M : Model} {A : Around} {E : Value → Shared → Prop} {i : Nat} {x : Str} {v : V} {u : Value} {Q : Unit → Shared → Prop} (I : Inv X pins σ H s) (hN : X.N.Nodup) (hi : X.N[i]? = some x) (hx : Loc X.env.scope x) (r : RelV v u)
  (h : ∀ s', Inv X pins (σ.set i (some v)) H s' → (∃ a, Heap.SameBut a s.heap s'.heap ∧ (a = X.env.locals ∨ X.env.cells.lookup x = some a)) → Q () s') (hf : X.fn x = true ∨ X.env.scope.names.lookup x = some .local:=by assumption) : wpAny M A (storeName X.env x u) Q E s:=by
 obtain ⟨m, hn, hl⟩:=id I.loc
 have hcls : (X.env.scope.kind == .class || (X.env.scope.kind == .module && X.env.locals != X.env.globals)) = false:=by rw [I.ok.kind]; rfl
 have hiσ : i < σ.length:=by rw [I.len]; exact (List.getElem?_eq_some_iff.mp hi).1
 have cne:=I.cne
 have tracked : ∀ {a : Addr} {h' : Heap}, (∃ o, s.heap.get? a = some o ∧ H a = none) → Heap.SameBut a s.heap h' → HOk X.prog X.w H h':=fun {a h'} ha hs b ob e=>by
  obtain ⟨_, _, hfree⟩:=ha
  refine (I.hok b ob e).stay (fun c w' hc q=>(hs.2 c ?_).trans q) (fun _ q=>q) fun _ _ q=>q
  rintro rfl
  rcases hc with rfl | hc
  ·rw [hfree] at e; cases e
  ·rw [hfree] at hc; cases hc
 rcases hx with hk | hk
 ·refine wpAny_storeName_local hk hn (fun h' hn' hs=>?_) hcls
  obtain ⟨oL, _, _, hoL, _⟩:=id hn
  refine h _ ⟨I.ok, I.os, I.bare, ⟨fun b o e n hb hx=>?_, fun b o e n hb hx=>?_, I.base.free, fun b o e hx=>?_, I.base.tups, I.base.frzs, I.base.tbls⟩, ⟨_, hn', fun j y v' e1 e2 e3=>?_⟩, fun y c e=>?_, I.free, I.freeC, fun p hp=>?_, tracked ⟨oL, hoL, I.free⟩ hs, by simpa using I.len⟩ ⟨_, hs, .inl rfl⟩
  ·exact (hs.2 b (Nat.ne_of_lt (Nat.lt_of_lt_of_le (Heap.lt_size e) I.ok.above))).trans (I.base.keep b o e n hb hx)
  ·obtain ⟨sl, e1⟩:=I.base.slot b o e n hb hx
   exact ⟨sl, (hs.2 b (Nat.ne_of_lt (Nat.lt_of_lt_of_le (Heap.lt_size e) I.ok.above))).trans e1⟩
  ·obtain ⟨o', e1⟩:=I.base.there b o e hx
   exact ⟨o', (hs.2 b (Nat.ne_of_lt (Nat.lt_of_lt_of_le (Heap.lt_size e) I.ok.above))).trans e1⟩
  ·by_cases hj : j = i
   ·subst hj
    rw [hi] at e1; cases e1
    rw [List.getElem?_set_self hiσ] at e2
    cases e2
    exact ⟨u, r, .inl ⟨hk, by simp⟩⟩
   ·rw [List.getElem?_set_ne (Ne.symm hj)] at e2
    obtain ⟨u', r', q⟩:=hl j y v' e1 e2 e3
    refine ⟨u', r', ?_⟩
    rcases q with ⟨k, e⟩ | ⟨k, c, e, z⟩
    ·refine .inl ⟨k, ?_⟩
     have : y ≠ x:=fun e=>hj (zabv hN e1 (e ▸ hi))
     simp [this, e]
    ·exact .inr ⟨k, c, e, z.sameBut hs (cne y c e)⟩
  ·obtain ⟨w', z⟩:=I.cell y c e
   exact ⟨w', z.sameBut hs (cne y c e)⟩
  ·obtain ⟨e, n, ne, nf, d⟩:=I.pin p hp
   exact ⟨(hs.2 p.1 ne).trans e, n, ne, nf, d⟩
 ·have hfn : X.fn x = true:=by
   rcases hf with z | z
   ·exact z
   ·rw [z] at hk; cases hk
  obtain ⟨c, hc⟩:=I.ok.has x (.inl hk)
  obtain ⟨w', z⟩:=I.cell x c hc
  refine wpAny_storeName_cell I.ok.kind hk hc z (fun h' hc' hs=>?_)
  obtain ⟨oc, hoc, hocd⟩:=id z
  refine h { s with heap:=h' } ⟨I.ok, I.os, I.bare, ⟨fun b o e n hb hx=>?_, fun b o e n hb hx=>?_, I.base.free, fun b o e hx=>?_, I.base.tups, I.base.frzs, I.base.tbls⟩, ⟨m, hn.sameBut hs (Ne.symm (cne x c hc)), fun j y v' e1 e2 e3=>?_⟩, fun y c' e=>?_, I.free, I.freeC, fun p hp=>?_, tracked ⟨oc, hoc, I.freeC x c hc⟩ hs, by simpa using I.len⟩ ⟨c, hs, .inr hc⟩
  ·exact (hs.2 b (Nat.ne_of_lt (Nat.lt_of_lt_of_le (Heap.lt_size e) (I.ok.cab x c hfn hc)))).trans (I.base.keep b o e n hb hx)
  ·obtain ⟨sl, e1⟩:=I.base.slot b o e n hb hx
   exact ⟨sl, (hs.2 b (Nat.ne_of_lt (Nat.lt_of_lt_of_le (Heap.lt_size e) (I.ok.cab x c hfn hc)))).trans e1⟩
  ·obtain ⟨o', e1⟩:=I.base.there b o e hx
   exact ⟨o', (hs.2 b (Nat.ne_of_lt (Nat.lt_of_lt_of_le (Heap.lt_size e) (I.ok.cab x c hfn hc)))).trans e1⟩
  ·by_cases hj : j = i
   ·subst hj
    rw [hi] at e1; cases e1
    rw [List.getElem?_set_self hiσ] at e2
    cases e2
    exact ⟨u, r, .inr ⟨.inl hk, c, hc, hc'⟩⟩
   ·rw [List.getElem?_set_ne (Ne.symm hj)] at e2
    obtain ⟨u', r', q⟩:=hl j y v' e1 e2 e3
    refine ⟨u', r', ?_⟩
    rcases q with q | ⟨k, c', e, z'⟩
    ·exact .inl q
    ·refine .inr ⟨k, c', e, z'.sameBut hs ?_⟩
     rintro rfl
     exact hj (zabv hN e1 (I.ok.inj _ _ _ e hc ▸ hi))
  ·by_cases hcc : c' = c
   ·subst hcc; exact ⟨_, hc'⟩
   ·obtain ⟨w2, z2⟩:=I.cell y c' e
    exact ⟨w2, z2.sameBut hs hcc⟩
  ·obtain ⟨e, n, ne, nf, d⟩:=I.pin p hp
   refine ⟨(hs.2 p.1 ?_).trans e, n, ne, nf, d⟩
   intro q
   rw [q, hoc] at e
   have q' : oc = p.2:=Option.some.inj e
   exact d w' (by rw [← q']; exact hocd)
theorem zabw {M : Model} {A : Around} {E : Value → Shared → Prop} {i : Nat} {x : Str} {v : V} {u : Value} {Q : Unit → Shared → Prop} (I : Inv X pins σ H s) (hN : X.N.Nodup) (hi : X.N[i]? = some x) (hx : Loc X.env.scope x) (r : RelV v u)
  (h : ∀ s', Inv X pins (σ.set i (some v)) H s' → Q () s') (hf : X.fn x = true ∨ X.env.scope.names.lookup x = some .local:=by assumption) : wpAny M A (storeName X.env x u) Q E s :=
 zwt I hN hi hx r (fun s' I' _=>h s' I') hf
end
noncomputable abbrev XK:=Value → Option Addr → Hp → Prop
noncomputable abbrev St:=List (Option V)
noncomputable abbrev VK:=V → Hp → Prop
noncomputable abbrev TE:=St → Hp → VK → Prop
noncomputable abbrev TT:=St → Hp → (Bool → Hp → Prop) → Prop
noncomputable abbrev TA:=St → Hp → (List V → Hp → Prop) → Prop
set_option genInjectivity false in
structure Ends where
 nx : St → Hp → Prop
 rt : VK
 bk : St → Hp → Prop:=fun _ _=>False
 ct : St → Hp → Prop:=fun _ _=>False
noncomputable abbrev TS:=Ends → St → Hp → Prop
noncomputable def EP (X : Cx) (pins : List (Addr × Obj)) (σ : St) (Q : VK) (u : Value) (s' : Shared) : Prop:=∃ v H', Inv X pins σ H' s' ∧ RelV v u ∧ Q v H'
noncomputable def TP (X : Cx) (pins : List (Addr × Obj)) (σ : St) (Q : Bool → Hp → Prop) (b : Bool) (s' : Shared) : Prop:=∃ H', Inv X pins σ H' s' ∧ Q b H'
noncomputable def AP (X : Cx) (pins : List (Addr × Obj)) (σ : St) (Q : List V → Hp → Prop) (us : List Value) (s' : Shared) : Prop:=∃ vs H', Inv X pins σ H' s' ∧ Vals vs us ∧ Q vs H'
noncomputable def SP (X : Cx) (pins : List (Addr × Obj)) (D : Ends) (f : Flow) (s' : Shared) : Prop :=
 match f with
 | .next=>∃ σ' H', Inv X pins σ' H' s' ∧ D.nx σ' H'
 | .brk=>∃ σ' H', Inv X pins σ' H' s' ∧ D.bk σ' H'
 | .cont=>∃ σ' H', Inv X pins σ' H' s' ∧ D.ct σ' H'
 | .ret u=>∃ v σ' H', Inv X pins σ' H' s' ∧ RelV v u ∧ D.rt v H'
noncomputable def PE (X : Cx) (e : Expr) (t : TE) : Prop :=
 ∀ (pins : List (Addr × Obj)) (s : Shared) (σ : St) (H : Hp) (Q : VK), Inv X pins σ H s → t σ H Q → wpAny (model X.prog X.w) X.A (eval e X.env) (EP X pins σ Q) X.xe s
noncomputable def PT (X : Cx) (e : Expr) (t : TT) : Prop :=
 ∀ (pins : List (Addr × Obj)) (s : Shared) (σ : St) (H : Hp) (Q : Bool → Hp → Prop), Inv X pins σ H s → t σ H Q → wpAny (model X.prog X.w) X.A (isTrue e X.env (eval e X.env)) (TP X pins σ Q) X.xe s
noncomputable def PW (X : Cx) (e : Expr) (t : TT) : Prop :=
 ∀ (whole : Sem Value) (pins : List (Addr × Obj)) (s : Shared) (σ : St) (H : Hp) (Q : Bool → Hp → Prop), Inv X pins σ H s → t σ H Q → wpAny (model X.prog X.w) X.A (isTrue e X.env whole) (TP X pins σ Q) X.xe s
theorem PW.pt {X : Cx} {e : Expr} {t : TT} (h : PW X e t) : PT X e t:=h _
noncomputable def PA (X : Cx) (es : List Expr) (t : TA) : Prop :=
 ∀ (pos : Pos) (pins : List (Addr × Obj)) (s : Shared) (σ : St) (H : Hp) (Q : List V → Hp → Prop), Inv X pins σ H s → t σ H Q → wpAny (model X.prog X.w) X.A (spliced (backTo pos (starEach es X.env))) (AP X pins σ Q) X.xe s
noncomputable def PS (X : Cx) (st : Stmt) (t : TS) : Prop :=
 ∀ (pins : List (Addr × Obj)) (s : Shared) (σ : St) (H : Hp) (D : Ends), Inv X pins σ H s → t D σ H → wpAny (model X.prog X.w) X.A (exec st X.env) (SP X pins D) X.xe s
noncomputable def PSs (X : Cx) (st : List Stmt) (t : TS) : Prop :=
 ∀ (pins : List (Addr × Obj)) (s : Shared) (σ : St) (H : Hp) (D : Ends), Inv X pins σ H s → t D σ H → wpAny (model X.prog X.w) X.A (execs st X.env) (SP X pins D) X.xe s
theorem thn {α : Type} {t : Sem α} {Q Q' : α → Shared → Prop} {M : Model} {A : Around} {E : Value → Shared → Prop} {s : Shared} (h : wpAny M A t Q E s) (hQ : ∀ a s, Q a s → Q' a s) : wpAny M A t Q' E s:=wpAny_mono h hQ fun _ _ x=>x
end L2
namespace L2
open PySem PySem.Spec PyProof.Rows
section
variable {X : Cx}
noncomputable def tVar (i : Nat) : TE:=fun σ H Q=>∃ v, σ[i]? = some (some v) ∧ Q v H
noncomputable def tC (v : V) : TE:=fun _ H Q=>Q v H
theorem zalq {i : Nat} {x : Str} {pos : Pos} (hN : X.N[i]? = some x) (hv : Vis X.env.scope x) (hd : (x == ("__debug__" : Str)) = false:=by decide) (hcd : (x == ("__classdict__" : Str)) = false:=by decide) : PE X (.Name x pos) (tVar i):=by
 intro pins s σ H Q I h
 obtain ⟨v, e, h⟩:=h
 obtain ⟨m, hn, hl⟩:=I.loc
 obtain ⟨u, r, l⟩:=hl i x v hN e hv
 have fin : EP X pins σ Q u s:=⟨v, H, I, r, h⟩
 rcases l with ⟨hk, hm⟩ | ⟨hk, c, hc, hcell⟩
 ·exact wpAny_Name (wpAny_loadName_local I.ok.kind hk hn hm fin) hd
 ·rcases hk with hk | hk
  ·exact wpAny_Name (wpAny_loadName_cell I.ok.kind hk hc hcell fin) hd
  ·exact wpAny_Name (wpAny_loadName_free I.ok.kind hk hc hcell fin hcd) hd
theorem zjd {i j pos} : PE X (.Constant (.int i) j pos) (tC (.int i)):=fun _ _ _ H _ I h=>wpAny_Constant_int ⟨.int i, H, I.tok _, ⟨_, rfl⟩, h⟩
theorem zara {b j pos} : PE X (.Constant (.bool b) j pos) (tC (.bl b)):=fun _ _ _ H _ I h=>Constant_bool ⟨.bl b, H, I, rfl, h⟩
theorem zaoz {x j pos} : PE X (.Constant (.str x) j pos) (tC (.str x)):=fun _ _ _ H _ I h=>Calls.Constant_str ⟨.str x, H, I.tok _, ⟨_, rfl⟩, h⟩
noncomputable def Gl (X : Cx) (x : Str) : Prop:=X.env.kindOf x = some .globalImplicit
theorem zamn {E : Value → Shared → Prop} {pins : List (Addr × Obj)} {s : Shared} {σ : St} {H : Hp} {x : Str} {u : Value} {pos : Pos} {Q : Value → Shared → Prop} (I : Inv X pins σ H s) (hg : Gl X x) (hm : X.mg x = some u) (h : Q u s)
  (hd : (x == ("__debug__" : Str)) = false:=by decide) : wpAny (model X.prog X.w) X.A (eval (.Name x pos) X.env) Q E s :=
 Calls.Name_function_global I.ok.kind hg (Calls.loadGlobal_global (by rw [I.ok.glob]; exact I.mod.glob.keeps I.bk) hm h) hd
theorem ztx {E : Value → Shared → Prop} {pins : List (Addr × Obj)} {s : Shared} {σ : St} {H : Hp} {x : Str} {u : Value} {pos : Pos} {Q : Value → Shared → Prop} (I : Inv X pins σ H s) (hg : Gl X x) (hm : X.mg x = none) (hv : bootBuiltins x = some u) (h : Q u s)
  (hn : x ≠ "__name__":=by decide) (hd : (x == ("__debug__" : Str)) = false:=by decide) : wpAny (model X.prog X.w) X.A (eval (.Name x pos) X.env) Q E s:=by
 obtain ⟨mb, h1, h2⟩:=I.mod.blt
 exact Calls.Name_function_global I.ok.kind hg (Calls.loadGlobal_builtin (by rw [I.ok.glob]; exact I.mod.glob.keeps I.bk) hm (by rw [I.ok.blt]; exact h1.keeps I.bk) ((h2 x hn).trans hv) h) hd
theorem zamo {x : Str} {v : V} {u : Value} {pos : Pos} (hg : Gl X x) (hm : X.mg x = none) (hv : bootBuiltins x = some u) (r : RelV v u) (hn : x ≠ "__name__":=by decide) (hd : (x == ("__debug__" : Str)) = false:=by decide) : PE X (.Name x pos) (tC v) :=
 fun _ _ _ H _ I h=>ztx I hg hm hv ⟨v, H, I, r, h⟩ hn hd
variable {a b : Expr} {ta tb : TE} {pos : Pos}
noncomputable def PC (X : Cx) (op : CmpOp) (a b : Expr) (t : TE) : Prop :=
 ∀ (pins : List (Addr × Obj)) (s : Shared) (σ : St) (H : Hp) (Q : VK), Inv X pins σ H s → t σ H Q →
  wpAny (model X.prog X.w) X.A (eval a X.env) (fun v s₁=>wpAny (model X.prog X.w) X.A (eval b X.env) (fun u s₂=>wpAny (model X.prog X.w) X.A (compareOp op v u) (EP X pins σ Q) X.xe s₂) X.xe s₁) X.xe s
noncomputable def tB (t : TE) : TT:=fun σ H Q=>t σ H fun x H1=>∃ c, x = .bl c ∧ Q c H1
theorem zapa {op : CmpOp} {t : TE} (h : PC X op a b t) (h1 : behindInMarks op b = false:=by rfl) : PE X (.Compare a [op] [b] pos) t:=fun pins s σ H Q I hw=>wpAny_Compare1 (h pins s σ H Q I hw) h1
variable {tA tB' : TT} {rest : List Expr}
noncomputable def tAnd (t u : TT) : TT:=fun σ H Q=>t σ H fun c H1=>if c = true then u σ H1 Q else Q false H1
noncomputable def tOr (t u : TT) : TT:=fun σ H Q=>t σ H fun c H1=>if c = true then Q true H1 else u σ H1 Q
noncomputable def tNot (t : TT) : TT:=fun σ H Q=>t σ H fun c H1=>Q (!c) H1
theorem zamp (ha : PT X a tA) : PW X (.BoolOp .And [a] pos) tA:=by
 intro wh pins s σ H Q I h
 refine isTrue_and (thn (ha pins s σ H Q I h) fun c s1 e=>?_)
 cases c with
 | true=>exact isTrue_and_nil e
 | false=>exact e
theorem zapb (ha : PT X a tA) : PW X (.BoolOp .Or [a] pos) tA:=by
 intro wh pins s σ H Q I h
 refine isTrue_or (thn (ha pins s σ H Q I h) fun c s1 e=>?_)
 cases c with
 | false=>exact isTrue_or_nil e
 | true=>exact e
theorem zapc (ha : PT X a tA) (hb : PW X (.BoolOp .And (b :: rest) pos) tB') : PW X (.BoolOp .And (a :: b :: rest) pos) (tAnd tA tB'):=by
 intro wh pins s σ H Q I h
 refine isTrue_and (thn (ha pins s σ H _ I h) fun c s1 ⟨H1, I1, q1⟩=>?_)
 cases c with
 | true=>exact hb wh pins s1 σ H1 Q I1 q1
 | false=>exact ⟨H1, I1, q1⟩
theorem zarb (ha : PT X a tA) (hb : PW X (.BoolOp .Or (b :: rest) pos) tB') : PW X (.BoolOp .Or (a :: b :: rest) pos) (tOr tA tB'):=by
 intro wh pins s σ H Q I h
 refine isTrue_or (thn (ha pins s σ H _ I h) fun c s1 ⟨H1, I1, q1⟩=>?_)
 cases c with
 | true=>exact ⟨H1, I1, q1⟩
 | false=>exact hb wh pins s1 σ H1 Q I1 q1
theorem zapd (ha : PT X a tA) : PT X (.UnaryOp .Not a pos) (tNot tA):=by
 intro pins s σ H Q I h
 exact isTrue_not (ha pins s σ H (fun c H1=>Q (!c) H1) I h)
noncomputable def tAndV (ta tb : TE) : TE:=fun σ H Q=>ta σ H fun x H1=>∃ c, x = .bl c ∧ if c = true then tb σ H1 Q else Q (.bl false) H1
theorem zape {op} {t : TE} (h : PE X a t) : PE X (.BoolOp op [a] pos) t:=fun pins s σ H Q I hw=>BoolOp_one (h pins s σ H Q I hw)
theorem zapf (ha : PE X a ta) (hb : PE X (.BoolOp .And (b :: rest) pos) tb) : PE X (.BoolOp .And (a :: b :: rest) pos) (tAndV ta tb):=by
 intro pins s σ H Q I h
 refine BoolOp_and (thn (ha pins s σ H _ I h) fun v s1 ⟨x, H1, I1, r1, q1⟩=>?_)
 obtain ⟨c, rfl, q1⟩:=q1
 cases r1
 refine wpAny_truthy_bool ?_
 cases c with
 | true=>exact hb pins s1 σ H1 Q I1 q1
 | false=>exact ⟨.bl false, H1, I1, rfl, q1⟩
end
end L2
namespace L2
open PySem PySem.Spec PyProof.Rows
noncomputable def SqL (K : PySem.W.Frag) (H : Hp) (a : Addr) (xs : List V) : Prop :=
 Rd H a (.lst xs) ∨
  ∃ (o : Obj) (its : Array Value) (n : Nat), K.lookup a = some o ∧ o.cls = .type "list" ∧ o.dict = none ∧ o.data = .seq its n ∧ its.size ≤ sizeLine ∧ Vals xs its.toList
noncomputable def SqT (K : PySem.W.Frag) (H : Hp) (a : Addr) (xs : List V) : Prop :=
 Rd H a (.tup xs) ∨
  ∃ (o : Obj) (its : Array Value) (n : Nat), K.lookup a = some o ∧ o.cls = .type "tuple" ∧ o.data = .seq its n ∧ its.size ≤ sizeLine ∧ Vals xs its.toList
noncomputable def absV : Value → Option V
 | .none=>some .non
 | .bool b=>some (.bl b)
 | .int i _=>some (.int i)
 | .str x _=>some (.str x)
 | .bytes b _=>some (.byt b)
 | .float b _=>some (.flt b)
 | .ref a=>some (.ref a)
 | .type n=>some (.ty n)
 | _=>none
theorem RelV.abs {x : V} {u : Value} (r : RelV x u) : absV u = some x:=by
 cases x with
 | non=>cases r; rfl
 | bl _=>cases r; rfl
 | int _=>obtain ⟨t, rfl⟩:=r; rfl
 | str _=>obtain ⟨t, rfl⟩:=r; rfl
 | byt _=>obtain ⟨t, rfl⟩:=r; rfl
 | flt _=>obtain ⟨t, rfl⟩:=r; rfl
 | ref _=>cases r; rfl
 | ty _=>cases r; rfl
theorem RelV.inj {x y : V} {u : Value} (r : RelV x u) (q : RelV y u) : x = y:=Option.some.inj (r.abs.symm.trans q.abs)
theorem Vals.inj : ∀ {xs ys : List V} {us : List Value}, Vals xs us → Vals ys us → xs = ys
 | _, _, _, .nil, .nil=>rfl
 | _, _, _, .cons r t, .cons r' t'=>by rw [r.inj r', Vals.inj t t']
section
variable {X : Cx} {pins : List (Addr × Obj)} {σ : St} {H : Hp} {s : Shared} {a : Addr} {xs ys : List V}
theorem SqL.of {K : PySem.W.Frag} (h : H a = some (.lst xs)) : SqL K H a xs:=.inl (.inl h)
theorem SqT.of {K : PySem.W.Frag} (h : H a = some (.tup xs)) : SqT K H a xs:=.inl (.inl h)
theorem Inv.list (I : Inv X pins σ H s) (h : SqL X.K H a xs) : ∃ its : List Value, Vals xs its ∧ PlainL s.heap a its.toArray ∧ xs.length ≤ sizeLine:=by
 rcases h with h | ⟨o, its, n, hk, hc, hd, hs, hz, r⟩
 ·obtain ⟨z, its, n, r, e⟩:=h.ok I.hok
  exact ⟨its, r, ⟨_, n, e, rfl, rfl, rfl⟩, z⟩
 ·refine ⟨its.toList, r, ⟨o, n, I.kIn a o hk, hc, hd, by simpa using hs⟩, ?_⟩
  have e:=r.length
  simp only [Array.length_toList] at e
  omega
theorem Inv.tuple (I : Inv X pins σ H s) (h : SqT X.K H a xs) : ∃ its : List Value, Vals xs its ∧ IsTup s.heap a its.toArray ∧ xs.length ≤ sizeLine:=by
 rcases h with h | ⟨o, its, n, hk, hc, hs, hz, r⟩
 ·obtain ⟨z, its, r, p⟩:=h.ok I.hok
  exact ⟨its, r, p, z⟩
 ·refine ⟨its.toList, r, ⟨o, I.kIn a o hk, hc, n, by simpa using hs⟩, ?_⟩
  have e:=r.length
  simp only [Array.length_toList] at e
  omega
theorem Inv.list_inj (I : Inv X pins σ H s) (h : SqL X.K H a xs) (h' : SqL X.K H a ys) : xs = ys:=by
 obtain ⟨its, r, ⟨o, n, e, _, _, d⟩, _⟩:=I.list h
 obtain ⟨its', r', ⟨o', n', e', _, _, d'⟩, _⟩:=I.list h'
 rw [e] at e'; cases e'
 rw [d] at d'
 injection d' with d1 _
 have : its = its':=by simpa using congrArg Array.toList d1
 subst this
 exact r.inj r'
theorem Inv.tuple_inj (I : Inv X pins σ H s) (h : SqT X.K H a xs) (h' : SqT X.K H a ys) : xs = ys:=by
 obtain ⟨its, r, ⟨o, e, _, n, d⟩, _⟩:=I.tuple h
 obtain ⟨its', r', ⟨o', e', _, n', d'⟩, _⟩:=I.tuple h'
 rw [e] at e'; cases e'
 rw [d] at d'
 injection d' with d1 _
 have : its = its':=by simpa using congrArg Array.toList d1
 subst this
 exact r.inj r'
end
noncomputable abbrev Cx.wish (X : Cx) (E : Value → Shared → Prop) : Cx:={ X with xe:=E }
noncomputable abbrev Cx.nox (X : Cx) : Cx:=X.wish fun _ _=>False
theorem Cx.Ok.wish {X : Cx} (ok : X.Ok) (E : Value → Shared → Prop) : (X.wish E).Ok :=
 ⟨ok.mod, ok.kind, ok.glob, ok.blt, ok.above, ok.inj, ok.has, ok.cab, ok.hd, ok.frames, ok.stk, ok.exf, ok.bs, ok.bsz, ok.noex, ok.exfs, ok.funs, ok.frf⟩
theorem Cx.Ok.unwish {X : Cx} {E : Value → Shared → Prop} (ok : (X.wish E).Ok) : X.Ok :=
 ⟨ok.mod, ok.kind, ok.glob, ok.blt, ok.above, ok.inj, ok.has, ok.cab, ok.hd, ok.frames, ok.stk, ok.exf, ok.bs, ok.bsz, ok.noex, ok.exfs, ok.funs, ok.frf⟩
section
variable {X : Cx} {pins : List (Addr × Obj)} {σ : St} {H : Hp} {s : Shared} {E : Value → Shared → Prop}
theorem Inv.wish (I : Inv X pins σ H s) (E : Value → Shared → Prop) : Inv (X.wish E) pins σ H s:=⟨I.ok.wish E, I.os, I.bare, I.base, I.loc, I.cell, I.free, I.freeC, I.pin, I.hok, I.len⟩
theorem Inv.unwish (I : Inv (X.wish E) pins σ H s) : Inv X pins σ H s:=⟨I.ok.unwish, I.os, I.bare, I.base, I.loc, I.cell, I.free, I.freeC, I.pin, I.hok, I.len⟩
theorem SP.unwish {D : Ends} {f : Flow} {s' : Shared} (h : SP (X.wish E) pins D f s') : SP X pins D f s':=by
 cases f with
 | next=>obtain ⟨σ', H', I, q⟩:=h; exact ⟨σ', H', I.unwish, q⟩
 | brk=>obtain ⟨σ', H', I, q⟩:=h; exact ⟨σ', H', I.unwish, q⟩
 | cont=>obtain ⟨σ', H', I, q⟩:=h; exact ⟨σ', H', I.unwish, q⟩
 | ret u=>obtain ⟨v, σ', H', I, r, q⟩:=h; exact ⟨v, σ', H', I.unwish, r, q⟩
theorem PSs.nox {st : List Stmt} {t : TS} (h : PSs X.nox st t) : PSs X st t:=fun pins s σ H D I hw =>
 wpAny_mono (h pins s σ H D (I.wish _) hw) (fun _ _ q=>q.unwish) fun _ _ z=>False.elim z
end
section
variable {X : Cx} {st : Stmt} {rest : List Stmt} {t u : TS} {e : Expr} {te : TE} {pos : Pos}
noncomputable def tNext : TS:=fun D σ H=>D.nx σ H
noncomputable def tSeq (t u : TS) : TS:=fun D σ H=>t { D with nx:=u D } σ H
theorem zamq : PSs X [] tNext:=fun _ _ σ H _ I h=>wpAny_execs_nil ⟨σ, H, I, h⟩
theorem zne (h1 : PS X st t) (h2 : PSs X rest u) : PSs X (st :: rest) (tSeq t u):=by
 intro pins s σ H D I h
 refine wpAny_execs_cons (thn (h1 pins s σ H { D with nx:=u D } I h) fun f s1 q=>?_)
 cases f with
 | next =>
  obtain ⟨σ', H', I', q⟩:=q
  exact h2 pins s1 σ' H' D I' q
 | ret v=>exact q
 | brk=>exact q
 | cont=>exact q
theorem zon (h1 : PS X st t) : PSs X [st] t:=by
 intro pins s σ H D I h
 refine wpAny_execs_cons (thn (h1 pins s σ H D I h) fun f s1 q=>?_)
 cases f with
 | next=>exact wpAny_execs_nil q
 | ret v=>exact q
 | brk=>exact q
 | cont=>exact q
theorem Inv.quiet {pins : List (Addr × Obj)} {σ : St} {H : Hp} {s : Shared} (I : Inv X pins σ H s) : interactive X.env = false:=by simp [interactive, I.ok.kind]
noncomputable def tDrop (te : TE) : TS:=fun D σ H=>te σ H fun _ H1=>D.nx σ H1
theorem zaad (he : PE X e te) (hs : swapsWith e none pos.line X.env = pure false:=by rfl) : PS X (.Expr e pos) (tDrop te):=by
 intro pins s σ H D I h
 exact wpAny_Expr_any (thn (he pins s σ H _ I h) fun v s1 ⟨x, H1, I1, r1, q1⟩=>⟨σ, H1, I1, q1⟩) I.quiet hs
noncomputable def tRet (te : TE) : TS:=fun D σ H=>te σ H D.rt
theorem zalr (he : PE X e te) : PS X (.Return (some e) pos) (tRet te):=by
 intro pins s σ H D I h
 exact wpAny_Return_some (thn (he pins s σ H _ I h) fun v s1 ⟨x, H1, I1, r1, q1⟩=>⟨x, σ, H1, I1, r1, q1⟩)
noncomputable def tIfS (c : TT) (t u : TS) : TS:=fun D σ H=>c σ H fun b H1=>if b = true then t D σ H1 else u D σ H1
theorem zapg {c : Expr} {a b : List Stmt} {tc : TT} (hc : PT X c tc) (ha : PSs X a t) (hb : PSs X b u) : PS X (.If c a b pos) (tIfS tc t u):=by
 intro pins s σ H D I h
 refine wpAny_If (thn (hc pins s σ H _ I h) fun d s1 ⟨H1, I1, q1⟩=>?_)
 cases d with
 | true=>exact ha pins s1 σ H1 D I1 q1
 | false=>exact hb pins s1 σ H1 D I1 q1
noncomputable def tNever : TS:=fun _ _ _=>False
theorem zajg : PS X st tNever:=fun _ _ _ _ _ _ h=>h.elim
end
noncomputable abbrev TG:=V → St → Hp → (St → Hp → Prop) → Prop
noncomputable abbrev TGs:=List V → St → Hp → (St → Hp → Prop) → Prop
noncomputable def PG (X : Cx) (target : Expr) (t : TG) : Prop :=
 ∀ (pins : List (Addr × Obj)) (s : Shared) (σ : St) (H : Hp) (v : V) (u : Value) (Q : St → Hp → Prop), Inv X pins σ H s → RelV v u → t v σ H Q →
  wpAny (model X.prog X.w) X.A (assign target X.env u) (fun _ s'=>∃ σ' H', Inv X pins σ' H' s' ∧ Q σ' H') X.xe s
noncomputable def PGs (X : Cx) (ts : List Expr) (t : TGs) : Prop :=
 ∀ (pins : List (Addr × Obj)) (s : Shared) (σ : St) (H : Hp) (vs : List V) (us : List Value) (Q : St → Hp → Prop), Inv X pins σ H s → Vals vs us → t vs σ H Q →
  wpAny (model X.prog X.w) X.A (assignInOrder ((assignEach ts X.env).map (·.2)) us) (fun _ s'=>∃ σ' H', Inv X pins σ' H' s' ∧ Q σ' H') X.xe s
section
variable {X : Cx} {pos : Pos}
noncomputable def gName (i : Nat) : TG:=fun v σ H Q=>Q (σ.set i (some v)) H
theorem zaae {i : Nat} {x : Str} (hN : X.N.Nodup) (hi : X.N[i]? = some x) (hx : Loc X.env.scope x) (hf : X.fn x = true ∨ X.env.scope.names.lookup x = some .local:=by assumption) : PG X (.Name x pos) (gName i):=by
 intro pins s σ H v u Q I r h
 exact wpAny_assign_Name (zabw I hN hi hx r (fun s' I'=>⟨_, H, I', h⟩) hf)
noncomputable def gNil : TGs:=fun vs σ H Q=>vs = [] ∧ Q σ H
noncomputable def gCons (t : TG) (u : TGs) : TGs:=fun vs σ H Q=>∃ v r, vs = v :: r ∧ t v σ H fun σ' H'=>u r σ' H' Q
theorem zamr : PGs X [] gNil:=by
 intro pins s σ H vs us Q I r h
 obtain ⟨e, h⟩:=h
 subst e
 cases r
 exact assignInOrder_nil ⟨σ, H, I, h⟩
theorem zajh {e : Expr} {es : List Expr} {t : TG} {u : TGs} (h1 : PG X e t) (h2 : PGs X es u)
  (hs : (assignEach (e :: es) X.env).map (·.2) = assign e X.env :: (assignEach es X.env).map (·.2):=by rfl) : PGs X (e :: es) (gCons t u):=by
 intro pins s σ H vs us Q I r h
 obtain ⟨v, vr, e1, h⟩:=h
 subst e1
 cases r with
 | cons r rr =>
  rw [hs]
  refine assignInOrder_cons (thn (h1 pins s σ H _ _ _ I r h) fun _ s1 ⟨σ1, H1, I1, q1⟩=>?_)
  exact h2 pins s1 σ1 H1 _ _ Q I1 rr q1
noncomputable def gTup (K : PySem.W.Frag) (n : Nat) (t : TGs) : TG:=fun v σ H Q=>∃ a xs, v = .ref a ∧ SqT K H a xs ∧ xs.length = n ∧ t xs σ H Q
theorem zaph {es : List Expr} {k : Nat} {t : TGs} {n : Nat} (hc : X.calm = true) (h : PGs X es t)
  (hn : (assignEach es X.env).length = n:=by rfl) (hst : (assignEach es X.env).findIdx? (·.1) = none:=by rfl) : PG X (.Tuple es k pos) (gTup X.K n t):=by
 intro pins s σ H v u Q I r hw
 obtain ⟨a, xs, e1, hq, hl, hw⟩:=hw
 subst e1
 cases r
 obtain ⟨its, rv, ht, hz⟩:=I.tuple hq
 refine assign_Tuple_tuple (I.ok.hd hc) ht (by simp [hn, ← hl, rv.length]) hst fun h' hx=>?_
 have I1 : Inv X pins σ H { s with heap:=h' }:=I.kept (t':=s.toks) fun b o e=>hx b o (Nat.ne_of_lt (Heap.lt_size e)) e
 exact h pins _ σ H xs _ Q I1 (by simpa using rv) hw
noncomputable def tAsg (te : TE) (g : TG) : TS:=fun D σ H=>te σ H fun x H1=>g x σ H1 D.nx
theorem zapi {tg e : Expr} {te : TE} {g : TG} (he : PE X e te) (hg : PG X tg g) (hs : swapsWithSole [tg] e pos.line X.env = pure false:=by rfl) (hw : swappedStores [tg] e X.env = pure none:=by rfl)
  (h1 : (assignEach [tg] X.env).map (·.2) = [assign tg X.env]:=by rfl) : PS X (.Assign [tg] e pos) (tAsg te g):=by
 intro pins s σ H D I h
 refine wpAny_Assign_stores (thn (he pins s σ H _ I h) fun v s1 ⟨x, H1, I1, r1, q1⟩=>?_) hs hw
 rw [h1]
 exact thn (hg pins s1 σ H1 x v _ I1 r1 q1) fun _ s2 q=>q
theorem zabx {i : Nat} {x : Str} {e : Expr} {te : TE} {pos' : Pos} (hN : X.N.Nodup) (hi : X.N[i]? = some x) (hx : Loc X.env.scope x) (he : PE X e te) (hs : swapsWith e (some (.Name x pos')) pos.line X.env = pure false:=by rfl) (hf : X.fn x = true ∨ X.env.scope.names.lookup x = some .local:=by assumption) :
  PS X (.Assign [.Name x pos'] e pos) (tAsg te (gName i)):=by
 intro pins s σ H D I h
 refine wpAny_Assign_Name (thn (he pins s σ H _ I h) fun v s1 ⟨y, H1, I1, r1, q1⟩=>?_) hs
 exact zabw I1 hN hi hx r1 (fun s2 I2=>⟨_, H1, I2, q1⟩) hf
end
section
variable {X : Cx} {pos : Pos}
noncomputable def tWhile (c : TT) (tb : TS) : TS:=fun D σ H=>∃ W : Nat → St → Hp → Prop, (∃ m, W m σ H) ∧ ∀ m σ H, W m σ H →
 c σ H fun b H1=>if b = true then ∃ N : St → Hp → Prop, (∀ σ' H', N σ' H' → ∃ m', m' < m ∧ W m' σ' H') ∧ tb { D with nx:=N, ct:=N, bk:=D.nx } σ H1 else D.nx σ H1
theorem zaji {c : Expr} {body : List Stmt} {tc : TT} {tb : TS} (hp : PassesOwn (model X.prog X.w) X.A X.env X.xe) (hc : PT X c tc) (hb : PSs X body tb) : PS X (.While c body [] pos) (tWhile tc tb):=by
 intro pins s σ H D I h
 obtain ⟨W, ⟨m0, w0⟩, turn⟩:=h
 refine wpAny_While (codeAny_whileLoop (fun n s'=>∃ σ' H', Inv X pins σ' H' s' ∧ W n σ' H') ?_ m0 ⟨σ, H, I, w0⟩)
 rintro n s1 ⟨σ1, H1, I1, w1⟩
 refine wpAny_passesOwn hp (thn (hc pins s1 σ1 H1 _ I1 (turn n σ1 H1 w1)) fun b s2 ⟨H2, I2, q2⟩=>?_)
 cases b with
 | true =>
  obtain ⟨N, hN, q2⟩:=q2
  rw [if_pos rfl]
  refine wpAny_passesOwn hp (thn (hb pins s2 σ1 H2 _ I2 q2) fun f s3 q3=>?_)
  cases f with
  | next =>
   obtain ⟨σ3, H3, I3, n3⟩:=q3
   obtain ⟨m', hm, w3⟩:=hN σ3 H3 n3
   exact ⟨m', hm, σ3, H3, I3, w3⟩
  | cont =>
   obtain ⟨σ3, H3, I3, n3⟩:=q3
   obtain ⟨m', hm, w3⟩:=hN σ3 H3 n3
   exact ⟨m', hm, σ3, H3, I3, w3⟩
  | brk=>exact q3
  | ret v=>exact q3
 | false =>
  rw [if_neg Bool.false_ne_true]
  exact wpAny_execs_nil ⟨σ1, H2, I2, q2⟩
end
set_option genInjectivity false in
structure It where
 go : Nat → Hp → Prop
 yld : Nat → Hp → V → Hp → Prop
 stop : Nat → Hp → Prop
noncomputable def FpOk (X : Cx) (pins : List (Addr × Obj)) (H : Hp) (b : Addr) : Prop :=
 H b = none ∧ b ≠ X.env.locals ∧ b ∉ X.fs ∧ (b ∈ X.ex ∨ X.s₀.heap.objs.size ≤ b) ∧ (∀ x c, X.env.cells.lookup x = some c → c ≠ b) ∧ ∀ p ∈ X.pn ++ pins, p.1 ≠ b
theorem Inv.fpOk {X : Cx} {pins : List (Addr × Obj)} {σ : St} {H H' : Hp} {s : Shared} {b : Addr} (I : Inv X pins σ H s) (hb : s.heap.objs.size ≤ b) (hn : H' b = none) : FpOk X pins H' b:=by
 refine ⟨hn, Nat.ne_of_gt (Nat.lt_of_lt_of_le I.lt hb), I.nofs hb, .inr (Nat.le_trans I.sz hb), fun x c e z=>?_, fun p hp z=>?_⟩
 ·obtain ⟨v, q⟩:=I.cell x c e
  exact absurd (Nat.lt_of_lt_of_le q.lt (by rw [z]; exact hb)) (Nat.lt_irrefl _)
 ·exact absurd (Nat.lt_of_lt_of_le (Heap.lt_size (I.pin p hp).1) (by rw [z]; exact hb)) (Nat.lt_irrefl _)
set_option genInjectivity false in
structure Turn (P : Program) (w : World) (K : PySem.W.Frag) (tg : Expr) (J : It) (fp : List Addr) (it : Addr) (tn : Nat → Heap → Prop) : Prop where
 mem : it ∈ fp
 obj : ∀ i h, tn i h → ∀ b ∈ fp, ∃ o, h.get? b = some o ∧ ∀ v, o.data ≠ .cell v
 keep : ∀ i h h', tn i h → (∀ b ∈ fp, ∀ o, h.get? b = some o → h'.get? b = some o) → tn i h'
 item : ∀ (X : Cx), X.prog = P → X.w = w → X.K = K → X.calm = true → ∀ (i : Nat) (pins : List (Addr × Obj)) (s : Shared) (σ : St) (H : Hp) (E : Value → Shared → Prop), Inv X pins σ H s → (∀ b ∈ fp, FpOk X pins H b) → tn i s.heap → J.go i H →
  wpAny (model P w) X.A (pyNext (.ref it)) (fun r s1=>∃ u, r = some u ∧
   wpAny (model P w) X.A (letOwnedTupleGo tg (.ref it) u) (fun _ s2=>∃ x H', Inv X pins σ H' s2 ∧ RelV x u ∧ J.yld i H x H' ∧ tn (i + 1) s2.heap ∧ ∀ b ∈ fp, H' b = none) E s1) E s
 done : ∀ (X : Cx), X.prog = P → X.w = w → X.K = K → X.calm = true → ∀ (i : Nat) (pins : List (Addr × Obj)) (s : Shared) (σ : St) (H : Hp) (E : Value → Shared → Prop), Inv X pins σ H s → (∀ b ∈ fp, FpOk X pins H b) → tn i s.heap → J.stop i H →
  wpAny (model P w) X.A (pyNext (.ref it)) (fun r s1=>r = none ∧ Inv X pins σ H s1) E s
 self : ∀ (A : Around) (i : Nat) (s : Shared) (Q : Value → Shared → Prop) (E : Value → Shared → Prop), tn i s.heap → Q (.ref it) s → wpAny (model P w) A (pyIter (.ref it)) Q E s
noncomputable abbrev TI:=St → Hp → (It → Hp → Prop) → Prop
noncomputable def PIE (X : Cx) (pins : List (Addr × Obj)) (σ : St) (tg : Expr) (R : It → Hp → Prop) (itv : Value) (s2 : Shared) : Prop :=
 ∃ (it : Addr) (fp : List Addr) (tn : Nat → Heap → Prop) (J : It) (H' : Hp), itv = .ref it ∧ Inv X pins σ H' s2 ∧ Turn X.prog X.w X.K tg J fp it tn ∧ tn 0 s2.heap ∧ (∀ b ∈ fp, FpOk X pins H' b) ∧ R J H'
noncomputable def PI (X : Cx) (tg iter : Expr) (wi : TI) : Prop :=
 ∀ (pins : List (Addr × Obj)) (s : Shared) (σ : St) (H : Hp) (R : It → Hp → Prop), Inv X pins σ H s → wi σ H R →
  wpAny (model X.prog X.w) X.A (eval iter X.env) (fun v s1=>wpAny (model X.prog X.w) X.A (pyIter v) (PIE X pins σ tg R) X.xe s1) X.xe s
theorem zams {M : Model} {A : Around} {E : Value → Shared → Prop} {s : Shared} {tg : Expr} {it : Addr} {u : Value} {o : Obj} {n : String} {vs : Array Value} {Q : Unit → Shared → Prop} (ho : s.heap.get? it = some o) (hc : o.cls = .type n) (hd : o.data = .fields vs)
  (hn : ["enumerate", "zip", "dict_itemiterator", "dict_reverseitemiterator", "odict_iterator", "itertools.zip_longest", "itertools.pairwise"].contains n = false) (hQ : Q () s) : wpAny M A (letOwnedTupleGo tg (.ref it) u) Q E s:=by
 unfold letOwnedTupleGo
 cases tg <;> first
  | exact wpAny_pure hQ
  | (cases u <;> first
    | exact wpAny_pure hQ
    | (refine wpAny_bind (wpAny_load ho ?_)
       rw [hc, hd]
       show wpAny M A (if (["enumerate", "zip", "dict_itemiterator", "dict_reverseitemiterator", "odict_iterator", "itertools.zip_longest", "itertools.pairwise"].contains n && vs[0]? == some (rawInt _)) = true then _ else _) Q E s
       rw [if_neg (by intro h; rw [hn, Bool.false_and] at h; cases h)]
       exact wpAny_pure hQ))
noncomputable def Itl (K : PySem.W.Frag) (a : Addr) : It :=
 ⟨fun i H=>∃ xs x, SqL K H a xs ∧ xs[i]? = some x, fun i H x H'=>H' = H ∧ ∀ xs, SqL K H a xs → xs[i]? = some x, fun i H=>∃ xs, SqL K H a xs ∧ xs.length ≤ i⟩
noncomputable def Itt (K : PySem.W.Frag) (a : Addr) : It :=
 ⟨fun i H=>∃ xs x, SqT K H a xs ∧ xs[i]? = some x, fun i H x H'=>H' = H ∧ ∀ xs, SqT K H a xs → xs[i]? = some x, fun i H=>∃ xs, SqT K H a xs ∧ xs.length ≤ i⟩
noncomputable def Itr (lo : Int) (n : Nat) : It:=⟨fun i _=>i < n, fun i H x H'=>H' = H ∧ x = .int (lo + i), fun i _=>n ≤ i⟩
theorem zwu {P : Program} {w : World} {K : PySem.W.Frag} {tg : Expr} (a it : Addr) : Turn P w K tg (Itl K a) [it] it (fun i h=>h.IsListIter it a i) where
 mem:=by simp
 obj:=fun i h st b hb=>by
  have e : b = it:=by simpa using hb
  subst e
  obtain ⟨o, e, c, d⟩:=st
  exact ⟨o, e, fun v z=>by rw [d] at z; cases z⟩
 keep:=fun i h h' st k=>st.at fun o e=>k it (by simp) o e
 item:=by
  intro X hP hw hK hc i pins s σ H E I hf st hg
  subst hP hw hK
  obtain ⟨xs, x, hq, hx⟩:=hg
  obtain ⟨its, rv, p, hz⟩:=I.list hq
  obtain ⟨u, hu, ru⟩:=rv.get hx
  obtain ⟨f0, f1, f2, f3, f4, f5⟩:=hf it (by simp)
  refine wpAny_pyNext_list_item st p.isList (x:=u) (by simpa using hu) fun h' st' sb=>?_
  have I1 : Inv X pins σ H { s with heap:=h' }:=I.turned (t':=s.toks) (fun b o hb e=>(sb.2 b hb).trans e) f0 f1 f3 f4 f5
  obtain ⟨o, e, c, d⟩:=id st'
  exact ⟨u, rfl, zams (s:={ s with heap:=h' }) e c d (by decide) ⟨x, H, I1, ru, ⟨rfl, fun ys hy=>by rw [I.list_inj hy hq]; exact hx⟩, st', fun b hb=>(hf b hb).1⟩⟩
 done:=by
  intro X hP hw hK hc i pins s σ H E I hf st hg
  subst hP hw hK
  obtain ⟨xs, hq, hx⟩:=hg
  obtain ⟨its, rv, p, hz⟩:=I.list hq
  obtain ⟨f0, f1, f2, f3, f4, f5⟩:=hf it (by simp)
  have hl:=rv.length
  exact wpAny_pyNext_list_end (I.ok.hd hc) st p.isList (by simp; omega) fun h' eb=>⟨rfl, I.turned (t':=s.toks) (fun b o hb e=>eb b o hb e) f0 f1 f3 f4 f5⟩
 self:=fun _ _ _ _ _ st h=>wpAny_pyIter_listiter st h
theorem zadx {P : Program} {w : World} {K : PySem.W.Frag} {tg : Expr} (a it : Addr) : Turn P w K tg (Itt K a) [it] it (fun i h=>h.IsTupleIter it a i) where
 mem:=by simp
 obj:=fun i h st b hb=>by
  have e : b = it:=by simpa using hb
  subst e
  obtain ⟨o, e, c, d⟩:=st
  exact ⟨o, e, fun v z=>by rw [d] at z; cases z⟩
 keep:=fun i h h' st k=>st.at fun o e=>k it (by simp) o e
 item:=by
  intro X hP hw hK hc i pins s σ H E I hf st hg
  subst hP hw hK
  obtain ⟨xs, x, hq, hx⟩:=hg
  obtain ⟨its, rv, p, hz⟩:=I.tuple hq
  obtain ⟨u, hu, ru⟩:=rv.get hx
  obtain ⟨f0, f1, f2, f3, f4, f5⟩:=hf it (by simp)
  refine wpAny_pyNext_tuple_item st (show s.heap.IsTuple a its.toArray from p) (x:=u) (by simpa using hu) fun h' st' sb=>?_
  have I1 : Inv X pins σ H { s with heap:=h' }:=I.turned (t':=s.toks) (fun b o hb e=>(sb.2 b hb).trans e) f0 f1 f3 f4 f5
  obtain ⟨o, e, c, d⟩:=id st'
  exact ⟨u, rfl, zams (s:={ s with heap:=h' }) e c d (by decide) ⟨x, H, I1, ru, ⟨rfl, fun ys hy=>by rw [I.tuple_inj hy hq]; exact hx⟩, st', fun b hb=>(hf b hb).1⟩⟩
 done:=by
  intro X hP hw hK hc i pins s σ H E I hf st hg
  subst hP hw hK
  obtain ⟨xs, hq, hx⟩:=hg
  obtain ⟨its, rv, p, hz⟩:=I.tuple hq
  obtain ⟨f0, f1, f2, f3, f4, f5⟩:=hf it (by simp)
  have hl:=rv.length
  exact wpAny_pyNext_tuple_end (I.ok.hd hc) st (show s.heap.IsTuple a its.toArray from p) (by simp; omega) fun h' eb=>⟨rfl, I.turned (t':=s.toks) (fun b o hb e=>eb b o hb e) f0 f1 f3 f4 f5⟩
 self:=fun _ _ _ _ _ st h=>wpAny_pyIter_tupleiter st h
theorem zady {P : Program} {w : World} {K : PySem.W.Frag} {tg : Expr} (it : Addr) (lo : Int) (n : Nat) : Turn P w K tg (Itr lo n) [it] it (fun i h=>IsRangeIter h it (lo + (i : Nat) * 1) ((n : Int) - (i : Nat)) 1) where
 mem:=by simp
 obj:=fun i h st b hb=>by
  have e : b = it:=by simpa using hb
  subst e
  exact ⟨_, st, fun v z=>by
   have z' : Data.fields _ = Data.cell v:=z
   cases z'⟩
 keep:=fun i h h' st k=>k it (by simp) _ st
 item:=by
  intro X hP hw hK hc i pins s σ H E I hf st hg
  subst hP hw hK
  obtain ⟨f0, f1, f2, f3, f4, f5⟩:=hf it (by simp)
  have W:=Walks.range (prog:=X.prog) (w:=X.w) (I.ok.hd hc) it lo 1 n
  refine W.item i s _ _ hg st fun v h' tk hv st' kk=>?_
  obtain ⟨t, rfl⟩:=hv
  have I1 : Inv X pins σ H { s with heap:=h', toks:=tk }:=I.turned (fun b o hb e=>kk b o (by simpa using hb) e) f0 f1 f3 f4 f5
  refine ⟨_, rfl, zams (s:={ s with heap:=h', toks:=tk }) (n:="range_iterator") st' rfl rfl (by decide) ⟨.int (lo + i), H, I1, ⟨t, ?_⟩, ⟨rfl, rfl⟩, st', fun b hb=>(hf b hb).1⟩⟩
  rw [Int.mul_one]
 done:=by
  intro X hP hw hK hc i pins s σ H E I hf st hg
  subst hP hw hK
  obtain ⟨f0, f1, f2, f3, f4, f5⟩:=hf it (by simp)
  exact wpAny_pyNext_range_end (I.ok.hd hc) st (by have : n ≤ i:=hg; omega) fun h' eb=>⟨rfl, I.turned (t':=s.toks) (fun b o hb e=>eb b o hb e) f0 f1 f3 f4 f5⟩
 self:=fun _ _ _ _ _ st h=>wpAny_pyIter_rangeiter st h
end L2
namespace L2
open PySem PySem.Spec PyProof.Rows
section
variable {X : Cx} {tg : Expr}
noncomputable def zapj (K : PySem.W.Frag) (tl : TE) : TI:=fun σ H R=>tl σ H fun x H1=>∃ a, x = .ref a ∧ (∃ xs, SqL K H1 a xs) ∧ R (Itl K a) H1
theorem zamt {l : Expr} {tl : TE} (hl : PE X l tl) : PI X tg l (zapj X.K tl):=by
 intro pins s σ H R I h
 refine thn (hl pins s σ H _ I h) fun v s1 ⟨x, H1, I1, r1, q1⟩=>?_
 obtain ⟨a, e, ⟨xs, hq⟩, q⟩:=q1
 subst e
 cases r1
 obtain ⟨its, rv, p, hz⟩:=I1.list hq
 refine wpAny_pyIter_list p.isList ?_
 refine ⟨s1.heap.objs.size, [s1.heap.objs.size], _, _, H1, rfl, I1.kept (t':=s1.toks) fun b o e=>Heap.get?_push_of_some _ e, zwu a _, ⟨_, Heap.get?_push_size _ rfl, rfl, rfl⟩, fun b hb=>?_, q⟩
 have e : b = s1.heap.objs.size:=by simpa using hb
 subst e
 exact I1.fpOk (Nat.le_refl _) (I1.hok.fresh (Nat.le_refl _))
theorem zajj {pins : List (Addr × Obj)} {σ : St} {H : Hp} {s : Shared} {R : It → Hp → Prop} {E : Value → Shared → Prop} {lo hi : Int} {t u v : Tok} {tk : Nat} (I : Inv X pins σ H s) (h1 : -(2 ^ 62) ≤ lo) (h2 : lo < 2 ^ 62) (h3 : -(2 ^ 62) ≤ hi) (h4 : hi < 2 ^ 62)
  (q : R (Itr lo (hi - lo).toNat) H) : wpAny (model X.prog X.w) X.A (pyIter (.ref s.heap.objs.size)) (PIE X pins σ tg R) E { s with heap:=s.heap.push { cls:=.type "range", data:=.fields #[.int lo t, .int hi u, .int 1 v] }, toks:=tk }:=by
 refine wpAny_pyIter_range (IsRange.new ..) (small_one h1 h2 h3 h4) ?_
 have I1 : Inv X pins σ H { s with heap:=s.heap.push { cls:=.type "range", data:=.fields #[.int lo t, .int hi u, .int 1 v] }, toks:=tk }:=I.kept fun b o e=>Heap.get?_push_of_some _ e
 refine ⟨(s.heap.push { cls:=.type "range", data:=.fields #[.int lo t, .int hi u, .int 1 v] }).objs.size, [(s.heap.push { cls:=.type "range", data:=.fields #[.int lo t, .int hi u, .int 1 v] }).objs.size], _, _, H, rfl,
  I1.kept (t':=tk) fun b o e=>Heap.get?_push_of_some _ e, zady _ lo (hi - lo).toNat, ?_, fun b hb=>?_, q⟩
 ·have e1 : lo + ((0 : Nat) : Int) * 1 = lo:=by simp
  have e2 : (((hi - lo).toNat : Nat) : Int) - ((0 : Nat) : Int) = Builtin.Range.rangeSize lo hi 1:=by rw [rangeSize_one]; split <;> omega
  show IsRangeIter _ _ (lo + ((0 : Nat) : Int) * 1) ((((hi - lo).toNat : Nat) : Int) - ((0 : Nat) : Int)) 1
  rw [e1, e2]
  exact Heap.get?_push_size _ rfl
 ·have e : b = (s.heap.push { cls:=.type "range", data:=.fields #[.int lo t, .int hi u, .int 1 v] }).objs.size:=by simpa using hb
  subst e
  exact I1.fpOk (Nat.le_refl _) (I1.hok.fresh (Nat.le_refl _))
noncomputable def iRng1 (ta : TA) : TI:=fun σ H R=>ta σ H fun vs H1=>∃ j : Int, vs = [.int j] ∧ -(2 ^ 62) ≤ j ∧ j < 2 ^ 62 ∧ R (Itr 0 j.toNat) H1
theorem zwv {a : Expr} {ta : TA} {p pos : Pos} (hg : Gl X "range") (hm : X.mg "range" = none) (ha : PA X [a] ta) (hs : starEach [a] X.env = [(false, eval a X.env)]:=by rfl) : PI X tg (.Call (.Name "range" p) [a] [] pos) (iRng1 ta):=by
 intro pins s σ H R I h
 refine Call_ (ztx I hg hm boot_range (PyProof.Rows.callWith_type1 (thn (ha pos pins s σ H _ I h) fun us s1 ⟨vs, H1, I1, r1, q1⟩=>?_) hs rfl))
 obtain ⟨j, e, q1, q2, q⟩:=q1
 subst e
 cases r1 with
 | cons r rr =>
  cases rr
  obtain ⟨t, rfl⟩:=r
  exact call_range_1 (zajj I1 (by omega) (by omega) q1 q2 (by simpa using q))
noncomputable def tFor (wi : TI) (g : TG) (tb : TS) : TS:=fun D σ H=>wi σ H fun J H1=>∃ W : Nat → Nat → St → Hp → Prop, (∃ m, W 0 m σ H1) ∧ ∀ i m σ H, W i m σ H →
 (J.stop i H ∧ D.nx σ H) ∨ (J.go i H ∧ ∃ N : St → Hp → Prop, (∀ σ' H', N σ' H' → ∃ m', m' < m ∧ W (i + 1) m' σ' H') ∧ ∀ x H', J.yld i H x H' → g x σ H' fun σ2 H2=>tb { D with nx:=N, ct:=N, bk:=D.nx } σ2 H2)
noncomputable def zww (fp : List Addr) (h : Heap) : List (Addr × Obj):=fp.filterMap fun b=>(h.get? b).map fun o=>(b, o)
theorem zlr {fp : List Addr} {h : Heap} {b : Addr} {o : Obj} (hb : b ∈ fp) (e : h.get? b = some o) : (b, o) ∈ zww fp h:=List.mem_filterMap.mpr ⟨b, hb, by rw [e]; rfl⟩
theorem zafh {fp : List Addr} {h : Heap} {p : Addr × Obj} (hp : p ∈ zww fp h) : p.1 ∈ fp ∧ h.get? p.1 = some p.2:=by
 obtain ⟨b, hb, e⟩:=List.mem_filterMap.mp hp
 cases q : h.get? b with
 | none=>rw [q] at e; cases e
 | some o =>
  rw [q] at e
  have e' : (b, o) = p:=Option.some.inj e
  subst e'
  exact ⟨hb, q⟩
theorem Inv.pinned {pins : List (Addr × Obj)} {σ : St} {H : Hp} {s : Shared} {fp : List Addr} (I : Inv X pins σ H s) (hf : ∀ b ∈ fp, FpOk X pins H b) (ho : ∀ b ∈ fp, ∃ o, s.heap.get? b = some o ∧ ∀ v, o.data ≠ .cell v) : Inv X (pins ++ zww fp s.heap) σ H s :=
 I.pins_of fun p hp=>(List.mem_append.mp hp).elim (fun z=>I.pin p (List.mem_append_right _ z)) fun z=>by
  obtain ⟨hb, e⟩:=zafh z
  obtain ⟨f0, f1, f2, _⟩:=hf p.1 hb
  obtain ⟨o, e', d⟩:=ho p.1 hb
  rw [e] at e'; cases e'
  exact ⟨e, f0, f1, f2, d⟩
theorem Inv.unpinned {pins pl : List (Addr × Obj)} {σ : St} {H : Hp} {s : Shared} (I : Inv X (pins ++ pl) σ H s) : Inv X pins σ H s:=I.pins_of fun p hp=>I.pin p (List.mem_append_right _ (List.mem_append_left _ hp))
theorem zafi {iter : Expr} {body : List Stmt} {wi : TI} {g : TG} {tb : TS} {pos : Pos} (hp : PassesOwn (model X.prog X.w) X.A X.env X.xe) (hc : X.calm = true) (hi : PI X tg iter wi) (hg : PG X tg g) (hb : PSs X body tb)
  (hs : ∀ x, foldedSetIterable iter X.env x = pure x:=by intro _; rfl) : PS X (.For tg iter body [] pos) (tFor wi g tb):=by
 intro pins s σ H D I h
 refine wpAny_For (thn (hi pins s σ H _ I h) fun v s1 h1=>thn h1 fun itv s2 h2=>?_) hs
 obtain ⟨it, fp, tn, J, H2, e, I2, T, st2, f2, W, ⟨m0, w0⟩, turn⟩:=h2
 subst e
 have stat : ∀ {H' : Hp}, (∀ b ∈ fp, H' b = none) → ∀ b ∈ fp, FpOk X pins H' b:=fun hn b hb=>⟨hn b hb, (f2 b hb).2⟩
 refine codeAny_forLoop_any (fun n s'=>∃ i σ' H', Inv X pins σ' H' s' ∧ tn i s'.heap ∧ (∀ b ∈ fp, H' b = none) ∧ W i n σ' H') ?_ m0 ⟨0, σ, H2, I2, st2, fun b hb=>(f2 b hb).1, w0⟩
 rintro n s3 ⟨i, σ3, H3, I3, st3, fr3, w3⟩
 rcases turn i n σ3 H3 w3 with ⟨stop, qn⟩ | ⟨go, N, hN, step⟩
 ·refine wpAny_passesOwn hp (thn (T.done X rfl rfl rfl hc i pins s3 σ3 H3 X.xe I3 (stat fr3) st3 stop) fun r s4 ⟨hr, I4⟩=>?_)
  subst hr
  exact wpAny_execs_nil ⟨σ3, H3, I4, qn⟩
 ·refine wpAny_passesOwn hp (thn (T.item X rfl rfl rfl hc i pins s3 σ3 H3 X.xe I3 (stat fr3) st3 go) fun r s4 ⟨u, hr, h4⟩=>?_)
  subst hr
  refine wpAny_passesOwn hp (thn h4 fun _ s5 ⟨x, H5, I5, r5, y5, st5, fr5⟩=>?_)
  have I5':=I5.pinned (stat fr5) (T.obj _ _ st5)
  refine wpAny_passesOwn hp (thn (hg _ s5 σ3 H5 x u _ I5' r5 (step x H5 y5)) fun _ s6 ⟨σ6, H6, I6, q6⟩=>?_)
  refine wpAny_passesOwn hp (thn (hb _ s6 σ6 H6 _ I6 q6) fun f s7 q7=>?_)
  have again : ∀ {σ7 : St} {H7 : Hp}, Inv X (pins ++ zww fp s5.heap) σ7 H7 s7 → N σ7 H7 → ∃ m, m < n ∧ ∃ i σ' H', Inv X pins σ' H' s7 ∧ tn i s7.heap ∧ (∀ b ∈ fp, H' b = none) ∧ W i m σ' H':=fun {σ7 H7} I7 n7=>by
   obtain ⟨m', hm, w7⟩:=hN σ7 H7 n7
   refine ⟨m', hm, i + 1, σ7, H7, I7.unpinned, T.keep _ _ _ st5 fun b hb o e=>(I7.pin (b, o) (List.mem_append_right _ (List.mem_append_right _ (zlr hb e)))).1, fun b hb=>?_, w7⟩
   obtain ⟨o, e, d⟩:=T.obj _ _ st5 b hb
   exact (I7.pin (b, o) (List.mem_append_right _ (List.mem_append_right _ (zlr hb e)))).2.1
  cases f with
  | next=>obtain ⟨σ7, H7, I7, n7⟩:=q7; exact again I7 n7
  | cont=>obtain ⟨σ7, H7, I7, n7⟩:=q7; exact again I7 n7
  | brk=>obtain ⟨σ7, H7, I7, q7⟩:=q7; exact ⟨σ7, H7, I7.unpinned, q7⟩
  | ret v=>obtain ⟨x7, σ7, H7, I7, r7, q7⟩:=q7; exact ⟨x7, σ7, H7, I7.unpinned, r7, q7⟩
end
theorem for_list {K : PySem.W.Frag} {a : Addr} {xs : List V} {g : TG} {tb : TS} {D : Ends} {σ : St} {H : Hp} (Pv : Nat → St → Hp → Prop) (h0 : Pv 0 σ H) (hl : ∀ i σ H, i ≤ xs.length → Pv i σ H → SqL K H a xs)
  (hs : ∀ i x σ H, xs[i]? = some x → Pv i σ H → g x σ H fun σ2 H2=>tb { D with nx:=Pv (i + 1), ct:=Pv (i + 1), bk:=D.nx } σ2 H2) (hd : ∀ σ H, Pv xs.length σ H → D.nx σ H) :
  ∃ W : Nat → Nat → St → Hp → Prop, (∃ m, W 0 m σ H) ∧ ∀ i m σ H, W i m σ H →
   ((Itl K a).stop i H ∧ D.nx σ H) ∨ ((Itl K a).go i H ∧ ∃ N : St → Hp → Prop, (∀ σ' H', N σ' H' → ∃ m', m' < m ∧ W (i + 1) m' σ' H') ∧ ∀ x H', (Itl K a).yld i H x H' → g x σ H' fun σ2 H2=>tb { D with nx:=N, ct:=N, bk:=D.nx } σ2 H2):=by
 refine ⟨fun i m σ H=>m = xs.length - i ∧ i ≤ xs.length ∧ Pv i σ H, ⟨xs.length, by simp, Nat.zero_le _, h0⟩, ?_⟩
 rintro i m σ H ⟨rfl, hi, p⟩
 have q:=hl i σ H hi p
 by_cases hlt : i < xs.length
 ·refine .inr ⟨⟨xs, xs[i], q, by simp [hlt]⟩, Pv (i + 1), fun σ' H' p'=>⟨xs.length - (i + 1), by omega, rfl, hlt, p'⟩, fun x H' y=>?_⟩
  obtain ⟨e, y⟩:=y
  subst e
  exact hs i x σ _ (y xs q) p
 ·have e : i = xs.length:=by omega
  subst e
  exact .inl ⟨⟨xs, q, Nat.le_refl _⟩, hd σ H p⟩
theorem for_range {lo : Int} {n : Nat} {g : TG} {tb : TS} {D : Ends} {σ : St} {H : Hp} (Pv : Nat → St → Hp → Prop) (h0 : Pv 0 σ H)
  (hs : ∀ i σ H, i < n → Pv i σ H → g (.int (lo + i)) σ H fun σ2 H2=>tb { D with nx:=Pv (i + 1), ct:=Pv (i + 1), bk:=D.nx } σ2 H2) (hd : ∀ σ H, Pv n σ H → D.nx σ H) :
  ∃ W : Nat → Nat → St → Hp → Prop, (∃ m, W 0 m σ H) ∧ ∀ i m σ H, W i m σ H →
   ((Itr lo n).stop i H ∧ D.nx σ H) ∨ ((Itr lo n).go i H ∧ ∃ N : St → Hp → Prop, (∀ σ' H', N σ' H' → ∃ m', m' < m ∧ W (i + 1) m' σ' H') ∧ ∀ x H', (Itr lo n).yld i H x H' → g x σ H' fun σ2 H2=>tb { D with nx:=N, ct:=N, bk:=D.nx } σ2 H2):=by
 refine ⟨fun i m σ H=>m = n - i ∧ i ≤ n ∧ Pv i σ H, ⟨n, by simp, Nat.zero_le _, h0⟩, ?_⟩
 rintro i m σ H ⟨rfl, hi, p⟩
 by_cases hlt : i < n
 ·refine .inr ⟨hlt, Pv (i + 1), fun σ' H' p'=>⟨n - (i + 1), by omega, rfl, hlt, p'⟩, fun x H' y=>?_⟩
  obtain ⟨e, y⟩:=y
  subst e y
  exact hs i σ _ hlt p
 ·have e : i = n:=by omega
  subst e
  exact .inl ⟨Nat.le_refl _, hd σ H p⟩
end L2
namespace L2
open PySem PySem.Spec PyProof.Rows
noncomputable abbrev R2:=V → V → Hp → VK → Prop
noncomputable def OpR (X : Cx) (f : Value → Value → Sem Value) (r : R2) : Prop :=
 ∀ (pins : List (Addr × Obj)) (s : Shared) (σ : St) (H : Hp) (x y : V) (v u : Value) (Q : VK), Inv X pins σ H s → RelV x v → RelV y u → r x y H Q →
  wpAny (model X.prog X.w) X.A (f v u) (EP X pins σ Q) X.xe s
noncomputable def CallR (X : Cx) (f : Value) (r : List V → Hp → VK → Prop) : Prop :=
 ∀ (pins : List (Addr × Obj)) (s : Shared) (σ : St) (H : Hp) (xs : List V) (us : List Value) (Q : VK), Inv X pins σ H s → Vals xs us → r xs H Q →
  wpAny (model X.prog X.w) X.A (call f us) (EP X pins σ Q) X.xe s
noncomputable def TruR (X : Cx) (r : V → Hp → (Bool → Hp → Prop) → Prop) : Prop :=
 ∀ (pins : List (Addr × Obj)) (s : Shared) (σ : St) (H : Hp) (x : V) (v : Value) (Q : Bool → Hp → Prop), Inv X pins σ H s → RelV x v → r x H Q →
  wpAny (model X.prog X.w) X.A (truthy v) (TP X pins σ Q) X.xe s
noncomputable def tOp (r : R2) (ta tb : TE) : TE:=fun σ H Q=>ta σ H fun x H1=>tb σ H1 fun y H2=>r x y H2 Q
noncomputable def rI (C : Int → Int → Prop) (g : Int → Int → V) : R2:=fun x y H Q=>∃ i j, x = .int i ∧ y = .int j ∧ C i j ∧ Q (g i j) H
noncomputable def rI0 (g : Int → Int → V) : R2:=fun x y H Q=>∃ i j, x = .int i ∧ y = .int j ∧ Q (g i j) H
section
variable {X : Cx} {a b c : Expr} {ta tb tc : TE} {pos : Pos}
theorem binT (ha : PE X a ta) (hb : PE X b tb) {pins : List (Addr × Obj)} {s : Shared} {σ : St} {H : Hp} {R : V → V → Hp → Prop} (I : Inv X pins σ H s)
  (h : ta σ H fun x H1=>tb σ H1 fun y H2=>R x y H2) {Q : Value → Shared → Prop} {f : Value → Value → Sem Value}
  (hf : ∀ v u s2 x y H2, Inv X pins σ H2 s2 → RelV x v → RelV y u → R x y H2 → wpAny (model X.prog X.w) X.A (f v u) Q X.xe s2) :
  wpAny (model X.prog X.w) X.A (eval a X.env) (fun v s₁=>wpAny (model X.prog X.w) X.A (eval b X.env) (fun u s₂=>wpAny (model X.prog X.w) X.A (f v u) Q X.xe s₂) X.xe s₁) X.xe s:=by
 refine thn (ha pins s σ H _ I h) fun v s1 ⟨x, H1, I1, r1, q1⟩=>?_
 refine thn (hb pins s1 σ H1 _ I1 q1) fun u s2 ⟨y, H2, I2, r2, q2⟩=>?_
 exact hf v u s2 x y H2 I2 r1 r2 q2
theorem zmc {op : Operator} {r : R2} (ho : OpR X (binaryOp op) r) (ha : PE X a ta) (hb : PE X b tb) : PE X (.BinOp a op b pos) (tOp r ta tb):=by
 intro pins s σ H Q I h
 exact wpAny_BinOp (binT ha hb I h fun v u s2 x y H2 I2 rx ry q=>ho pins s2 σ H2 x y v u Q I2 rx ry q)
theorem opI {f : Value → Value → Sem Value} {C : Int → Int → Prop} {g : Int → Int → Int}
  (rule : ∀ (i j : Int) (t u : Tok) (s : Shared) (Q : Value → Shared → Prop) (E : Value → Shared → Prop), C i j → Q (.int (g i j) s.toks) { s with toks:=s.toks + 1 } → wpAny (model X.prog X.w) X.A (f (.int i t) (.int j u)) Q E s) :
  OpR X f (rI C fun i j=>.int (g i j)):=by
 intro pins s σ H x y v u Q I rx ry h
 obtain ⟨i, j, rfl, rfl, hc, q⟩:=h
 obtain ⟨t, rfl⟩:=rx
 obtain ⟨t', rfl⟩:=ry
 exact rule i j t t' s _ _ hc ⟨.int (g i j), H, I.tok _, ⟨_, rfl⟩, q⟩
theorem opI0 {f : Value → Value → Sem Value} {g : Int → Int → Int}
  (rule : ∀ (i j : Int) (t u : Tok) (s : Shared) (Q : Value → Shared → Prop) (E : Value → Shared → Prop), Q (.int (g i j) s.toks) { s with toks:=s.toks + 1 } → wpAny (model X.prog X.w) X.A (f (.int i t) (.int j u)) Q E s) :
  OpR X f (rI0 fun i j=>.int (g i j)):=by
 intro pins s σ H x y v u Q I rx ry h
 obtain ⟨i, j, rfl, rfl, q⟩:=h
 obtain ⟨t, rfl⟩:=rx
 obtain ⟨t', rfl⟩:=ry
 exact rule i j t t' s _ _ ⟨.int (g i j), H, I.tok _, ⟨_, rfl⟩, q⟩
theorem opB0 {f : Value → Value → Sem Value} {g : Int → Int → Bool}
  (rule : ∀ (i j : Int) (t u : Tok) (s : Shared) (Q : Value → Shared → Prop) (E : Value → Shared → Prop), Q (.bool (g i j)) s → wpAny (model X.prog X.w) X.A (f (.int i t) (.int j u)) Q E s) :
  OpR X f (rI0 fun i j=>.bl (g i j)):=by
 intro pins s σ H x y v u Q I rx ry h
 obtain ⟨i, j, rfl, rfl, q⟩:=h
 obtain ⟨t, rfl⟩:=rx
 obtain ⟨t', rfl⟩:=ry
 exact rule i j t t' s _ _ ⟨.bl (g i j), H, I, rfl, q⟩
noncomputable def CDiv (i j : Int) : Prop:=0 < j ∧ j < 1073741824
noncomputable def CPow (i j : Int) : Prop:=0 ≤ j ∧ j ≤ 1000000 ∧ i.natAbs < 2 ^ 64
noncomputable def CMul (i j : Int) : Prop:=(-(2 ^ 64) < i ∧ i < 2 ^ 64) ∨ (-(2 ^ 64) < j ∧ j < 2 ^ 64)
theorem CMul.ok {i j : Int} (h : CMul i j) : IntMulOk i j:=by
 rcases h with ⟨h1, h2⟩ | ⟨h1, h2⟩
 ·exact .of_left (intBits_le_64 h1 h2)
 ·exact .of_right (intBits_le_64 h1 h2)
theorem zapk : OpR X (binaryOp .Add) (rI0 fun i j=>.int (i + j)):=opI0 fun _ _ _ _ _ _ _ q=>add_int q
theorem zpk : OpR X (binaryOp .Sub) (rI0 fun i j=>.int (i - j)):=opI0 fun _ _ _ _ _ _ _ q=>sub_int q
theorem zapl : OpR X (binaryOp .Mult) (rI CMul fun i j=>.int (i * j)):=opI fun _ _ _ _ _ _ _ hc q=>mul_int q hc.ok
theorem zey : OpR X (binaryOp .FloorDiv) (rI CDiv fun i j=>.int (i / j)):=opI fun i j _ _ _ _ _ hc q=>by
 have h1 : (0 : Int) < j:=hc.1
 have h2 : j < 1073741824:=hc.2
 exact floordiv_int (by omega) (by rw [Int.fdiv_eq_ediv_of_nonneg i (by omega)]; exact q) (.inl (PyProof.noPylong_small (by omega)))
theorem zdm : OpR X (binaryOp .Mod) (rI (fun _ j=>0 < j) fun i j=>.int (i % j)):=opI fun i j _ _ _ _ _ hc q=>by
 have h1 : (0 : Int) < j:=hc
 exact mod_int' (by omega) (by rw [Int.fmod_eq_emod_of_nonneg i (by omega)]; exact q)
theorem zals : OpR X (binaryOp .Pow) (rI CPow fun i j=>.int (i ^ j.toNat)):=opI fun _ _ _ _ _ _ _ hc q=>pow_int_small hc.1 hc.2.1 hc.2.2 q
end
noncomputable def scal : V → V → Bool
 | .non, .non=>true | .non, .int _=>true | .int _, .non=>true | .non, .bl _=>true | .bl _, .non=>true | .non, .str _=>true | .str _, .non=>true
 | .int _, .int _=>true | .bl _, .bl _=>true | .str _, .str _=>true | .byt _, .byt _=>true
 | .int _, .str _=>true | .str _, .int _=>true | .bl _, .str _=>true | .str _, .bl _=>true
 | _, _=>false
noncomputable def rEq : R2:=fun x y H Q=>scal x y = true ∧ Q (.bl (decide (x = y))) H
noncomputable def rNe : R2:=fun x y H Q=>scal x y = true ∧ Q (.bl (!decide (x = y))) H
theorem zaaf {i j : Int} : decide (V.int i = V.int j) = (i == j):=by
 rw [Bool.eq_iff_iff]
 simp
theorem zafj {i j : Bool} : decide (V.bl i = V.bl j) = (i == j):=by
 rw [Bool.eq_iff_iff]
 simp
theorem zaag {i j : Str} : decide (V.str i = V.str j) = (i == j):=by
 rw [Bool.eq_iff_iff]
 simp
theorem zafk {i j : Array UInt8} : decide (V.byt i = V.byt j) = (i.toList == j.toList):=by
 rw [Bool.eq_iff_iff]
 cases i
 cases j
 simp
section
variable {X : Cx} {a b c : Expr} {ta tb tc : TE} {pos : Pos}
theorem zdn {pins : List (Addr × Obj)} {σ : St} {H : Hp} {s : Shared} {Q : VK} {k k' : Bool} (I : Inv X pins σ H s) (q : Q (.bl k) H) (e : k = k') : EP X pins σ Q (.bool k') s:=by
 subst e
 exact ⟨.bl k, H, I, rfl, q⟩
theorem zarc : OpR X (compareOp .Eq) rEq:=by
 intro pins s σ H x y v u Q I rx ry h
 obtain ⟨hs, q⟩:=h
 cases x with
 | non =>
  cases rx
  cases y with
  | non=>cases ry; exact PySem.EqNone.eq_none_none (zdn I q (by simp))
  | bl j=>cases ry; exact PySem.EqNone.eq_none_bool (zdn I q (by simp))
  | int j=>obtain ⟨t', rfl⟩:=ry; exact PySem.EqNone.eq_none_int (zdn I q (by simp))
  | str j=>obtain ⟨t', rfl⟩:=ry; exact PySem.EqNone.eq_none_str (zdn I q (by simp))
  | _=>exact absurd (show false = true from hs) Bool.false_ne_true
 | bl i =>
  cases rx
  cases y with
  | non=>cases ry; exact PySem.EqNone.eq_bool_none (zdn I q (by simp))
  | bl j=>cases ry; exact eq_bool (zdn I q zafj)
  | str j=>obtain ⟨t', rfl⟩:=ry; exact PySem.EqMixed.eq_bool_str (zdn I q (by simp))
  | _=>exact absurd (show false = true from hs) Bool.false_ne_true
 | int i =>
  obtain ⟨t, rfl⟩:=rx
  cases y with
  | non=>cases ry; exact PySem.EqNone.eq_int_none (zdn I q (by simp))
  | int j=>obtain ⟨t', rfl⟩:=ry; exact eq_int (zdn I q zaaf)
  | str j=>obtain ⟨t', rfl⟩:=ry; exact PySem.EqMixed.eq_int_str (zdn I q (by simp))
  | _=>exact absurd (show false = true from hs) Bool.false_ne_true
 | str i =>
  obtain ⟨t, rfl⟩:=rx
  cases y with
  | non=>cases ry; exact PySem.EqNone.eq_str_none (zdn I q (by simp))
  | bl j=>cases ry; exact PySem.EqMixed.eq_str_bool (zdn I q (by simp))
  | int j=>obtain ⟨t', rfl⟩:=ry; exact PySem.EqMixed.eq_str_int (zdn I q (by simp))
  | str j=>obtain ⟨t', rfl⟩:=ry; exact eq_str (zdn I q zaag)
  | _=>exact absurd (show false = true from hs) Bool.false_ne_true
 | byt i =>
  obtain ⟨t, rfl⟩:=rx
  cases y with
  | byt j=>obtain ⟨t', rfl⟩:=ry; exact PySem.W.eq_bytes (zdn I q zafk)
  | _=>exact absurd (show false = true from hs) Bool.false_ne_true
 | _=>cases y <;> exact absurd (show false = true from hs) Bool.false_ne_true
theorem zard : OpR X (compareOp .NotEq) rNe:=by
 intro pins s σ H x y v u Q I rx ry h
 obtain ⟨hs, q⟩:=h
 cases x with
 | non =>
  cases rx
  cases y with
  | non=>cases ry; exact PySem.EqNone.ne_none_none (zdn I q (by simp))
  | bl j=>cases ry; exact PySem.EqNone.ne_none_bool (zdn I q (by simp))
  | int j=>obtain ⟨t', rfl⟩:=ry; exact PySem.EqNone.ne_none_int (zdn I q (by simp))
  | str j=>obtain ⟨t', rfl⟩:=ry; exact PySem.EqNone.ne_none_str (zdn I q (by simp))
  | _=>exact absurd (show false = true from hs) Bool.false_ne_true
 | bl i =>
  cases rx
  cases y with
  | non=>cases ry; exact PySem.EqNone.ne_bool_none (zdn I q (by simp))
  | bl j=>cases ry; exact ne_bool (zdn I q (congrArg not zafj))
  | str j=>obtain ⟨t', rfl⟩:=ry; exact PySem.EqMixed.ne_bool_str (zdn I q (by simp))
  | _=>exact absurd (show false = true from hs) Bool.false_ne_true
 | int i =>
  obtain ⟨t, rfl⟩:=rx
  cases y with
  | non=>cases ry; exact PySem.EqNone.ne_int_none (zdn I q (by simp))
  | int j=>obtain ⟨t', rfl⟩:=ry; exact ne_int (zdn I q (congrArg not zaaf))
  | str j=>obtain ⟨t', rfl⟩:=ry; exact PySem.EqMixed.ne_int_str (zdn I q (by simp))
  | _=>exact absurd (show false = true from hs) Bool.false_ne_true
 | str i =>
  obtain ⟨t, rfl⟩:=rx
  cases y with
  | non=>cases ry; exact PySem.EqNone.ne_str_none (zdn I q (by simp))
  | bl j=>cases ry; exact PySem.EqMixed.ne_str_bool (zdn I q (by simp))
  | int j=>obtain ⟨t', rfl⟩:=ry; exact PySem.EqMixed.ne_str_int (zdn I q (by simp))
  | str j=>obtain ⟨t', rfl⟩:=ry; exact ne_str (zdn I q (congrArg not zaag))
  | _=>exact absurd (show false = true from hs) Bool.false_ne_true
 | byt i =>
  obtain ⟨t, rfl⟩:=rx
  cases y with
  | byt j=>obtain ⟨t', rfl⟩:=ry; exact PySem.W.ne_bytes (zdn I q (congrArg not zafk))
  | _=>exact absurd (show false = true from hs) Bool.false_ne_true
 | _=>cases y <;> exact absurd (show false = true from hs) Bool.false_ne_true
theorem zare : OpR X (compareOp .Lt) (rI0 fun i j=>.bl (decide (i < j))):=opB0 fun _ _ _ _ _ _ _ q=>lt_int q
theorem zamu : OpR X (compareOp .Gt) (rI0 fun i j=>.bl (decide (j < i))):=opB0 fun _ _ _ _ _ _ _ q=>gt_int q
theorem OpR.or {f : Value → Value → Sem Value} {r r' : R2} (h : OpR X f r) (h' : OpR X f r') : OpR X f (fun x y H Q=>r x y H Q ∨ r' x y H Q):=by
 intro pins s σ H x y v u Q I rx ry q
 rcases q with q | q
 ·exact h pins s σ H x y v u Q I rx ry q
 ·exact h' pins s σ H x y v u Q I rx ry q
theorem zea (b : Expr) {op : CmpOp} (h : op ≠ .In:=by decide) (h2 : op ≠ .NotIn:=by decide) : behindInMarks op b = false:=by
 have e1 : (op == CmpOp.In) = false:=by cases op <;> first | rfl | exact absurd rfl h
 have e2 : (op == CmpOp.NotIn) = false:=by cases op <;> first | rfl | exact absurd rfl h2
 cases b <;> simp [behindInMarks, e1, e2]
theorem zamv {op : CmpOp} {r : R2} (ho : OpR X (compareOp op) r) (ha : PE X a ta) (hb : PE X b tb) (hm : behindInMarks op b = false) : PE X (.Compare a [op] [b] pos) (tOp r ta tb):=by
 intro pins s σ H Q I h
 exact wpAny_Compare1 (binT ha hb I h fun v u s2 x y H2 I2 rx ry q=>ho pins s2 σ H2 x y v u Q I2 rx ry q) hm
noncomputable def tTest (t : TE) : TT:=fun σ H Q=>t σ H fun x H'=>∃ k, x = .bl k ∧ Q k H'
theorem zafl {op : CmpOp} {r : R2} (ho : OpR X (compareOp op) r) (ha : PE X a ta) (hb : PE X b tb) (hm : behindInMarks op b = false) : PT X (.Compare a [op] [b] pos) (tTest (tOp r ta tb)):=by
 intro pins s σ H Q I h
 refine wpAny_isTrue_Compare1 (thn (ha pins s σ H _ I h) fun v s1 ⟨x, H1, I1, r1, q1⟩=>thn (hb pins s1 σ H1 _ I1 q1) fun u s2 ⟨y, H2, I2, r2, q2⟩ =>
  thn (ho pins s2 σ H2 x y v u _ I2 r1 r2 q2) fun c s3 ⟨z, H3, I3, r3, k, e, q3⟩=>?_) hm
 subst e
 cases r3
 exact wpAny_truthy_bool ⟨H3, I3, q3⟩
noncomputable def TruV (K : PySem.W.Frag) (x : V) (H : Hp) (k : Bool) : Prop :=
 match x with
 | .non=>k = false
 | .bl b=>k = b
 | .int i=>k = (i != 0)
 | .str y=>y.length ≤ sizeLine ∧ k = ((y.length : Int) != 0)
 | .byt y=>y.size ≤ sizeLine ∧ k = ((y.size : Int) != 0)
 | .ref p=>(∃ xs, SqL K H p xs ∧ k = !xs.isEmpty) ∨ (∃ xs, SqT K H p xs ∧ k = !xs.isEmpty) ∨ ∃ kvs, H p = some (.dK kvs) ∧ k = !kvs.isEmpty
 | _=>False
theorem zadz {κ : Type} {kvs : List (κ × V)} {vs : List (κ × Value)} (r : KV kvs vs) : (!vs.isEmpty) = !kvs.isEmpty:=by
 cases r <;> rfl
theorem zty {xs : List V} {its : List Value} (r : Vals xs its) : (!its.toArray.isEmpty) = !xs.isEmpty:=by
 cases r <;> simp
theorem zwx : (sizeLine : Nat) < 2 ^ 63:=by rw [sizeLine_eq]; decide
theorem zapm : TruR X (fun x H Q=>∃ k, TruV X.K x H k ∧ Q k H):=by
 intro pins s σ H x v Q I rx h
 obtain ⟨k, e, q⟩:=h
 have hl:=zwx
 have hs : sizeLine = 16777216:=sizeLine_eq
 cases x with
 | non =>
  cases rx
  have e' : k = false:=e
  subst e'
  exact truthy_none ⟨H, I, q⟩
 | bl b =>
  cases rx
  have e' : k = b:=e
  subst e'
  exact wpAny_truthy_bool ⟨H, I, q⟩
 | int i =>
  obtain ⟨t, rfl⟩:=rx
  have e' : k = (i != 0):=e
  subst e'
  exact PySem.P.truthy_int ⟨H, I, q⟩
 | str y =>
  obtain ⟨t, rfl⟩:=rx
  obtain ⟨hy, e'⟩ : y.length ≤ sizeLine ∧ k = ((y.length : Int) != 0):=e
  subst e'
  exact PySem.P.truthy_str (by omega) ⟨H, I.tok _, q⟩
 | byt y =>
  obtain ⟨t, rfl⟩:=rx
  obtain ⟨hy, e'⟩ : y.size ≤ sizeLine ∧ k = ((y.size : Int) != 0):=e
  subst e'
  exact PySem.W.truthy_bytes (by omega) ⟨H, I.tok _, q⟩
 | ref p =>
  cases rx
  have e' : (∃ xs, SqL X.K H p xs ∧ k = !xs.isEmpty) ∨ (∃ xs, SqT X.K H p xs ∧ k = !xs.isEmpty) ∨ ∃ kvs, H p = some (.dK kvs) ∧ k = !kvs.isEmpty:=e
  rcases e' with ⟨xs, hx, e'⟩ | ⟨xs, hx, e'⟩ | ⟨kvs, hx, e'⟩
  ·subst e'
   obtain ⟨its, r, pl, hz⟩:=I.list hx
   have hlen:=r.length
   exact wpAny_truthy_list pl.isList (by simp only [List.size_toArray]; omega) ⟨H, I.tok _, by rw [zty r]; exact q⟩
  ·subst e'
   obtain ⟨its, r, pl, hz⟩:=I.tuple hx
   have hlen:=r.length
   exact truthy_tuple pl (by simp only [List.size_toArray]; omega) ⟨H, I.tok _, by rw [zty r]; exact q⟩
  ·subst e'
   obtain ⟨hz, hS, vs, r, m⟩ : kvs.length ≤ sizeLine ∧ (p == sysModules) = false ∧ ∃ vs, KV kvs vs ∧ s.heap.DictOf (zdd X.prog X.w) p vs:=I.hok p _ hx
   have hlen : kvs.length = vs.length:=Paired.length r
   exact wpAny_truthy_dict hS m (by omega) ⟨H, I.tok _, by rw [zadz r]; exact q⟩
 | _=>exact (show False from e).elim
theorem zajk (ha : PE X a ta) (he : ∀ whole, isTrue a X.env whole = (do let v ← whole; standAt a.pos; holding [v] (truthy v))) :
  PT X a (fun σ H Q=>ta σ H fun x H'=>∃ k, TruV X.K x H' k ∧ Q k H'):=by
 intro pins s σ H Q I h
 exact isTrue_plain (thn (ha pins s σ H _ I h) fun v s1 ⟨x, H1, I1, r1, q1⟩=>zapm pins s1 σ H1 x v Q I1 r1 q1) (he _)
theorem zaea : OpR X (binaryOp .Add) (fun x y H Q=>∃ i j, x = .str i ∧ y = .str j ∧ i.length + j.length ≤ sizeLine ∧ Q (.str (i ++ j)) H):=by
 intro pins s σ H x y v u Q I rx ry h
 obtain ⟨i, j, rfl, rfl, hz, q⟩:=h
 obtain ⟨t, rfl⟩:=rx
 obtain ⟨t', rfl⟩:=ry
 exact add_str (fun t' tk=>⟨.str (i ++ j), H, I.tok _, ⟨_, rfl⟩, q⟩) hz
theorem zaah {x : V} {us : List Value} (r : Vals [x] us) : ∃ u, us = [u] ∧ RelV x u:=by
 cases r with
 | cons r1 r2=>cases r2; exact ⟨_, rfl, r1⟩
theorem zajl {x y : V} {us : List Value} (r : Vals [x, y] us) : ∃ u w', us = [u, w'] ∧ RelV x u ∧ RelV y w':=by
 cases r with
 | cons r1 r2 =>
  cases r2 with
  | cons r3 r4=>cases r4; exact ⟨_, _, rfl, r1, r3⟩
theorem zafm (hc : X.calm = true) : CallR X (.builtin "min") (fun xs H Q=>∃ i j, xs = [.int i, .int j] ∧ Q (.int (if j < i then j else i)) H):=by
 intro pins s σ H xs us Q I r h
 obtain ⟨i, j, rfl, q⟩:=h
 obtain ⟨u, w', rfl, ⟨t, rfl⟩, ⟨t', rfl⟩⟩:=zajl r
 refine min_two_ints (I.ok.hd hc) fun h' tk k=>⟨_, H, I.kept k, ?_, q⟩
 by_cases hj : j < i
 ·rw [if_pos hj, if_pos hj]; exact ⟨_, rfl⟩
 ·rw [if_neg hj, if_neg hj]; exact ⟨_, rfl⟩
noncomputable def LenV (K : PySem.W.Frag) (x : V) (H : Hp) (n : Nat) : Prop :=
 match x with
 | .str y=>y.length ≤ sizeLine ∧ n = y.length
 | .byt y=>y.size ≤ sizeLine ∧ n = y.size
 | .ref p=>(∃ xs, SqL K H p xs ∧ n = xs.length) ∨ ∃ xs, SqT K H p xs ∧ n = xs.length
 | _=>False
theorem zajm : CallR X (.builtin "len") (fun xs H Q=>∃ x n, xs = [x] ∧ LenV X.K x H n ∧ Q (.int n) H):=by
 intro pins s σ H xs us Q I r h
 obtain ⟨x, n, rfl, e, q⟩:=h
 obtain ⟨u, rfl, rx⟩:=zaah r
 have hl:=zwx
 have hs : sizeLine = 16777216:=sizeLine_eq
 cases x with
 | str y =>
  obtain ⟨t, rfl⟩:=rx
  obtain ⟨hy, e'⟩ : y.length ≤ sizeLine ∧ n = y.length:=e
  subst e'
  exact len_str (by omega) ⟨.int _, H, I.tok _, ⟨_, rfl⟩, q⟩
 | byt y =>
  obtain ⟨t, rfl⟩:=rx
  obtain ⟨hy, e'⟩ : y.size ≤ sizeLine ∧ n = y.size:=e
  subst e'
  exact PySem.W.len_bytes (by omega) ⟨.int _, H, I.tok _, ⟨_, rfl⟩, q⟩
 | ref p =>
  cases rx
  have e' : (∃ xs, SqL X.K H p xs ∧ n = xs.length) ∨ ∃ xs, SqT X.K H p xs ∧ n = xs.length:=e
  rcases e' with ⟨xs, hx, e'⟩ | ⟨xs, hx, e'⟩
  ·subst e'
   obtain ⟨its, r', pl, hz⟩:=I.list hx
   have hlen:=r'.length
   exact Calls.call_len_list pl.isList (by simp only [List.size_toArray]; omega) ⟨.int xs.length, H, I.tok _, ⟨_, by simp only [List.size_toArray]; rw [hlen]⟩, q⟩
  ·subst e'
   obtain ⟨its, r', pl, hz⟩:=I.tuple hx
   have hlen:=r'.length
   exact len_tuple pl (by simp only [List.size_toArray]; omega) ⟨.int xs.length, H, I.tok _, ⟨_, by simp only [List.size_toArray]; rw [hlen]⟩, q⟩
 | _=>exact (show False from e).elim
end
end L2
namespace L2
open PySem PySem.Spec PyProof.Rows
set_option genInjectivity false in
structure ObjM (h : Heap) (x dx C : Addr) (mA : Str → Option Value) : Prop where
 obj : h.get? x = some (PySem.W.instObj C dx)
 ns : h.Ns1 dx mA
 ne : dx ≠ x
theorem zafn {h : Heap} {dx : Addr} {mA : Str → Option Value} (n : h.Ns1 dx mA) : ∃ od, h.get? dx = some od ∧ ∀ name, PySem.W.lookIn name od = some (mA name):=by
 obtain ⟨o, es, ep, ho, hd, hk, _, hm⟩:=n
 refine ⟨o, ho, fun name=>?_⟩
 have e:=hm name
 unfold nsFind findBy at e
 rw [← Array.find?_toList] at e
 unfold PySem.W.lookIn
 rw [hd]
 dsimp only
 split
 ·rename_i y q
  rw [q] at e
  exact congrArg some e
 ·rename_i q
  rw [q] at e
  have a : es.toList.any (·.refKey) = false:=by
   rw [List.any_eq_false]
   intro y hy
   obtain ⟨z, t, hkey⟩:=hk y (Array.mem_toList_iff.mp hy)
   simp [DictEntry.refKey, hkey]
  have a' : ¬ es.toList.any (·.refKey) = true:=by rw [a]; exact Bool.false_ne_true
  rw [if_neg a']
  exact congrArg some e
theorem ObjM.look {h : Heap} {x dx C : Addr} {mA : Str → Option Value} (I : ObjM h x dx C mA) : ∃ od, PySem.W.InstAt h x (PySem.W.instObj C dx) C (some od) ∧ ∀ name, PySem.W.lookIn name od = some (mA name) :=
 let ⟨od, ho, hl⟩:=zafn I.ns
 ⟨od, ⟨I.obj, rfl, rfl, ho⟩, hl⟩
section
variable {prog : Program} {w : World} {A : Around} {E : Value → Shared → Prop} {s : Shared} {K : PySem.W.Frag} {x dx C f : Addr} {mA : Str → Option Value} {name : Str} {v : Value}
end
theorem RelO.some_of {v : V} {o : Option Value} (r : RelO (some v) o) : ∃ u, o = some u ∧ RelV v u:=by
 cases o with
 | none=>exact (show False from r).elim
 | some u=>exact ⟨u, rfl, r⟩
section
variable {P : Program} {w : World} {H H' : Hp} {h h' : Heap} {a C dx : Addr} {fs fs' : List (Str × V)}
theorem zamw (hok : HOk P w H h) (e : H a = some (.ins C dx fs)) : ∃ mA, ObjM h a dx C mA ∧ (∀ f, RelO (fs.lookup f) (mA f)) ∧ PySem.Within mA (fs.map (·.1)) ∧ fs.length ≤ 1000 ∧ H dx = some (.own a):=by
 obtain ⟨d, z, ne, ob, mA, n, r, q⟩:=(show zgq P w H h a (.ins C dx fs) from hok a _ e)
 exact ⟨mA, ⟨ob, n, ne⟩, r, q, z, d⟩
end
set_option genInjectivity false in
structure Cls (K : PySem.W.Frag) (C : Addr) : Prop where
 pg : PySem.W.plainGet K C Str.empty = true
 hd : PySem.W.hasDictIn K C = true
 po : PySem.W.plainOver K C = true
 sa : PySem.W.findIn K (.ref C) "__setattr__" = some (some (.builtin "object.__setattr__"))
theorem Cls.get {K : PySem.W.Frag} {C : Addr} (c : Cls K C) (f : Str) : PySem.W.plainGet K C f = true:=c.pg
set_option genInjectivity false in
set_option genInjectivity false in
section
variable {X : Cx} {pins : List (Addr × Obj)} {σ : St} {H : Hp} {s : Shared} {a C dx : Addr} {fs : List (Str × V)} {f : Str} {v : V} {A : Around} {E : Value → Shared → Prop}
end
section
variable {X : Cx} {o e value : Expr} {f : Str} {pos pos' tpos : Pos} {ta tv : TE}
end
section
variable {X : Cx} {pins : List (Addr × Obj)} {σ : St} {H : Hp} {s : Shared} {A : Around} {E : Value → Shared → Prop} {Q : Value → Shared → Prop} {c : Value} {b : Bool}
inductive TyOf (K : PySem.W.Frag) (H : Hp) : V → Value → Prop where
 | non : TyOf K H .non (.type "NoneType")
 | bl (x : Bool) : TyOf K H (.bl x) (.type "bool")
 | int (i : Int) : TyOf K H (.int i) (.type "int")
 | str (x : Str) : TyOf K H (.str x) (.type "str")
 | flt (x : UInt64) : TyOf K H (.flt x) (.type "float")
 | lst {a : Addr} {xs : List V} (e : H a = some (.lst xs)) : TyOf K H (.ref a) (.type "list")
 | frz {a : Addr} {o : Obj} {xs : List V} (e : H a = some (.frz o (.lst xs))) : TyOf K H (.ref a) (.type "list")
 | tup {a : Addr} {xs : List V} (e : H a = some (.tup xs)) : TyOf K H (.ref a) (.type "tuple")
 | dK {a : Addr} {kvs : List (Key × V)} (e : H a = some (.dK kvs)) : TyOf K H (.ref a) (.type "dict")
 | dT {a : Addr} {kvs : List (List Key × V)} (e : H a = some (.dT kvs)) : TyOf K H (.ref a) (.type "dict")
 | ins {a C dx : Addr} {fs : List (Str × V)} (e : H a = some (.ins C dx fs)) (cl : Cls K C) (ha : PySem.W.findIn K (.ref C) "__class__" = some (some (.builtin "object.__class__")))
   (hn : PySem.W.specialIn K (.builtin "object.__class__") "__get__" = some (some (.builtin "getset_descriptor.__get__"))) (htk : PySem.W.takesIn K (.builtin "object.__class__") = some true)
   (hm : PySem.W.mroIn K C (.type "object") = some true) : TyOf K H (.ref a) (.ref C)
theorem zafo {x : V} {u t : Value} (I : Inv X pins σ H s) (rx : RelV x u) (ty : TyOf X.K H x t) (e : PySem.W.kitOne X.K t c = some b) (h : ∀ tk, Q (.bool b) { s with toks:=tk }) :
  wpAny (model X.prog X.w) A (call (.builtin "isinstance") [u, c]) Q E s:=by
 cases ty with
 | non=>cases (show u = Value.none from rx); exact PySem.W.kia_one PySem.W.kitx_none I.kIn True.intro e (fun z=>nomatch z) h
 | bl y=>cases (show u = Value.bool y from rx); exact PySem.W.kia_one PySem.W.kitx_bool I.kIn True.intro e (fun z=>nomatch z) h
 | int i=>obtain ⟨t, q⟩:=(show ∃ t, u = Value.int i t from rx); cases q; exact PySem.W.kia_one PySem.W.kitx_int I.kIn True.intro e (fun z=>nomatch z) h
 | str y=>obtain ⟨t, q⟩:=(show ∃ t, u = Value.str y t from rx); cases q; exact PySem.W.kia_one PySem.W.kitx_str I.kIn True.intro e (fun z=>nomatch z) h
 | flt y=>obtain ⟨t, q⟩:=(show ∃ t, u = Value.float y t from rx); cases q; exact PySem.W.kia_one PySem.W.kitx_float I.kIn True.intro e (fun z=>nomatch z) h
 | @lst a xs ea =>
  cases (show u = Value.ref a from rx)
  obtain ⟨_, _, n, _, h1⟩:=(show zgq X.prog X.w H s.heap a (.lst xs) from I.hok a _ ea)
  exact PySem.W.kia_one PySem.W.kitx_list I.kIn ⟨_, h1, rfl⟩ e (fun z=>nomatch z) h
 | @frz a ob xs ea =>
  cases (show u = Value.ref a from rx)
  obtain ⟨_, _, _, n, _, h1⟩:=(show zgq X.prog X.w H s.heap a (.frz ob (.lst xs)) from I.hok a _ ea)
  exact PySem.W.kia_one PySem.W.kitx_list I.kIn ⟨_, h1, rfl⟩ e (fun z=>nomatch z) h
 | @tup a xs ea =>
  cases (show u = Value.ref a from rx)
  obtain ⟨_, _, _, p⟩:=(show zgq X.prog X.w H s.heap a (.tup xs) from I.hok a _ ea)
  obtain ⟨o, h1, h2, _⟩:=p
  exact PySem.W.kia_one PySem.W.kitx_tuple I.kIn ⟨o, h1, h2⟩ e (fun z=>nomatch z) h
 | @dK a kvs ea =>
  cases (show u = Value.ref a from rx)
  obtain ⟨_, _, vs, _, p⟩:=(show zgq X.prog X.w H s.heap a (.dK kvs) from I.hok a _ ea)
  obtain ⟨o, es, ep, h1, h2, _⟩:=p
  exact PySem.W.kia_one PySem.W.kitx_dict I.kIn ⟨o, h1, h2.1⟩ e (fun z=>nomatch z) h
 | @dT a kvs ea =>
  cases (show u = Value.ref a from rx)
  obtain ⟨_, _, xs, _, o, es, ep, h1, h2, _⟩:=(show zgq X.prog X.w H s.heap a (.dT kvs) from I.hok a _ ea)
  exact PySem.W.kia_one PySem.W.kitx_dict I.kIn ⟨o, h1, h2.1⟩ e (fun z=>nomatch z) h
 | @ins a C dx fs ea cl ha hn htk hm =>
  cases (show u = Value.ref a from rx)
  obtain ⟨mA, O, _⟩:=zamw I.hok ea
  obtain ⟨od, J, _⟩:=O.look
  exact PySem.W.kia_one (PySem.W.kitx_own (cl.get _) cl.hd ha hn htk hm) I.kIn J e (fun z=>nomatch z) h
end
end L2
namespace L2
open PySem PySem.Spec PyProof.Rows
set_option genInjectivity false in
structure Room (k : Nat) (A : Around) : Prop where
 hd : A.handled = none
 dp : A.depth + 3 * k + 5 < recursionLimit
 un : A.units + 16 * k + 200 < cLine
theorem Room.mono {j k : Nat} {A : Around} (r : Room k A) (h : j ≤ k) : Room j A:=⟨r.hd, by have:=r.dp; omega, by have:=r.un; omega⟩
theorem Room.deeper {k : Nat} {A : Around} (r : Room (k + 1) A) (env : Env) : Room k (A.deeper env) :=
 ⟨r.hd, by have:=r.dp; show A.depth + 1 + 3 * k + 5 < _; omega, by have:=r.un; show A.units + 3 + 16 * k + 200 < _; omega⟩
theorem Room.depth {k : Nat} {A : Around} (r : Room k A) : A.depth < recursionLimit:=by have:=r.dp; omega
theorem Room.units {k : Nat} {A : Around} (r : Room k A) : A.units + 64 < cLine:=by have:=r.un; omega
noncomputable def tNil : TA:=fun _ H Q=>Q [] H
noncomputable def tCons (ta : TE) (tr : TA) : TA:=fun σ H Q=>ta σ H fun x H1=>tr σ H1 fun xs H2=>Q (x :: xs) H2
section
variable {X : Cx} {e : Expr} {es : List Expr} {te : TE} {t : TA} {pos : Pos}
theorem ztz : PA X [] tNil:=fun _ _ _ _ H Q I h=>Calls.spliced_nil ⟨[], H, I, .nil, h⟩
theorem zra (ha : PE X e te) (hr : PA X es t) (hs : starEach (e :: es) X.env = (false, eval e X.env) :: starEach es X.env:=by rfl) : PA X (e :: es) (tCons te t):=by
 intro pos pins s σ H Q I h
 rw [hs]
 show wpAny _ _ (spliced ((false, eval e X.env) :: backTo pos (starEach es X.env))) _ _ s
 refine Calls.spliced_cons (thn (ha pins s σ H _ I h) fun u s1 ⟨x, H1, I1, r1, q1⟩=>?_)
 exact thn (hr pos pins s1 σ H1 _ I1 q1) fun us s2 ⟨xs, H2, I2, r2, q2⟩=>⟨x :: xs, H2, I2, .cons r1 r2, q2⟩
noncomputable def tTup (t : TA) : TE:=fun σ H Q=>t σ H fun xs H1=>xs.length ≤ sizeLine ∧ ∀ p, H1 p = none → Q (.ref p) (upd H1 p (.tup xs))
noncomputable def tLst (t : TA) : TE:=fun σ H Q=>t σ H fun xs H1=>xs.length ≤ sizeLine ∧ ∀ p, H1 p = none → Q (.ref p) (upd H1 p (.lst xs))
theorem zapn {x1} (h : PA X es t) : PE X (.Tuple es x1 pos) (tTup t):=by
 intro pins s σ H Q I hq
 refine wpAny_Tuple_spliced (thn (h pos pins s σ H _ I hq) fun us s1 ⟨xs, H1, I1, r, z, q⟩=>⟨by rw [← r.length]; exact z, ?_⟩)
 have hf : H1 s1.heap.objs.size = none:=I1.hok.fresh (Nat.le_refl _)
 refine ⟨.ref s1.heap.objs.size, upd H1 s1.heap.objs.size (.tup xs), I1.laid (t':=s1.toks) (fun b u e=>Heap.get?_push_of_some _ e) (Nat.le_refl _) ?_, rfl, q _ hf⟩
 exact ⟨z, us, r, ⟨_, Heap.get?_push_size _ rfl, rfl, _, rfl⟩⟩
theorem zalt (h : PA X es t) : PE X (.List es pos) (tLst t):=by
 intro pins s σ H Q I hq
 refine wpAny_List_spliced (thn (h pos pins s σ H _ I hq) fun us s1 ⟨xs, H1, I1, r, z, q⟩=>⟨by rw [← r.length]; exact z, ?_⟩)
 have hf : H1 s1.heap.objs.size = none:=I1.hok.fresh (Nat.le_refl _)
 refine ⟨.ref s1.heap.objs.size, upd H1 s1.heap.objs.size (.lst xs), I1.laid (t':=s1.toks) (fun b u e=>Heap.get?_push_of_some _ e) (Nat.le_refl _) ?_, rfl, q _ hf⟩
 exact ⟨z, us, 0, r, Heap.get?_push_size _ rfl⟩
end
noncomputable abbrev Sp:=List V → Hp → VK → XK → Prop
noncomputable abbrev CXT:=List Env → Hp → Shared → XK → Value → Shared → Prop
set_option genInjectivity false in
structure Env0 (P : Program) (w : World) (K : PySem.W.Frag) (mg : Str → Option Value) (base : Heap) (A : Around) (outer : List Env) (s : Shared) (H : Hp) : Prop where
 frames : A.frames = some outer
 mod : Mod K mg base
 bs : ∀ b o, base.get? b = some o → s.heap.get? b = some o ∧ H b = none
 bsz : base.objs.size ≤ s.heap.objs.size
 funs : s.heap.FunFrames base outer
 frf : ∀ b ∈ frs outer, H b = none
 hok : HOk P w H s.heap
 bare : AllBare s.gens
noncomputable def CE (outer : List Env) (P : Program) (w : World) (H : Hp) (s : Shared) (Q : VK) (u : Value) (s' : Shared) : Prop :=
 ∃ v H', s'.os = s.os ∧ AllBare s'.gens ∧ Un (frs outer) [] H H' s.heap s'.heap ∧ HOk P w H' s'.heap ∧ RelV v u ∧ Q v H'
noncomputable def CR (CX : CXT) (outer : List Env) (P : Program) (w : World) (H : Hp) (s : Shared) (Q : VK) (E : XK) (r : Result) (s' : Shared) : Prop :=
 match r with
 | .ok (.ret u)=>CE outer P w H s Q u s'
 | .ok _=>False
 | .error e=>CX outer H s E e s'
set_option genInjectivity false in
structure FnOk (P : Program) (w : World) (K : PySem.W.Frag) (mg : Str → Option Value) (base : Heap) (CX : CXT) (k : Nat) (f : Addr) (fd : FuncData) (ps : List Str) (sp : Sp) : Prop where
 len : ∀ vs H Q E, sp vs H Q E → vs.length = ps.length
 run : ∀ (A : Around) (outer : List Env) (s : Shared) (H : Hp) (args : Args) (us : List Value) (vs : List V) (Q : VK) (E : XK), Room k A → Env0 P w K mg base A outer s H → BindsTo s fd args (ps.zip us) → Vals vs us → sp vs H Q E →
  codeAny (model P w) A (.call (.ref f) args) (CR CX outer P w H s Q E) s
section
variable {X : Cx} {pins : List (Addr × Obj)} {σ : St} {H : Hp} {s s' : Shared}
theorem Inv.env0 (I : Inv X pins σ H s) : Env0 X.prog X.w X.K X.mg X.base X.A X.stack s H :=
 ⟨I.ok.frames, I.ok.mod, I.bs, Nat.le_trans I.ok.bsz I.sz, I.stack, I.stkFree, I.hok, I.bare⟩
theorem Inv.after {Q : VK} {u : Value} (I : Inv X pins σ H s) (h : CE X.stack X.prog X.w H s Q u s') : EP X pins σ Q u s':=by
 obtain ⟨v, H', os, bare, un, hok, r, q⟩:=h
 obtain ⟨hh, g, d, t, os'⟩:=s'
 obtain rfl : os' = s.os:=os
 exact ⟨v, H', I.call (h':=hh) (g':=g) (d':=d) (t':=t) (ch:=[]) un hok bare (fun b z=>absurd z (by simp)), r, q⟩
end
noncomputable def tCall (sp : Sp) (dvs : List V) (E : XK) (t : TA) : TE:=fun σ H Q=>t σ H fun vs H1=>sp (vs ++ dvs) H1 Q E
noncomputable def zaeb (K : PySem.W.Frag) (fd : FuncData) (ps : List Str) (ds : List Value) : Prop :=
 ∀ (s : Shared) (us : List Value), K.In s.heap → (us ++ ds).length = ps.length → BindsTo s fd ⟨us, []⟩ (ps.zip (us ++ ds))
theorem zaeb.all {K : PySem.W.Frag} {fd : FuncData} {ps : List Str} (h : ∀ us : List Value, us.length = ps.length → bindArgs fd ⟨us, []⟩ = pure (ps.zip us)) : zaeb K fd ps []:=fun s us _ hl=>by
 rw [List.append_nil] at hl ⊢
 exact .of_eq (h us hl)
noncomputable def zafp (CX : CXT) (X : Cx) (E : XK) : Prop:=∀ (pins : List (Addr × Obj)) (σ : St) (H : Hp) (s : Shared) (e : Value) (s' : Shared), Inv X pins σ H s → CX X.stack H s E e s' → X.xe e s'
section
variable {X : Cx} {CX : CXT} {k : Nat} {f C : Addr} {fd : FuncData} {ps : List Str} {sp : Sp} {dvs : List V} {ds : List Value} {E : XK} {x m : Str} {p pos apos : Pos} {e o : Expr} {es : List Expr} {ta : TE} {t : TA}
theorem zapo {pins : List (Addr × Obj)} {σ : St} {H : Hp} {s : Shared} {Q : VK} {us : List Value} {vs : List V} (F : FnOk X.prog X.w X.K X.mg X.base CX k f fd ps sp) (hr : Room k X.A) (hb : zaeb X.K fd ps ds) (hd : Vals dvs ds) (hx : zafp CX X E)
  (I : Inv X pins σ H s) (r : Vals vs us) (h : sp (vs ++ dvs) H Q E) : wpAny (model X.prog X.w) X.A (call (.ref f) us) (EP X pins σ Q) X.xe s:=by
 have r2 : Vals (vs ++ dvs) (us ++ ds):=r.append hd
 have hl : (us ++ ds).length = ps.length:=by rw [← r2.length]; exact F.len _ _ _ _ h
 refine wpAny_call (codeAny_mono (F.run X.A X.stack s H ⟨us, []⟩ (us ++ ds) (vs ++ dvs) Q E hr I.env0 (hb s us I.kIn hl) r2 h) fun r s' hq=>?_)
 cases r with
 | error e=>exact hx pins σ H s e s' I hq
 | ok fl =>
  cases fl with
  | ret u=>exact I.after hq
  | next=>exact False.elim hq
  | brk=>exact False.elim hq
  | cont=>exact False.elim hq
theorem zamx (F : FnOk X.prog X.w X.K X.mg X.base CX k f fd ps sp) (hr : Room k X.A) (hg : Gl X x) (hm : X.mg x = some (.ref f)) (hk : PySem.W.keepIn X.K (.ref f) = true) (hb : zaeb X.K fd ps ds) (hd : Vals dvs ds) (hx : zafp CX X E)
  (ha : PA X (e :: es) t) (hdb : (x == ("__debug__" : Str)) = false:=by decide) (he : starEach (e :: es) X.env = (false, eval e X.env) :: starEach es X.env:=by rfl) (hpl : (backTo pos (starEach es X.env)).any (·.1) = false:=by rfl) :
  PE X (.Call (.Name x p) (e :: es) [] pos) (tCall sp dvs E t):=by
 intro pins s σ H Q I h
 refine wpAny_Call_Name_kw (zamn I hg hm ?_ hdb)
 refine PySem.W.callWith_K (h₀:=X.base) I.ok.mod.kin hk (thn (ha pos pins s σ H _ I h) fun us s1 ⟨vs, H1, I1, r, q⟩=>⟨I1.kIn, ?_⟩) he hpl
 exact zapo F hr hb hd hx I1 r q
set_option genInjectivity false in
end
section
variable {X : Cx} {CX : CXT} {k : Nat} {f C : Addr} {fd : FuncData} {ps ks : List Str} {sp : Sp} {E : XK} {x m : Str} {p pos apos kpos : Pos} {e o : Expr} {es : List Expr} {kws : List Keyword} {te ta : TE} {t tk : TA} {nm : Option Str}
set_option genInjectivity false in
variable {g : List Value → List Value → List Value} {gV : List V → List V → List V}
end
set_option genInjectivity false in
structure FnScope (N P : List Str) (sc : Scope) : Prop where
 kind : sc.kind = .function
 co : sc.isCoroutine = false
 gen : sc.isGenerator = false
 nd : N.Nodup
 pre : N.take P.length = P
 par : ∀ x ∈ P, sc.names.lookup x = some .local ∨ sc.names.lookup x = some .cell
 nofree : ∀ y ∈ sc.names, y.2 ≠ .free
theorem zwy {kindOf : Str → Option NameKind} {x : Str} : ∀ {binds : List (Str × Value)} {m : Str → Option Value}, (∀ v, (x, v) ∉ binds) → bindL kindOf binds m x = m x
 | [], _, _=>rfl
 | (n, v) :: r, m, h=>by
  unfold bindL
  rw [zwy fun w hw=>h w (List.mem_cons_of_mem _ hw)]
  split
  ·have : x ≠ n:=by rintro rfl; exact h v List.mem_cons_self
   simp [this]
  ·rfl
theorem zwz {kindOf : Str → Option NameKind} {x : Str} : ∀ {binds : List (Str × Value)} {m : Str → Option Value}, (∀ v, (x, v) ∉ binds) → bindC kindOf binds m x = m x
 | [], _, _=>rfl
 | (n, v) :: r, m, h=>by
  unfold bindC
  rw [zwz fun w hw=>h w (List.mem_cons_of_mem _ hw)]
  split
  ·rfl
  ·have : x ≠ n:=by rintro rfl; exact h v List.mem_cons_self
   simp [this]
theorem zxa {kindOf : Str → Option NameKind} {x : Str} {v : Value} : ∀ {P : List Str} {vs : List Value} {i : Nat} {m : Str → Option Value}, P.Nodup → P[i]? = some x → vs[i]? = some v → kindOf x = some .local →
  bindL kindOf (P.zip vs) m x = some v
 | [], _, _, _, _, h, _, _=>by simp at h
 | _ :: _, [], _, _, _, _, h, _=>by simp at h
 | p :: P, w :: vs, 0, m, nd, h1, h2, hk=>by
  simp at h1 h2; subst h1; subst h2
  show bindL kindOf ((p, w) :: P.zip vs) m p = _
  unfold bindL
  rw [zwy fun v hv=>(List.nodup_cons.mp nd).1 (List.of_mem_zip hv).1, if_pos hk]
  simp
 | p :: P, w :: vs, i + 1, m, nd, h1, h2, hk=>by
  show bindL kindOf ((p, w) :: P.zip vs) m x = _
  unfold bindL
  exact zxa (i:=i) (List.nodup_cons.mp nd).2 (by simpa using h1) (by simpa using h2) hk
theorem zxb {kindOf : Str → Option NameKind} {x : Str} {v : Value} : ∀ {P : List Str} {vs : List Value} {i : Nat} {m : Str → Option Value}, P.Nodup → P[i]? = some x → vs[i]? = some v → kindOf x ≠ some .local →
  bindC kindOf (P.zip vs) m x = some v
 | [], _, _, _, _, h, _, _=>by simp at h
 | _ :: _, [], _, _, _, _, h, _=>by simp at h
 | p :: P, w :: vs, 0, m, nd, h1, h2, hk=>by
  simp at h1 h2; subst h1; subst h2
  show bindC kindOf ((p, w) :: P.zip vs) m p = _
  unfold bindC
  rw [zwz fun v hv=>(List.nodup_cons.mp nd).1 (List.of_mem_zip hv).1, if_neg hk]
  simp
 | p :: P, w :: vs, i + 1, m, nd, h1, h2, hk=>by
  show bindC kindOf ((p, w) :: P.zip vs) m x = _
  unfold bindC
  exact zxb (i:=i) (List.nodup_cons.mp nd).2 (by simpa using h1) (by simpa using h2) hk
noncomputable def zqe (N : List Str) (vs : List V) : St:=vs.map some ++ List.replicate (N.length - vs.length) none
noncomputable def cxOf (CX : CXT) (P : Program) (w : World) (K : PySem.W.Frag) (mg : Str → Option Value) (base : Heap) (N : List Str) (qual : Str) (scope : Scope) (f : Addr) (cd : Value) (A : Around) (outer : List Env) (s : Shared) (H : Hp) (E : XK) : Cx where
 prog:=P
 w:=w
 K:=K
 mg:=mg
 base:=base
 A:=A.deeper (envOfC qual scope s.heap.objs.size f cd)
 N:=N
 s₀:=s
 H₀:=H
 env:=envOfC qual scope s.heap.objs.size f cd
 outer:=outer
 stack:=envOfC qual scope s.heap.objs.size f cd :: outer
 ex:=[]
 calm:=true
 fn:=fun _=>true
 pn:=[]
 xe:=fun e s'=>wpAny (model P w) (A.deeper (envOfC qual scope s.heap.objs.size f cd)) (leaving (envOfC qual scope s.heap.objs.size f cd) e) (fun _ s''=>CX outer H s E e s'') (fun e' s''=>CX outer H s E e' s'') s'
theorem zuv {sc : Scope} {n : Nat} {x : Str} (h : sc.names.lookup x = some .cell) : ∃ c, (cellsFrom n sc.names []).lookup x = some c:=by
 have q:=PySem.W.cellsFrom_some sc.names n [] (.inl h)
 exact Option.isSome_iff_exists.mp q
theorem zafq {CX : CXT} {P : Program} {w : World} {K : PySem.W.Frag} {mg : Str → Option Value} {base : Heap} {N ps : List Str} {qual : Str} {scope : Scope} {f : Addr} {cd : Value} {A : Around} {outer : List Env} {s s1 : Shared} {H : Hp} {E : XK} {us : List Value} {vs : List V}
  (S : FnScope N ps scope) (hd : A.handled = none) (e0 : Env0 P w K mg base A outer s H) (hl : vs.length = ps.length) (r : Vals vs us)
  (x : InCallC s s.heap.objs.size (bindL (envOfC qual scope s.heap.objs.size f cd).kindOf (ps.zip us) fun _=>none) (cellsFrom (s.heap.objs.size + 1) scope.names []) (bindC (envOfC qual scope s.heap.objs.size f cd).kindOf (ps.zip us) fun _=>none) s1) :
  Inv (cxOf CX P w K mg base N qual scope f cd A outer s H E) [] (zqe N vs) H s1:=by
 have hpl : ps.length ≤ N.length:=by have:=congrArg List.length S.pre; rw [List.length_take] at this; omega
 obtain ⟨h1, tk, rfl, hk⟩:=x.done
 have noA : ∀ b : Addr, b ∉ (cxOf CX P w K mg base N qual scope f cd A outer s H E).ex:=fun b z=>absurd (show b ∈ ([] : List Addr) from z) (by simp)
 refine ⟨⟨e0.mod, S.kind, rfl, rfl, Nat.le_refl _, fun y z c h1 h2=>?_, fun y hy=>?_, fun y c _ h=>?_, fun _=>hd, Around.frames_deeper e0.frames, .inr ⟨rfl, rfl⟩, fun b z=>absurd z (noA b), e0.bs, e0.bsz, fun b _ _=>noA b, fun b z=>absurd z (noA b), e0.funs, e0.frf⟩,
  rfl, e0.bare, Un.kept hk, ⟨_, x.toInCall.ns, fun i y v h1 h2 h3=>?_⟩, fun y c h=>⟨_, x.cell y c h⟩, e0.hok.fresh (Nat.le_refl _), fun y c h=>?_, fun p hp=>absurd (show p ∈ ([] : List (Addr × Obj)) from hp) (by simp), e0.hok.kept hk, ?_⟩
 ·exact name_of_addr x.apart (PySem.mem_of_lookup h1) (PySem.mem_of_lookup h2)
 ·have hy : scope.names.lookup y = some .cell ∨ scope.names.lookup y = some .free:=hy
  rcases hy with hy | hy
  ·exact zuv hy
  ·exact absurd rfl (S.nofree _ (PySem.mem_of_lookup hy))
 ·exact Nat.le_of_lt (x.above y c (PySem.mem_of_lookup h))
 ·have hi : i < vs.length:=by
   unfold zqe at h2
   by_cases hi : i < vs.length
   ·exact hi
   ·rw [List.getElem?_append_right (by simpa using hi)] at h2
    rw [List.getElem?_replicate] at h2
    split at h2 <;> cases h2
  have ha : vs[i]? = some v:=by
   unfold zqe at h2
   rw [List.getElem?_append_left (by simpa using hi), List.getElem?_map] at h2
   cases e : vs[i]? with
   | none=>rw [e] at h2; cases h2
   | some a=>rw [e] at h2; cases h2; rfl
  obtain ⟨u, hu, rv⟩:=r.get ha
  have hp : ps[i]? = some y:=by
   rw [← S.pre, List.getElem?_take_of_lt (by omega)]; exact h1
  have ndP : ps.Nodup:=by rw [← S.pre]; exact S.nd.sublist (List.take_sublist _ _)
  refine ⟨u, rv, ?_⟩
  rcases S.par y (List.mem_of_getElem? hp) with k | k
  ·exact .inl ⟨k, zxa ndP hp hu k⟩
  ·obtain ⟨c, e⟩:=zuv (n:=s.heap.objs.size + 1) k
   refine .inr ⟨.inl k, c, e, ?_⟩
   have q:=x.cell y c e
   rw [zxb ndP hp hu (by show scope.names.lookup y ≠ _; rw [k]; decide)] at q
   exact q
 ·exact e0.hok.fresh (Nat.le_of_lt (x.above y c (PySem.mem_of_lookup h)))
 ·unfold zqe
  show _ = N.length
  rw [List.length_append, List.length_map, List.length_replicate]
  omega
theorem zarf {CX : CXT} {P : Program} {w : World} {K : PySem.W.Frag} {mg : Str → Option Value} {base : Heap} {k : Nat} {f : Addr} {name qual : Str} {params : Arguments} {body : List Stmt} {scope : Scope} {dV kV doc pm cdv ct oc : Value} {an od : Option Addr}
  {osl : Array (Option Value)} {N ps : List Str} {sp : Sp} (lk : K.lookup f = some ⟨oc, od, .func (PySem.W.fnOf name qual params body scope dV kV doc pm an cdv ct), osl⟩) (hcd : PySem.W.codeIn K cdv qual = true) (S : FnScope N ps scope)
  (len : ∀ vs H Q E, sp vs H Q E → vs.length = ps.length)
  (hbody : ∀ (A : Around) (outer : List Env) (s : Shared) (H : Hp) (vs : List V) (Q : VK) (E : XK), Room k (A.deeper (envOfC qual scope s.heap.objs.size f cdv)) → sp vs H Q E →
   ∃ t, PSs (cxOf CX P w K mg base N qual scope f cdv A outer s H E) body t ∧ t { nx:=fun _ H'=>Q .non H', rt:=Q } (zqe N vs) H) :
  FnOk P w K mg base CX (k + 1) f (PySem.W.fnOf name qual params body scope dV kV doc pm an cdv ct) ps sp:=by
 refine ⟨len, fun A outer s H args us vs Q E hr e0 hb r hsp=>?_⟩
 have hl:=len _ _ _ _ hsp
 have KX : K.In s.heap:=e0.mod.kin.keeps fun b o e=>(e0.bs b o e).1
 have lim : s.heap.NoLimit:=e0.mod.nolimit.keeps fun b o e=>(e0.bs b o e).1
 have hkind : ∀ y ∈ ps.zip us, scope.names.lookup y.1 = some .local ∨ (scope.names.lookup y.1 = some .cell ∧ ((cellsFrom (s.heap.objs.size + 1) scope.names []).lookup y.1).isSome = true):=fun ⟨n, v⟩ hy=>by
  rcases S.par n (List.of_mem_zip hy).1 with q | q
  ·exact .inl q
  ·exact .inr ⟨q, PySem.W.cellsFrom_some _ _ _ (.inl q)⟩
 refine codeAny_call_function hr.depth (KX _ _ lk) rfl S.co S.gen rfl (PySem.W.codeRec_of KX hcd) (hb _ _ _ _ ?_)
 refine wpAny_newFunctionEnv_cells S.kind hkind fun env he s1 x=>?_
 subst he
 refine ⟨lim.keeps x.toInCall.keep, codeAny_func ?_⟩
 obtain ⟨t, ht, hq⟩:=hbody A outer s H vs Q E (hr.deeper _) hsp
 have I : Inv (cxOf CX P w K mg base N qual scope f cdv A outer s H E) [] (zqe N vs) H s1:=zafq S hr.hd e0 hl r x
 refine wpAny_mono (ht [] s1 (zqe N vs) H _ I hq) (fun fl s' hs=>?_) fun e s' hs=>hs
 have fin : ∀ {σ' : St} {H' : Hp} {v : V} {u : Value}, Inv (cxOf CX P w K mg base N qual scope f cdv A outer s H E) [] σ' H' s' → RelV v u → Q v H' → CE outer P w H s Q u s' :=
  fun {σ' H' v u} J rv q=>⟨v, H', J.os, J.bare, J.base, J.hok, rv, q⟩
 cases fl with
 | ret u =>
  obtain ⟨v, σ', H', J, rv, q⟩:=hs
  exact fin J rv q
 | next =>
  obtain ⟨σ', H', J, q⟩:=hs
  exact fin (v:=V.non) (u:=Value.none) J rfl q
 | brk =>
  obtain ⟨_, _, _, q⟩:=hs
  exact False.elim q
 | cont =>
  obtain ⟨_, _, _, q⟩:=hs
  exact False.elim q
end L2
namespace L2
open PySem PySem.Spec PyProof.Rows
section
variable {X : Cx} {x : Str} {p pos : Pos} {e : Expr} {es : List Expr} {t : TA} {id T : String} {r : List V → Hp → VK → Prop}
noncomputable def tCB (r : List V → Hp → VK → Prop) (t : TA) : TE:=fun σ H Q=>t σ H fun vs H1=>r vs H1 Q
theorem zaby (hc : CallR X (.builtin id) r) (hg : Gl X x) (hm : X.mg x = none) (hv : bootBuiltins x = some (.builtin id)) (ha : PA X (e :: es) t) (hn : x ≠ "__name__":=by decide) (hdb : (x == ("__debug__" : Str)) = false:=by decide)
  (he : starEach (e :: es) X.env = (false, eval e X.env) :: starEach es X.env:=by rfl) (hpl : (backTo pos (starEach es X.env)).any (·.1) = false:=by rfl) : PE X (.Call (.Name x p) (e :: es) [] pos) (tCB r t):=by
 intro pins s σ H Q I h
 refine wpAny_Call_Name_kw (ztx I hg hm hv ?_ hn hdb)
 exact PyProof.Rows.callWith_builtin1 (thn (ha pos pins s σ H _ I h) fun us s1 ⟨vs, H1, I1, r1, q1⟩=>hc pins s1 σ H1 vs us Q I1 r1 q1) he hpl
theorem zafr (hc : CallR X (.type T) r) (hg : Gl X x) (hm : X.mg x = none) (hv : bootBuiltins x = some (.type T)) (ha : PA X (e :: es) t) (hn : x ≠ "__name__":=by decide) (hdb : (x == ("__debug__" : Str)) = false:=by decide)
  (he : starEach (e :: es) X.env = (false, eval e X.env) :: starEach es X.env:=by rfl) (hpl : (backTo pos (starEach es X.env)).any (·.1) = false:=by rfl) : PE X (.Call (.Name x p) (e :: es) [] pos) (tCB r t):=by
 intro pins s σ H Q I h
 refine wpAny_Call_Name_kw (ztx I hg hm hv ?_ hn hdb)
 exact PyProof.Rows.callWith_type1 (thn (ha pos pins s σ H _ I h) fun us s1 ⟨vs, H1, I1, r1, q1⟩=>hc pins s1 σ H1 vs us Q I1 r1 q1) he hpl
end
end L2
namespace HT
open PySem PyProof.Rows
section
open PySem.SeqAt
open PySem.AutoSeq1 (wpAny_loadPart')
open PySem.MeetsSeq PySem.MeetsSeq2 PySem.MeetsSeq3
end
section
variable {prog : Program} {w : World} {A : Around} {E : Value → Shared → Prop} {s : Shared}
theorem cat_tup {t b : Addr} {vs ws : List Value} {Q : Value → Shared → Prop} (ht : IsTup s.heap t vs.toArray) (hb : IsTup s.heap b ws.toArray) (hv : vs ≠ [])
  (h1 : ws = [] → Q (.ref t) s) (h2 : ws ≠ [] → Q (.ref s.heap.objs.size) { s with heap:=s.heap.push { cls:=.type "tuple", data:=.seq (vs ++ ws).toArray } })
  (hsz : vs.length + ws.length ≤ sizeLine) : wpAny (model prog w) A (binaryOp .Add (.ref t) (.ref b)) Q E s:=by
 obtain ⟨⟨cls, dd, data, sl⟩, ho, hc, n, hd⟩:=id ht
 obtain ⟨⟨cls2, dd2, data2, sl2⟩, ho2, hc2, n2, hd2⟩:=id hb
 simp only at hc hd hc2 hd2
 subst hc hd hc2 hd2
 have e : vs.toArray ++ ws.toArray = (vs ++ ws).toArray:=by simp
 by_cases hw : ws = []
 ·exact concat_meets ⟨_, ho, rfl⟩ ⟨_, ho2, rfl⟩ noFill_tuple_add seq_tuple_add PySem.F.slot_tuple_add PySem.F.entry_tuple_add (PySem.F.args_tuple_add_2 _ _)
   (tuple_addW1 t b vs.toArray ws.toArray n n2 dd dd2 sl sl2 (by simpa using hv) (by simp [hw])) ⟨ho, ho2, h1 hw⟩
 ·refine concat_meets ⟨_, ho, rfl⟩ ⟨_, ho2, rfl⟩ noFill_tuple_add seq_tuple_add PySem.F.slot_tuple_add PySem.F.entry_tuple_add (PySem.F.args_tuple_add_2 _ _)
   (tuple_addW2 t b vs.toArray ws.toArray n n2 dd dd2 sl sl2 (by simpa using hv) (by simpa using hw) (by rw [List.size_toArray, List.size_toArray]; exact hsz)) ⟨ho, ho2, ?_⟩
  rw [e]
  exact h2 hw
noncomputable def sIx (n d : Nat) : Option Int → Nat
 | none=>d
 | some v=>if v < 0 then (v + (n : Int)).toNat else min v.toNat n
theorem sIx_nat (n d k : Nat) : sIx n d (some (k : Int)) = min k n:=by
 show (if (k : Int) < 0 then ((k : Int) + (n : Int)).toNat else min (k : Int).toNat n) = min k n
 rw [if_neg (by omega), Int.toNat_natCast]
end
end HT
namespace L2
open PySem PySem.Spec PyProof.Rows
noncomputable abbrev TO:=St → Hp → (Option Int → Hp → Prop) → Prop
noncomputable def PO (X : Cx) (e : Option Expr) (t : TO) : Prop :=
 ∀ (pins : List (Addr × Obj)) (s : Shared) (σ : St) (H : Hp) (Q : Option Int → Hp → Prop), Inv X pins σ H s → t σ H Q →
  wpAny (model X.prog X.w) X.A (evalPart e X.env) (fun u s'=>∃ o H', Inv X pins σ H' s' ∧ IsPart u o ∧ Q o H') X.xe s
noncomputable def tNoPart : TO:=fun _ H Q=>Q none H
noncomputable def tPart (t : TE) : TO:=fun σ H Q=>t σ H fun x H1=>∃ i, x = .int i ∧ Q (some i) H1
section
variable {X : Cx} {e : Expr} {te : TE} {lo hi : Option Expr} {tl th : TO} {pos p2 : Pos}
theorem zafs : PO X none tNoPart:=by
 intro pins s σ H Q I h
 rw [evalPart_none]
 exact wpAny_pure ⟨none, H, I, .none, h⟩
theorem zaft (h : PE X e te) : PO X (some e) (tPart te):=by
 intro pins s σ H Q I hw
 rw [evalPart_some]
 refine thn (h pins s σ H _ I hw) fun u s1 ⟨x, H1, I1, r1, q1⟩=>?_
 obtain ⟨i, rfl, q⟩:=q1
 obtain ⟨t, rfl⟩:=r1
 exact ⟨some i, H1, I1, .int i t, q⟩
noncomputable def SlR (X : Cx) (r : V → Option Int → Option Int → Hp → VK → Prop) : Prop :=
 ∀ (pins : List (Addr × Obj)) (s : Shared) (σ : St) (H : Hp) (x : V) (v vl vu : Value) (lo hi : Option Int) (sl : Addr) (Q : VK), Inv X pins σ H s → RelV x v → s.heap.IsSliceOf sl vl vu .none → IsPart vl lo → IsPart vu hi → r x lo hi H Q →
  ∃ T id, typeLookup (.type T) "__getitem__" = pure (some (.builtin id)) ∧ s.TypeIs v T ∧ wpAny (model X.prog X.w) X.A (getItem v (.ref sl)) (EP X pins σ Q) X.xe s
noncomputable def tSl (r : V → Option Int → Option Int → Hp → VK → Prop) (te : TE) (tl th : TO) : TE:=fun σ H Q=>te σ H fun x H1=>tl σ H1 fun l H2=>th σ H2 fun u H3=>r x l u H3 Q
theorem zabz {r : V → Option Int → Option Int → Hp → VK → Prop} (hr : SlR X r) (he : PE X e te) (hl : PO X lo tl) (hu : PO X hi th) : PE X (.Subscript e (.Slice lo hi none p2) pos) (tSl r te tl th):=by
 intro pins s σ H Q I h
 refine Subscript_ (thn (he pins s σ H _ I h) fun v s1 ⟨x, H1, I1, r1, q1⟩=>?_)
 refine wpAny_Slice (thn (hl pins s1 σ H1 _ I1 q1) fun vl s2 ⟨l, H2, I2, pl, q2⟩=>thn (hu pins s2 σ H2 _ I2 q2) fun vu s3 ⟨u, H3, I3, pu, q3⟩=>?_)
 rw [evalPart_none]
 refine wpAny_pure ?_
 have I4 : Inv X pins σ H3 { s3 with heap:=s3.heap.push { cls:=.type "slice", data:=.fields #[vl, vu, .none] } }:=I3.kept (t':=s3.toks) fun b ob q=>Heap.get?_push_of_some _ q
 obtain ⟨T, id, hT, ht, hg⟩:=hr pins { s3 with heap:=s3.heap.push { cls:=.type "slice", data:=.fields #[vl, vu, .none] } } σ H3 x v vl vu l u s3.heap.objs.size Q I4 r1 (Heap.IsSliceOf.new ..) pl pu q3
 show wpAny (model X.prog X.w) X.A (subscriptTail e (.Slice lo hi none p2) v (.ref s3.heap.objs.size)) (EP X pins σ Q) X.xe { s3 with heap:=s3.heap.push { cls:=.type "slice", data:=.fields #[vl, vu, .none] } }
 exact tail_any (ops:=[.ref s3.heap.objs.size, v]) ht hT hg (by with_unfolding_all rfl)
noncomputable def cutV (xs : List V) (lo hi : Option Int) : List V:=(xs.drop (HT.sIx xs.length 0 lo)).take (HT.sIx xs.length xs.length hi - HT.sIx xs.length 0 lo)
theorem zaai (xs : List V) (lo hi : Option Int) : (cutV xs lo hi).length ≤ xs.length:=by
 unfold cutV
 rw [List.length_take, List.length_drop]
 omega
noncomputable def zapp (K : PySem.W.Frag) : R2:=fun x y H Q=>∃ a b xs ys, x = .ref a ∧ y = .ref b ∧ SqT K H a xs ∧ SqT K H b ys ∧ xs ≠ [] ∧ xs.length + ys.length ≤ sizeLine ∧
 (ys = [] → Q (.ref a) H) ∧ (ys ≠ [] → ∀ p, H p = none → Q (.ref p) (upd H p (.tup (xs ++ ys))))
theorem Vals.nil_iff {xs : List V} {us : List Value} (r : Vals xs us) : us = [] ↔ xs = []:=by
 cases r with
 | nil=>simp
 | cons _ _=>simp
theorem zamy : OpR X (binaryOp .Add) (zapp X.K):=by
 intro pins s σ H x y v u Q I rx ry h
 obtain ⟨a, b, xs, ys, rfl, rfl, ha, hb, hx, hz, q1, q2⟩:=h
 cases rx
 cases ry
 obtain ⟨its, r1, p1, _⟩:=I.tuple ha
 obtain ⟨its2, r2, p2, _⟩:=I.tuple hb
 refine HT.cat_tup p1 p2 (fun z=>hx (r1.nil_iff.mp z)) (fun z=>⟨.ref a, H, I, rfl, q1 (r2.nil_iff.mp z)⟩) (fun z=>?_) (by rw [← r1.length, ← r2.length]; exact hz)
 refine ⟨.ref s.heap.objs.size, _, I.laid (t':=s.toks) (o:=.tup (xs ++ ys)) (fun b ob q=>Heap.get?_push_of_some _ q) (Nat.le_refl _) ?_, rfl, q2 (fun w=>z (r2.nil_iff.mpr w)) _ (I.hok.fresh (Nat.le_refl _))⟩
 exact ⟨by rw [List.length_append]; exact hz, _, r1.append r2, IsTup.new _ _⟩
end
end L2
namespace L2
open PySem PySem.Spec PyProof.Rows
noncomputable def ixN (n : Nat) (i : Int) : Option Nat:=if 0 ≤ i then (if i < n then some i.toNat else none) else if -(n : Int) ≤ i then some (i + n).toNat else none
noncomputable def atI {α : Type} (xs : List α) (i : Int) : Option α:=(ixN xs.length i).bind fun j=>xs[j]?
theorem zamz {n : Nat} {i : Int} {j : Nat} (h : ixN n i = some j) : seqIndex? i n = some j ∧ j < n ∧ -(n : Int) ≤ i ∧ i < n:=by
 unfold ixN at h
 by_cases h0 : 0 ≤ i
 ·rw [if_pos h0] at h
  by_cases h1 : i < n
  ·rw [if_pos h1] at h
   have e : i.toNat = j:=Option.some.inj h
   exact ⟨by rw [seqIndex_of h0 h1, e], by omega, by omega, h1⟩
  ·rw [if_neg h1] at h; cases h
 ·rw [if_neg h0] at h
  by_cases h1 : -(n : Int) ≤ i
  ·rw [if_pos h1] at h
   have e : (i + n).toNat = j:=Option.some.inj h
   exact ⟨by rw [seqIndex_neg (by omega) h1, e], by omega, h1, by omega⟩
  ·rw [if_neg h1] at h; cases h
theorem zaaj {α : Type} {xs : List α} {i : Int} {v : α} (h : atI xs i = some v) : ∃ j, seqIndex? i xs.length = some j ∧ xs[j]? = some v ∧ j < xs.length ∧ -(xs.length : Int) ≤ i ∧ i < xs.length:=by
 unfold atI at h
 cases e : ixN xs.length i with
 | none=>rw [e] at h; cases h
 | some j =>
  rw [e] at h
  obtain ⟨h1, h2, h3, h4⟩:=zamz e
  exact ⟨j, h1, h, h2, h3, h4⟩
theorem zoo {α : Type} {xs : List α} {j : Nat} {v : α} (h : xs[j]? = some v) : atI xs (j : Int) = some v:=by
 have hj : j < xs.length:=(List.getElem?_eq_some_iff.mp h).1
 have e : ixN xs.length (j : Int) = some j:=by
  unfold ixN
  rw [if_pos (by omega), if_pos (by omega)]; simp
 unfold atI; rw [e]; exact h
noncomputable def PlainIx (b : Expr) : Prop:=∀ o i, subscripted b false o i = operate [o, i] (getItem o i)
noncomputable def IxR (X : Cx) (r : R2) : Prop :=
 ∀ (value slice : Expr) (pins : List (Addr × Obj)) (s : Shared) (σ : St) (H : Hp) (x y : V) (v u : Value) (Q : VK), Inv X pins σ H s → RelV x v → RelV y u → r x y H Q →
  subscripted slice false v u = operate [v, u] (getItem v u) → wpAny (model X.prog X.w) X.A (subscriptTail value slice v u) (EP X pins σ Q) X.xe s
noncomputable def MtR (X : Cx) (id : String) (r : V → List V → Hp → VK → Prop) : Prop :=
 ∀ (pins : List (Addr × Obj)) (s : Shared) (σ : St) (H : Hp) (x : V) (xs : List V) (v : Value) (us : List Value) (Q : VK), Inv X pins σ H s → RelV x v → Vals xs us → r x xs H Q →
  wpAny (model X.prog X.w) X.A (call (.builtin id) (v :: us)) (EP X pins σ Q) X.xe s
section
variable {X : Cx} {a b : Expr} {ta tb : TE} {pos : Pos}
theorem zapq {r : R2} (hr : IxR X r) (ha : PE X a ta) (hb : PE X b tb) (hs : PlainIx b) : PE X (.Subscript a b pos) (tOp r ta tb):=by
 intro pins s σ H Q I h
 exact Subscript_ (binT ha hb I h fun v u s2 x y H2 I2 rx ry q=>hr a b pins s2 σ H2 x y v u Q I2 rx ry q (hs _ _))
noncomputable def rIxL (K : PySem.W.Frag) : R2:=fun x y H Q=>∃ p xs i v, x = .ref p ∧ y = .int i ∧ SqL K H p xs ∧ atI xs i = some v ∧ Q v H
noncomputable def rIxT (K : PySem.W.Frag) : R2:=fun x y H Q=>∃ p xs i v, x = .ref p ∧ y = .int i ∧ SqT K H p xs ∧ atI xs i = some v ∧ Q v H
noncomputable def rIxS : R2:=fun x y H Q=>∃ z i c, x = .str z ∧ y = .int i ∧ z.length ≤ sizeLine ∧ atI z.cps.toList i = some c ∧ Q (.str ⟨#[c]⟩) H
theorem zana : IxR X (rIxL X.K):=by
 intro value slice pins s σ H x y v u Q I rx ry h hs
 obtain ⟨p, xs, i, z, rfl, rfl, hq, he, q⟩:=h
 cases rx
 obtain ⟨t, rfl⟩:=ry
 obtain ⟨its, r, pl, hz⟩:=I.list hq
 obtain ⟨j, h1, h2, h3, h4, h5⟩:=zaaj he
 obtain ⟨w, ew, rw'⟩:=r.get h2
 have hl:=r.length
 have hn:=zwx
 have fin : EP X pins σ Q w s:=⟨z, H, I, rw', q⟩
 by_cases h0 : 0 ≤ i
 ·have hj : i.toNat = j:=by
   rw [seqIndex_of h0 h5] at h1
   exact Option.some.inj h1
  exact item_listR pl.isList h0 (by omega) (by rw [hj]; simpa using ew) fin hs
 ·have hj : (i + (its.toArray.size : Int)).toNat = j:=by
   rw [seqIndex_neg (by omega) h4] at h1
   rw [List.size_toArray, ← hl]
   exact Option.some.inj h1
  exact subscriptTail_builtinR (x:=w) pl.isList.typeIs slot_list_getitem.lookup
   (wpAny_getItem_list_neg (Q:=fun r s'=>r = w ∧ EP X pins σ Q r s') pl.isList (by omega) (by rw [List.size_toArray] <;> omega) (by omega) (by rw [hj]; simpa using ew) ⟨rfl, fin⟩) hs
theorem zapr : IxR X (rIxT X.K):=by
 intro value slice pins s σ H x y v u Q I rx ry h hs
 obtain ⟨p, xs, i, z, rfl, rfl, hq, he, q⟩:=h
 cases rx
 obtain ⟨t, rfl⟩:=ry
 obtain ⟨its, r, pl, hz⟩:=I.tuple hq
 obtain ⟨j, h1, h2, h3, h4, h5⟩:=zaaj he
 obtain ⟨w, ew, rw'⟩:=r.get h2
 have hl:=r.length
 have hn:=zwx
 have fin : EP X pins σ Q w s:=⟨z, H, I, rw', q⟩
 exact subscriptTail_builtinR (x:=w) pl.typeIs slot_tuple_getitem.lookup
  (getItem_tuple (j:=j) (Q:=fun r s'=>r = w ∧ EP X pins σ Q r s') pl (by omega) (by omega) (by rw [List.size_toArray, ← hl]; exact h1) (by simpa using ew) ⟨rfl, fin⟩) hs
theorem zaps : IxR X rIxS:=by
 intro value slice pins s σ H x y v u Q I rx ry h hs
 obtain ⟨z, i, c, rfl, rfl, hz, he, q⟩:=h
 obtain ⟨t, rfl⟩:=rx
 obtain ⟨t', rfl⟩:=ry
 obtain ⟨j, h1, h2, h3, h4, h5⟩:=zaaj he
 have hl : z.cps.toList.length = z.length:=by simp [Str.length]
 rw [hl] at h1 h4 h5
 have hn:=zwx
 exact tail_any (typeIs_str s z t) slot_str_getitem.lookup (getItem_str (c:=c) (by
  have e1 : decide (i < -(2 ^ 63 : Int)) = false:=decide_eq_false (by omega)
  have e2 : decide (i ≥ 2 ^ 63) = false:=decide_eq_false (by omega)
  rw [e1, e2, Bool.or_false]) (by rw [h1]; simpa using h2) ⟨.str ⟨#[c]⟩, H, I.tok _, ⟨_, rfl⟩, q⟩) hs
theorem zapt (i : Int) (n d : Nat) : max 0 (min (if i < 0 then i + (n : Int) else i) (n : Int)) = ((HT.sIx n d (some i) : Nat) : Int):=by
 show _ = (((if i < 0 then (i + (n : Int)).toNat else min i.toNat n) : Nat) : Int)
 by_cases h : i < 0
 ·rw [if_pos h, if_pos h]; omega
 ·rw [if_neg h, if_neg h]; omega
theorem zxc (lo hi : Option Int) (n : Nat) : (sliceBounds lo hi none n).1 = ((HT.sIx n 0 lo : Nat) : Int) ∧ (sliceBounds lo hi none n).2.1 = ((HT.sIx n n hi : Nat) : Int) ∧ (sliceBounds lo hi none n).2.2 = 1:=by
 refine ⟨?_, ?_, rfl⟩
 ·cases lo with
  | none=>rfl
  | some i=>exact zapt i n 0
 ·cases hi with
  | none=>rfl
  | some i=>exact zapt i n n
theorem zuw (its : List Value) (lo hi : Option Int) : slicePick its.toArray lo hi none = ((its.drop (HT.sIx its.length 0 lo)).take (HT.sIx its.length its.length hi - HT.sIx its.length 0 lo)).toArray:=by
 obtain ⟨h1, h2, h3⟩:=zxc lo hi its.toArray.size
 unfold slicePick
 rw [h1, h2, h3]
 simp only [sliceRange_one, pick_run, List.size_toArray] <;> rfl
noncomputable def rSlL (K : PySem.W.Frag) : V → Option Int → Option Int → Hp → VK → Prop:=fun x lo hi H Q=>∃ a xs, x = .ref a ∧ SqL K H a xs ∧ ∀ p, H p = none → Q (.ref p) (upd H p (.lst (cutV xs lo hi)))
theorem zanb : SlR X (rSlL X.K):=by
 intro pins s σ H x v vl vu lo hi sl Q I rx hs pl pu h
 obtain ⟨a, xs, rfl, hx, q⟩:=h
 cases rx
 obtain ⟨its, r, ht, hz⟩:=I.list hx
 have hlen:=r.length
 refine ⟨"list", _, slot_list_getitem.lookup, ht.isList.typeIs, ?_⟩
 refine wpAny_getItem_list_slice ht.isList hs pl pu .none (by simp) ?_ (by rw [List.size_toArray] <;> omega)
 rw [zuw, ← hlen]
 refine ⟨.ref s.heap.objs.size, _, I.laid (t':=s.toks) (o:=.lst (cutV xs lo hi)) (fun b ob q=>Heap.get?_push_of_some _ q) (Nat.le_refl _) ?_, rfl, q _ (I.hok.fresh (Nat.le_refl _))⟩
 exact ⟨Nat.le_trans (zaai xs lo hi) hz, _, 0, (r.drop (HT.sIx xs.length 0 lo)).take (HT.sIx xs.length xs.length hi - HT.sIx xs.length 0 lo), Heap.get?_push_size _ rfl⟩
noncomputable def ztd : V → Bool
 | .non=>true
 | .bl _=>true
 | .int _=>true
 | .str _=>true
 | _=>false
noncomputable def eqV : V → V → Bool
 | .non, .non=>true
 | .bl a, .bl b=>a == b
 | .bl a, .int b=>(if a then 1 else 0) == b
 | .int a, .bl b=>a == (if b then 1 else 0)
 | .int a, .int b=>a == b
 | .str a, .str b=>a == b
 | _, _=>false
theorem zapu {A : Around} {s : Shared} {y x : V} {u v : Value} (ry : RelV y u) (rx : RelV x v) (fy : ztd y = true) (fx : ztd x = true) : SeqAt.EqAt A s u v (eqV y x):=by
 cases y with
 | non =>
  cases ry
  cases x with
  | non=>cases rx; exact SeqAt.EqAt.same _
  | bl b=>cases rx; exact SeqAt.EqAt.none_bool b
  | int b=>obtain ⟨t, rfl⟩:=rx; exact SeqAt.EqAt.none_int b t
  | str b=>obtain ⟨t, rfl⟩:=rx; exact SeqAt.EqAt.none_str b t
  | _=>exact absurd (show false = true from fx) Bool.false_ne_true
 | bl a =>
  cases ry
  cases x with
  | non=>cases rx; exact SeqAt.EqAt.bool_none a
  | bl b=>cases rx; exact SeqAt.EqAt.bool_bool a b
  | int b=>obtain ⟨t, rfl⟩:=rx; exact SeqAt.EqAt.bool_int a b t
  | str b=>obtain ⟨t, rfl⟩:=rx; exact SeqAt.EqAt.bool_str a b t
  | _=>exact absurd (show false = true from fx) Bool.false_ne_true
 | int a =>
  obtain ⟨t', rfl⟩:=ry
  cases x with
  | non=>cases rx; exact SeqAt.EqAt.int_none a t'
  | bl b=>cases rx; exact SeqAt.EqAt.int_bool a t' b
  | int b=>obtain ⟨t, rfl⟩:=rx; exact SeqAt.EqAt.int_int a t' b t
  | str b=>obtain ⟨t, rfl⟩:=rx; exact SeqAt.EqAt.int_str a t' b t
  | _=>exact absurd (show false = true from fx) Bool.false_ne_true
 | str a =>
  obtain ⟨t', rfl⟩:=ry
  cases x with
  | non=>cases rx; exact SeqAt.EqAt.str_none a t'
  | bl b=>cases rx; exact SeqAt.EqAt.str_bool a t' b
  | int b=>obtain ⟨t, rfl⟩:=rx; exact SeqAt.EqAt.str_int a t' b t
  | str b=>obtain ⟨t, rfl⟩:=rx; exact SeqAt.EqAt.str_str a t' b t
  | _=>exact absurd (show false = true from fx) Bool.false_ne_true
 | _=>exact absurd (show false = true from fy) Bool.false_ne_true
noncomputable def eqU (x : V) (u : Value) : Bool:=match u with
 | .none=>eqV .non x
 | .bool b=>eqV (.bl b) x
 | .int i _=>eqV (.int i) x
 | .str z _=>eqV (.str z) x
 | _=>false
theorem zalu {x y : V} {u : Value} (r : RelV y u) (f : ztd y = true) : eqU x u = eqV y x:=by
 cases y with
 | non=>cases r; rfl
 | bl b=>cases r; rfl
 | int i=>obtain ⟨t, rfl⟩:=r; rfl
 | str z=>obtain ⟨t, rfl⟩:=r; rfl
 | _=>exact absurd (show false = true from f) Bool.false_ne_true
theorem zrb {x : V} : ∀ {xs : List V} {us : List Value}, Vals xs us → xs.all ztd = true → us.any (eqU x) = xs.any fun y=>eqV y x
 | _, _, .nil, _=>rfl
 | y :: xs, u :: us, .cons r t, f=>by
  rw [List.all_cons, Bool.and_eq_true] at f
  rw [List.any_cons, List.any_cons, zalu r f.1, zrb t f.2]
theorem znf {A : Around} {s : Shared} {x : V} {v : Value} (rx : RelV x v) (fx : ztd x = true) : ∀ {xs : List V} {us : List Value}, Vals xs us → xs.all ztd = true → ∀ u ∈ us, SeqAt.EqAt A s u v (eqU x u)
 | _, _, .nil, _=>fun u hu=>by cases hu
 | y :: xs, u :: us, .cons r t, f=>fun u' hu=>by
  rw [List.all_cons, Bool.and_eq_true] at f
  rcases List.mem_cons.mp hu with rfl | hu
  ·rw [zalu r f.1]; exact zapu r rx f.1 fx
  ·exact znf rx fx t f.2 u' hu
noncomputable def inV (x : V) (xs : List V) : Bool:=xs.any fun y=>eqV y x
noncomputable def rIn (K : PySem.W.Frag) (neg : Bool) : R2:=fun x y H Q=>∃ p xs, y = .ref p ∧ (SqL K H p xs ∨ SqT K H p xs) ∧ ztd x = true ∧ xs.all ztd = true ∧ Q (.bl (if neg then !inV x xs else inV x xs)) H
theorem zafu : OpR X (compareOp .In) (rIn X.K false):=by
 intro pins s σ H x y v u Q I rx ry h
 obtain ⟨p, xs, rfl, hq, fx, fs, q⟩:=h
 cases ry
 rcases hq with hq | hq
 ·obtain ⟨its, r, pl, hz⟩:=I.list hq
  refine SeqAt.in_listAt (eqU x) pl.isList (fun w hw=>znf rx fx r fs w (by simpa using hw)) ⟨.bl _, H, I, rfl, ?_⟩
  rw [show its.toArray.any (eqU x) = its.any (eqU x) by simp, zrb r fs]
  exact q
 ·obtain ⟨its, r, pl, hz⟩:=I.tuple hq
  refine SeqAt.in_tupleAt (eqU x) pl (fun w hw=>znf rx fx r fs w (by simpa using hw)) ⟨.bl _, H, I, rfl, ?_⟩
  rw [show its.toArray.any (eqU x) = its.any (eqU x) by simp, zrb r fs]
  exact q
theorem zxd : OpR X (compareOp .NotIn) (rIn X.K true):=by
 intro pins s σ H x y v u Q I rx ry h
 obtain ⟨p, xs, rfl, hq, fx, fs, q⟩:=h
 cases ry
 rcases hq with hq | hq
 ·obtain ⟨its, r, pl, hz⟩:=I.list hq
  refine SeqAt.notIn_listAt (eqU x) pl.isList (fun w hw=>znf rx fx r fs w (by simpa using hw)) ⟨.bl _, H, I, rfl, ?_⟩
  rw [show its.toArray.any (eqU x) = its.any (eqU x) by simp, zrb r fs]
  exact q
 ·obtain ⟨its, r, pl, hz⟩:=I.tuple hq
  refine SeqAt.notIn_tupleAt (eqU x) pl (fun w hw=>znf rx fx r fs w (by simpa using hw)) ⟨.bl _, H, I, rfl, ?_⟩
  rw [show its.toArray.any (eqU x) = its.any (eqU x) by simp, zrb r fs]
  exact q
theorem zxe : CallR X (.type "list") (fun xs H Q=>∃ p ys, xs = [.ref p] ∧ (SqL X.K H p ys ∨ SqT X.K H p ys) ∧ ∀ l, H l = none → Q (.ref l) (upd H l (.lst ys))):=by
 intro pins s σ H xs us Q I r h
 obtain ⟨p, ys, rfl, hq, q⟩:=h
 obtain ⟨u, rfl, rx⟩:=zaah r
 cases rx
 have fin : ∀ (its : List Value), Vals ys its → ys.length ≤ sizeLine → ∀ (h' : Heap) (c' : Nat), (∀ b o', s.heap.get? b = some o' → h'.get? b = some o') →
   h'.get? s.heap.objs.size = some { cls:=.type "list", dict:=none, data:=.seq its.toArray c', slots:=#[] } → EP X pins σ Q (.ref s.heap.objs.size) { s with heap:=h' }:=fun its r' hz h' c' kp e =>
  ⟨.ref s.heap.objs.size, _, I.laid (t':=s.toks) kp (Nat.le_refl _) (show zgq X.prog X.w _ h' _ (.lst ys) from ⟨hz, its, c', r', e⟩), rfl, q _ (I.hok.fresh (Nat.le_refl _))⟩
 rcases hq with hq | hq
 ·obtain ⟨its, r', pl, hz⟩:=I.list hq
  have hlen:=r'.length
  obtain ⟨o, ho, hc, n, hd⟩:=pl.isList
  exact call_list_seq p (.inl rfl) ho hc hd (fun h' c' kp e=>fin its r' hz h' c' kp e) (by simp only [List.size_toArray] <;> omega)
 ·obtain ⟨its, r', pl, hz⟩:=I.tuple hq
  have hlen:=r'.length
  obtain ⟨o, ho, hc, n, hd⟩:=pl
  exact call_list_seq p (.inr rfl) ho hc hd (fun h' c' kp e=>fin its r' hz h' c' kp e) (by simp only [List.size_toArray] <;> omega)
theorem zux : CallR X (.type "tuple") (fun xs H Q=>∃ p ys, xs = [.ref p] ∧ ((SqL X.K H p ys ∧ ∀ l, H l = none → Q (.ref l) (upd H l (.tup ys))) ∨ (SqT X.K H p ys ∧ Q (.ref p) H))):=by
 intro pins s σ H xs us Q I r h
 obtain ⟨p, ys, rfl, h⟩:=h
 obtain ⟨u, rfl, rx⟩:=zaah r
 cases rx
 rcases h with ⟨hq, q⟩ | ⟨hq, q⟩
 ·obtain ⟨its, r', pl, hz⟩:=I.list hq
  have hlen:=r'.length
  refine call_tuple_list pl.isList (fun h' kp=>?_) (by simp only [List.size_toArray] <;> omega)
  have I1 : Inv X pins σ H { s with heap:=h' }:=I.kept (t':=s.toks) kp
  have I2 : Inv X pins σ (upd H h'.objs.size (.tup ys)) { s with heap:=h'.push { cls:=.type "tuple", data:=.seq its.toArray } } :=
   I1.laid (t':=s.toks) (fun b o e=>Heap.get?_push_of_some _ e) (Nat.le_refl _) (show zgq X.prog X.w _ _ _ (.tup ys) from ⟨hz, its, r', IsTup.new _ _⟩)
  exact ⟨.ref h'.objs.size, _, I2, rfl, q _ (I1.hok.fresh (Nat.le_refl _))⟩
 ·obtain ⟨its, r', pl, hz⟩:=I.tuple hq
  exact call_tuple_same pl ⟨.ref p, H, I, rfl, q⟩
noncomputable def tyV (K : PySem.W.Frag) (T : String) (x : V) (H : Hp) : Prop:=match x with
 | .str _=>T = "str"
 | .int _=>T = "int"
 | .ref p=>(T = "list" ∧ ∃ xs, SqL K H p xs) ∨ (T = "tuple" ∧ ∃ o, K.lookup p = some o ∧ o.cls = .type "tuple" ∧ o.dict = none) ∨
   (T = "dict" ∧ ((∃ kvs, H p = some (.dK kvs)) ∨ ∃ kvs, H p = some (.dT kvs))) ∨ (T = "set" ∧ ∃ S n, H p = some (.set S n))
 | _=>False
theorem zapv {pins : List (Addr × Obj)} {σ : St} {H : Hp} {s : Shared} {T : String} {x : V} {v : Value} (I : Inv X pins σ H s) (r : RelV x v) (ty : tyV X.K T x H) :
  s.TypeIs v T ∧ ∀ a, v = .ref a → ∃ ob, s.heap.get? a = some ob ∧ ob.dict = none:=by
 cases x with
 | str z =>
  obtain ⟨t, rfl⟩:=r
  cases (show T = "str" from ty)
  exact ⟨typeIs_str s z t, fun _ e=>nomatch e⟩
 | int i =>
  obtain ⟨t, rfl⟩:=r
  cases (show T = "int" from ty)
  exact ⟨typeIs_int s i t, fun _ e=>nomatch e⟩
 | ref p =>
  cases r
  rcases ty with ⟨rfl, xs, hq⟩ | ⟨rfl, o, hk, hc, hd⟩ | ⟨rfl, hk⟩ | ⟨rfl, S, n, hk⟩
  ·obtain ⟨its, _, pl, _⟩:=I.list hq
   refine ⟨pl.isList.typeIs, fun a e=>?_⟩
   cases e
   obtain ⟨o, n, e, c, hd, _⟩:=pl
   exact ⟨o, e, hd⟩
  ·refine ⟨⟨o, I.kIn p o hk, hc⟩, fun a e=>?_⟩
   cases e
   exact ⟨o, I.kIn _ o hk, hd⟩
  ·have z : ∃ o, s.heap.get? p = some o ∧ o.ExactDict:=by
    rcases hk with ⟨kvs, hk⟩ | ⟨kvs, hk⟩
    ·obtain ⟨_, _, _, _, o, _, _, e, ex, _⟩:=I.hok p _ hk
     exact ⟨o, e, ex⟩
    ·obtain ⟨_, _, _, _, o, _, _, e, ex, _⟩:=I.hok p _ hk
     exact ⟨o, e, ex⟩
   obtain ⟨o, e, ex⟩:=z
   refine ⟨⟨o, e, ex.1⟩, fun a e2=>?_⟩
   cases e2
   exact ⟨o, e, ex.2.1⟩
  ·obtain ⟨o, _, _, _, e, ex, _⟩:=I.hok p _ hk
   refine ⟨⟨o, e, ex.1⟩, fun a e2=>?_⟩
   cases e2
   exact ⟨o, e, ex.2.1⟩
 | _=>exact False.elim ty
noncomputable def tBM (K : PySem.W.Frag) (T : String) (r : V → List V → Hp → VK → Prop) (to : TE) (t : TA) : TE:=fun σ H Q=>to σ H fun x H1=>tyV K T x H1 ∧ t σ H1 fun xs H2=>r x xs H2 Q
variable {o e : Expr} {es : List Expr} {to : TE} {t : TA} {name : Str} {apos cpos : Pos} {T id : String} {r : V → List V → Hp → VK → Prop}
theorem zarg (pa : PlainAttrs T) (slot : Slot T name id) (hty : typeOf (.builtin id) = pure (.type "method_descriptor")) (hm : MtR X id r) (ho : PE X o to) (ha : PA X (e :: es) t)
  (hbase : attributeBase o name X.env (eval o X.env) = eval o X.env:=by rfl)
  (hfew : ((backTo cpos (starEach (e :: es) X.env)).all (fun x=>!x.1) && (backToKw cpos (keywordEach [] X.env)).all (fun x=>x.1.isSome)
   && decide ((e :: es).length + ([] : List Keyword).length + (if ([] : List Keyword).isEmpty then 0 else 1) < 30)) = true:=by rfl)
  (hline : (apos.endLine == cpos.line) = true:=by rfl) (hs : starEach (e :: es) X.env = (false, eval e X.env) :: starEach es X.env:=by rfl) (hplain : (backTo cpos (starEach es X.env)).any (·.1) = false:=by rfl) :
  PE X (.Call (.Attribute o name apos) (e :: es) [] cpos) (tBM X.K T r to t):=by
 intro pins s σ H Q I h
 refine wpAny_Call_method_late hbase hfew hline rfl (thn (ho pins s σ H _ I h) fun v s1 ⟨x, H1, I1, r1, ty, q1⟩=>?_)
 obtain ⟨h1, h2⟩:=zapv I1 r1 ty
 refine ⟨T, id, pa, slot, hty, h1, h2, ?_⟩
 have hA:=ha cpos pins s1 σ H1 _ I1 q1
 rw [hs] at hA ⊢
 refine Calls.callWith_builtin (by show (false || (backTo cpos (starEach es X.env)).any (·.1)) = false; rw [hplain] <;> rfl) (Calls.evalArgs_plain ?_)
 exact thn hA fun us s2 ⟨vs, H2, I2, r2, q2⟩=>hm pins s2 σ H2 x vs v us Q I2 r1 r2 q2
/- xs.append(e), list.index on a module's tuple .. are MtR facts of 06m -/
end
end L2
namespace L2
open PySem PySem.Spec PyProof.Rows
noncomputable def MtM (X : Cx) (id : String) (r : V → List V → Hp → VK → Prop) : Prop :=
 ∀ (pins : List (Addr × Obj)) (s : Shared) (σ : St) (H : Hp) (x : V) (xs : List V) (v : Value) (us : List Value) (Q : VK), Inv X pins σ H s → RelV x v → Vals xs us → r x xs H Q →
  wpAny (model X.prog X.w) X.A (call (.builtin id) (v :: us)) (EP X pins σ Q) X.xe s
theorem Vals.one : ∀ {x : V} {us : List Value}, Vals [x] us → ∃ u, us = [u] ∧ RelV x u
 | _, _, .cons r .nil=>⟨_, rfl, r⟩
theorem Vals.eraseIdx : ∀ {xs : List V} {us : List Value} (i : Nat), Vals xs us → Vals (xs.eraseIdx i) (us.eraseIdx i)
 | _, _, _, .nil=>.nil
 | _, _, 0, .cons _ t=>t
 | _, _, i + 1, .cons r t=>.cons r (Vals.eraseIdx i t)
theorem zxf {α : Type} : ∀ (l : List α) (i : Nat), (l.eraseIdx i).length ≤ l.length
 | [], _=>Nat.le_refl _
 | _ :: _, 0=>Nat.le_succ _
 | _ :: r, i + 1=>Nat.succ_le_succ (zxf r i)
section
variable {X : Cx} {pins : List (Addr × Obj)} {σ : St} {H : Hp} {s : Shared} {l b : Addr} {xs ys zs : List V}
theorem Inv.lset {its its' : List Value} {n : Nat} {f : Array Value → Array Value} {t' : Nat} (I : Inv X pins σ H s) (hH : H l = some (.lst xs))
  (e : s.heap.get? l = some { cls:=.type "list", data:=.seq its.toArray n }) (hf : f its.toArray = its'.toArray) (hv : Vals ys its') (hz : ys.length ≤ sizeLine) :
  Inv X pins σ (upd H l (.lst ys)) { s with heap:=s.heap.update l (Obj.mapSeq f), toks:=t' }:=by
 have q:=PySem.IsL.update e f
 rw [hf] at q
 refine I.write (x:=l) (e:=l) (by rw [hH]; exact trivial) (.inl rfl) (fun b' u hb hu=>(Heap.get?_update_other s.heap (Obj.mapSeq f) (Ne.symm hb)).trans hu) ⟨_, q⟩ ?_
 exact ⟨hz, its', _, hv, q⟩
theorem Inv.lnew {its : List Value} {t' : Nat} (I : Inv X pins σ H s) (hv : Vals ys its) (hz : ys.length ≤ sizeLine) :
  Inv X pins σ (upd H s.heap.objs.size (.lst ys)) { s with heap:=s.heap.push { cls:=.type "list", data:=.seq its.toArray }, toks:=t' } :=
 I.laid (fun _ _ q=>Heap.get?_push_of_some _ q) (Nat.le_refl _) ⟨hz, its, 0, hv, Heap.get?_push_size _ rfl⟩
theorem Inv.fresh (I : Inv X pins σ H s) : H s.heap.objs.size = none:=I.hok.fresh (Nat.le_refl _)
theorem Inv.lstM (I : Inv X pins σ H s) (hH : H l = some (.lst xs)) : xs.length ≤ sizeLine ∧ ∃ (its : List Value) (n : Nat), Vals xs its ∧ xs.length = its.length ∧ s.heap.get? l = some { cls:=.type "list", data:=.seq its.toArray n }:=by
 obtain ⟨z, its, n, r, e⟩:=I.hok l _ hH
 exact ⟨z, its, n, r, r.length, e⟩
end
section
variable {X : Cx}
noncomputable def zaak : V → List V → Hp → VK → Prop:=fun x vs H Q=>∃ l xs y, x = .ref l ∧ vs = [y] ∧ H l = some (.lst xs) ∧ xs.length < sizeLine ∧ Q .non (upd H l (.lst (xs ++ [y])))
theorem zcz : MtM X "list.append" zaak:=by
 intro pins s σ H x vs v us Q I rx rv h
 obtain ⟨l, xs, y, rfl, rfl, hH, hz, q⟩:=h
 cases rx
 obtain ⟨u, rfl, ru⟩:=rv.one
 obtain ⟨z, its, n, r, hl, e⟩:=I.lstM hH
 refine call_meets F.slot_list_append ⟨_, e, rfl⟩ F.entry_list_append (F.args_list_append_2 _ _) (PySem.list_append l its.toArray n u (by rw [List.size_toArray]; omega)) ⟨e, ?_⟩
 refine ⟨.non, _, I.lset (its':=its ++ [u]) hH e (by simp) (r.append (.cons ru .nil)) ?_, rfl, q⟩
 rw [List.length_append, List.length_singleton]
 omega
noncomputable def zalv : V → List V → Hp → VK → Prop:=fun x vs H Q=>∃ l xs i k y, x = .ref l ∧ vs = [.int i] ∧ H l = some (.lst xs) ∧ -(2 ^ 63) ≤ i ∧ i < 2 ^ 63 ∧ seqIndex? i xs.length = some k ∧ xs[k]? = some y ∧ Q y (upd H l (.lst (xs.eraseIdx k)))
theorem zajn : MtM X "list.pop" zalv:=by
 intro pins s σ H x vs v us Q I rx rv h
 obtain ⟨l, xs, i, k, y, rfl, rfl, hH, h1, h2, hk, hy, q⟩:=h
 cases rx
 obtain ⟨u, rfl, ru⟩:=rv.one
 obtain ⟨t, rfl⟩:=ru
 obtain ⟨z, its, n, r, hl, e⟩:=I.lstM hH
 obtain ⟨w, hw, rw'⟩:=r.get hy
 refine call_meets F.slot_list_pop ⟨_, e, rfl⟩ F.entry_list_pop (F.args_list_pop_2 _ _)
  (MeetsSeq.list_pop_at l its.toArray n i t k w (fitsIndex_both h1 h2) (by rw [List.size_toArray, ← hl]; exact hk) (by rw [← Array.getElem?_toList]; exact hw) (by rw [List.size_toArray]; omega)) ⟨e, ?_⟩
 refine ⟨y, _, I.lset (its':=its.eraseIdx k) hH e ?_ (r.eraseIdx k) ?_, rw', q⟩
 ·show its.toArray.eraseIdxIfInBounds k = (its.eraseIdx k).toArray
  rw [List.eraseIdxIfInBounds_toArray]
 ·have:=zxf xs k
  omega
noncomputable def rCat : R2:=fun x y H Q=>∃ l b xs zs, x = .ref l ∧ y = .ref b ∧ H l = some (.lst xs) ∧ H b = some (.lst zs) ∧ xs.length + zs.length ≤ sizeLine ∧ ∀ p, H p = none → Q (.ref p) (upd H p (.lst (xs ++ zs)))
theorem zapw : OpR X (binaryOp .Add) rCat:=by
 intro pins s σ H x y v u Q I rx ry h
 obtain ⟨l, b, xs, zs, rfl, rfl, hH, hB, hz, q⟩:=h
 cases rx
 cases ry
 obtain ⟨z, its, n, r, hl, e⟩:=I.lstM hH
 obtain ⟨z2, its2, n2, r2, hl2, e2⟩:=I.lstM hB
 refine PySem.P.add_list e e2 ?_ (by rw [List.size_toArray, List.size_toArray]; omega)
 have ea : its.toArray ++ its2.toArray = (its ++ its2).toArray:=by simp
 rw [ea]
 exact ⟨.ref _, _, I.lnew (t':=s.toks) (r.append r2) (by rw [List.length_append]; omega), rfl, q _ I.fresh⟩
end
section
variable {prog : Program} {w : World} {A : Around} {E : Value → Shared → Prop} {s : Shared}
set_option maxRecDepth 100000 in
end
section
variable {X : Cx}
end
end L2
namespace L2
open PySem PySem.Spec PyProof.Rows
section
variable {κ : Type} [DecidableEq κ]
noncomputable def valV (kvs : List (κ × V)) (k : κ) : Option V:=(kvs.find? fun kv=>decide (kv.1 = k)).map (·.2)
noncomputable def putK (kvs : List (κ × V)) (k : κ) (v : V) : List (κ × V) :=
 if (kvs.any fun kv=>decide (kv.1 = k)) = true then kvs.map (fun kv=>if kv.1 = k then (kv.1, v) else kv) else kvs ++ [(k, v)]
theorem zqp {p : κ × V} {r : List (κ × V)} {k : κ} (e : p.1 = k) : valV (p :: r) k = some p.2:=by simp [valV, List.find?_cons, e]
theorem zqq {p : κ × V} {r : List (κ × V)} {k : κ} (e : ¬ p.1 = k) : valV (p :: r) k = valV r k:=by simp [valV, List.find?_cons, e]
theorem zaca (k : κ) : ∀ kvs : List (κ × V), (kvs.any fun kv=>decide (kv.1 = k)) = (valV kvs k).isSome
 | []=>rfl
 | p :: r=>by
  rw [List.any_cons]
  by_cases e : p.1 = k
  ·simp only [zqp e, decide_eq_true e, Bool.true_or, Option.isSome_some]
  ·rw [zqq e, decide_eq_false e, Bool.false_or]; exact zaca k r
theorem zmo (kvs : List (κ × V)) (k : κ) (v : V) : (putK kvs k v).length ≤ kvs.length + 1:=by
 unfold putK
 split
 ·rw [List.length_map]; omega
 ·rw [List.length_append, List.length_cons, List.length_nil]; omega
theorem RelO.isSome_eq {o : Option V} {u : Option Value} (r : RelO o u) : o.isSome = u.isSome:=by
 cases o with
 | none=>cases u with
  | none=>rfl
  | some _=>exact (show False from r).elim
 | some _=>cases u with
  | none=>exact (show False from r).elim
  | some _=>rfl
theorem KV.val {kvs : List (κ × V)} {vs : List (κ × Value)} (r : KV kvs vs) (k : κ) : RelO (valV kvs k) (valueAt vs k):=by
 unfold KV at r
 induction r with
 | nil=>exact True.intro
 | @cons p q ps qs h t ih =>
  obtain ⟨h1, h2⟩:=h
  by_cases e : p.1 = k
  ·have e' : q.1 = k:=h1.symm.trans e
   have b : valueAt (q :: qs) k = some q.2:=by simp [valueAt, List.find?_cons, e']
   rw [zqp e, b]; exact h2
  ·have e' : ¬ q.1 = k:=fun z=>e (h1.trans z)
   have b : valueAt (q :: qs) k = valueAt qs k:=by simp [valueAt, List.find?_cons, e']
   rw [zqq e, b]; exact ih
theorem KV.any {kvs : List (κ × V)} {vs : List (κ × Value)} (r : KV kvs vs) (k : κ) : (kvs.any fun kv=>decide (kv.1 = k)) = vs.any fun kv=>decide (kv.1 = k):=by
 unfold KV at r
 induction r with
 | nil=>rfl
 | cons h t ih=>rw [List.any_cons, List.any_cons, ih, h.1]
theorem KV.repl {kvs : List (κ × V)} {vs : List (κ × Value)} (r : KV kvs vs) (k : κ) {y : V} {u : Value} (ry : RelV y u) :
  KV (kvs.map fun kv=>if kv.1 = k then (kv.1, y) else kv) (vs.map fun kv=>if kv.1 = k then (kv.1, u) else kv):=by
 unfold KV at r ⊢
 induction r with
 | nil=>exact .nil
 | @cons p q ps qs h t ih =>
  rw [List.map_cons, List.map_cons]
  refine .cons ?_ ih
  obtain ⟨h1, h2⟩:=h
  by_cases e : p.1 = k
  ·rw [if_pos e, if_pos (h1.symm.trans e)]; exact ⟨h1, ry⟩
  ·rw [if_neg e, if_neg (fun z=>e (h1.trans z))]; exact ⟨h1, h2⟩
theorem KV.put {kvs : List (κ × V)} {vs : List (κ × Value)} (r : KV kvs vs) (k : κ) {y : V} {u : Value} (ry : RelV y u) : KV (putK kvs k y) (stored vs k u):=by
 unfold putK stored
 rw [r.any k]
 by_cases e : (vs.any fun kv=>decide (kv.1 = k)) = true
 ·rw [if_pos e, if_pos e]; exact r.repl k ry
 ·rw [if_neg e, if_neg e]; exact Paired.snoc r ⟨rfl, ry⟩
theorem KV.length {kvs : List (κ × V)} {vs : List (κ × Value)} (r : KV kvs vs) : kvs.length = vs.length:=Paired.length r
end
theorem zaec {P : Program} {w : World} {k : Key} {u : Value} (r : RelV (kV k) u) : (zdd P w).is k u = true:=by
 cases k with
 | inl i=>obtain ⟨t, e⟩:=(show ∃ t, u = Value.int i t from r); subst e; exact zaab P w i t
 | inr x=>obtain ⟨t, e⟩:=(show ∃ t, u = Value.str x t from r); subst e; exact zaac P w x t
theorem zxg {P : Program} {w : World} : ∀ {ks : List Key} {us : List Value}, Vals (ks.map kV) us → ItemsAre (zdd P w) ks us
 | [], _, r=>by rw [List.map_nil] at r; cases r; exact .nil
 | k :: ks, _, r=>by
  rw [List.map_cons] at r
  cases r with
  | cons h t=>exact .cons (zaec h) (zxg t)
noncomputable abbrev KT (H : Hp) : List (List Key × V) → List (List Key × Addr × Value) → Prop:=Paired fun p q=>p.1 = q.1 ∧ H q.2.1 = some (.tup (p.1.map kV)) ∧ RelV p.2 q.2.2
theorem KT.val {H : Hp} {kvs : List (List Key × V)} {xs : List (List Key × Addr × Value)} (r : KT H kvs xs) (k : List Key) : RelO (valV kvs k) ((atKey xs k).map (·.2)):=by
 induction r with
 | nil=>exact True.intro
 | @cons p q ps qs h t ih =>
  obtain ⟨h1, _, h2⟩:=h
  by_cases e : p.1 = k
  ·have e' : q.1 = k:=h1.symm.trans e
   have b : atKey (q :: qs) k = some q.2:=by simp [atKey, List.find?_cons, e']
   rw [zqp e, b]; exact h2
  ·have e' : ¬ q.1 = k:=fun z=>e (h1.trans z)
   have b : atKey (q :: qs) k = atKey qs k:=by simp [atKey, List.find?_cons, e']
   rw [zqq e, b]; exact ih
theorem KT.repl {H : Hp} {kvs : List (List Key × V)} {xs : List (List Key × Addr × Value)} (r : KT H kvs xs) (k : List Key) {y : V} {u : Value} (ry : RelV y u) :
  KT H (kvs.map fun kv=>if kv.1 = k then (kv.1, y) else kv) (xs.map (putAt k u)):=by
 induction r with
 | nil=>exact .nil
 | @cons p q ps qs h t ih =>
  rw [List.map_cons, List.map_cons]
  refine .cons ?_ ih
  obtain ⟨h1, h2, h3⟩:=h
  unfold putAt
  by_cases e : p.1 = k
  ·rw [if_pos e, if_pos (h1.symm.trans e)]; exact ⟨h1, h2, ry⟩
  ·rw [if_neg e, if_neg (fun z=>e (h1.trans z))]; exact ⟨h1, h2, h3⟩
theorem KT.put {H : Hp} {kvs : List (List Key × V)} {xs : List (List Key × Addr × Value)} (r : KT H kvs xs) (k : List Key) {b : Addr} {y : V} {u : Value} (hb : H b = some (.tup (k.map kV))) (ry : RelV y u) :
  KT H (putK kvs k y) (storedH xs k b u):=by
 have e : (kvs.any fun kv=>decide (kv.1 = k)) = (atKey xs k).isSome:=by
  rw [zaca, (r.val k).isSome_eq, Option.isSome_map]
 unfold putK storedH
 rw [e]
 by_cases q : (atKey xs k).isSome = true
 ·rw [if_pos q, if_pos q]; exact r.repl k ry
 ·rw [if_neg q, if_neg q]; exact Paired.snoc r ⟨rfl, hb, ry⟩
theorem KT.keeps {H H' : Hp} {kvs : List (List Key × V)} {xs : List (List Key × Addr × Value)} (r : KT H kvs xs) (ht : ∀ b ys, H b = some (.tup ys) → H' b = some (.tup ys)) : KT H' kvs xs :=
 Paired.mapP r fun _ _ z=>⟨z.1, ht _ _ z.2.1, z.2.2⟩
section
variable {P : Program} {w : World} {H : Hp} {h : Heap} {a : Addr}
theorem zapx {u : HO} (ok : HOk P w H h) (e : Rd H a u) : zgq P w H h a u:=e.ok ok
theorem zajo {kvs : List (Key × V)} (ok : HOk P w H h) (e : Rd H a (.dK kvs)) : kvs.length ≤ sizeLine ∧ (a == sysModules) = false ∧ ∃ vs, KV kvs vs ∧ h.DictOf (zdd P w) a vs :=
 show zgq P w H h a (.dK kvs) from zapx ok e
theorem zajp {kvs : List (Key × V)} (ok : HOk P w H h) (e : H a = some (.dK kvs)) : kvs.length ≤ sizeLine ∧ (a == sysModules) = false ∧ ∃ vs, KV kvs vs ∧ h.DictOf (zdd P w) a vs:=zajo ok (.inl e)
theorem zacb {ks : List Key} (ok : HOk P w H h) (e : H a = some (.tup (ks.map kV))) : (tupleKind (zdd P w)).is h ks a:=by
 obtain ⟨_, its, r, o, h1, h2, n, h3⟩:=(show zgq P w H h a (.tup (ks.map kV)) from ok a _ e)
 exact ⟨o, its.toArray, n, h1, h2, h3, by simpa using zxg r⟩
theorem zajq {kvs : List (List Key × V)} (ok : HOk P w H h) (e : Rd H a (.dT kvs)) : kvs.length ≤ sizeLine ∧ (a == sysModules) = false ∧
  ∃ xs, KT H kvs xs ∧ h.DictOfH (tupleKind (zdd P w)) a xs:=by
 obtain ⟨z, y, xs, r, o, es, ep, h1, h2, h3, h4, h5⟩:=(show zgq P w H h a (.dT kvs) from zapx ok e)
 refine ⟨z, y, xs, r, o, es, ep, h1, h2, h3, h4, fun x hx=>?_, h5⟩
 have all : ∀ {l : List (List Key × V)} {m : List (List Key × Addr × Value)}, KT H l m → ∀ x ∈ m, (tupleKind (zdd P w)).is h x.1 x.2.1:=by
  intro l m q
  induction q with
  | nil=>intro x hx; exact nomatch hx
  | @cons p q ps qs hq t ih =>
   intro x hx
   rcases List.mem_cons.mp hx with e | hx
   ·subst e
    exact zacb ok (by rw [← hq.1]; exact hq.2.1)
   ·exact ih x hx
 exact all r x hx
theorem zarh {kvs : List (List Key × V)} (ok : HOk P w H h) (e : H a = some (.dT kvs)) : kvs.length ≤ sizeLine ∧ (a == sysModules) = false ∧
  ∃ xs, KT H kvs xs ∧ h.DictOfH (tupleKind (zdd P w)) a xs:=zajq ok (.inl e)
end
noncomputable def DGet (H : Hp) (a : Addr) (y : V) (r : Option V) : Prop :=
 (∃ kvs k, Rd H a (.dK kvs) ∧ y = kV k ∧ r = valV kvs k) ∨ ∃ kvs k b, Rd H a (.dT kvs) ∧ y = .ref b ∧ H b = some (.tup (k.map kV)) ∧ r = valV kvs k
noncomputable def DPut (H : Hp) (a : Addr) (y v : V) (H' : Hp) : Prop :=
 (∃ kvs k, H a = some (.dK kvs) ∧ y = kV k ∧ kvs.length < sizeLine ∧ H' = upd H a (.dK (putK kvs k v))) ∨
 ∃ kvs k b, H a = some (.dT kvs) ∧ y = .ref b ∧ H b = some (.tup (k.map kV)) ∧ kvs.length < sizeLine ∧ H' = upd H a (.dT (putK kvs k v))
theorem DGet.k {H : Hp} {a : Addr} {kvs : List (Key × V)} {k : Key} (e : H a = some (.dK kvs)) : DGet H a (kV k) (valV kvs k):=.inl ⟨kvs, k, .inl e, rfl, rfl⟩
theorem DPut.k {H : Hp} {a : Addr} {kvs : List (Key × V)} {k : Key} {v : V} (e : H a = some (.dK kvs)) (hl : kvs.length < sizeLine) : DPut H a (kV k) v (upd H a (.dK (putK kvs k v))):=.inl ⟨kvs, k, e, rfl, hl, rfl⟩
section
variable {X : Cx} {pins : List (Addr × Obj)} {σ : St} {H : Hp} {s : Shared} {a : Addr} {y v : V} {u r : Value} {o : Option V} {A : Around} {E : Value → Shared → Prop}
theorem Inv.big (I : Inv X pins σ H s) : sysModules < s.heap.objs.size:=by
 have h : mainGlobals < s.heap.objs.size:=(I.mod.glob.keeps I.bk).lt
 exact Nat.lt_trans (by decide) h
theorem zafv {Q : Value → Shared → Prop} (hu : A.units + 1 < cLine) (I : Inv X pins σ H s) (g : DGet H a y (some v)) (ry : RelV y u) (h : ∀ w' s', Inv X pins σ H s' → RelV v w' → Q w' s') :
  wpAny (model X.prog X.w) A (getItem (.ref a) u) Q E s:=by
 rcases g with ⟨kvs, k, e, ey, l⟩ | ⟨kvs, k, b, e, ey, eb, l⟩
 ·subst ey
  obtain ⟨z, hd, vs, rel, dd⟩:=zajo I.hok e
  obtain ⟨w', hw, rw'⟩:=RelO.some_of (v:=v) (o:=valueAt vs k) (by rw [l]; exact rel.val k)
  exact wpAny_getItem_of (zaec ry) dd.mapOf hw (h w' _ (I.tok _) rw')
 ·subst ey
  cases (show u = Value.ref b from ry)
  obtain ⟨z, hd, xs, rel, dd⟩:=zajq I.hok e
  obtain ⟨w', hw, rw'⟩:=RelO.some_of (v:=v) (o:=(atKey xs k).map (·.2)) (by rw [l]; exact rel.val k)
  obtain ⟨p, hp, hp2⟩:=Option.map_eq_some_iff.mp hw
  refine wpAny_getItem_heap (tupleKind_room_in1 hu) (zacb I.hok eb) dd hp ?_
  rw [hp2]
  exact h w' _ (I.tok _) rw'
theorem d_in {Q : Value → Shared → Prop} (hu : A.units + 1 < cLine) (I : Inv X pins σ H s) (g : DGet H a y o) (ry : RelV y u) (h : ∀ s', Inv X pins σ H s' → Q (.bool o.isSome) s') :
  wpAny (model X.prog X.w) A (compareOp .In u (.ref a)) Q E s:=by
 rcases g with ⟨kvs, k, e, ey, l⟩ | ⟨kvs, k, b, e, ey, eb, l⟩
 ·subst ey
  obtain ⟨z, hd, vs, rel, dd⟩:=zajo I.hok e
  refine wpAny_in_of (zaec ry) hd dd.mapOf ?_
  rw [← (rel.val k).isSome_eq, ← l]
  exact h _ (I.tok _)
 ·subst ey
  cases (show u = Value.ref b from ry)
  obtain ⟨z, hd, xs, rel, dd⟩:=zajq I.hok e
  refine wpAny_in_heap (tupleKind_room_in1 hu) (zacb I.hok eb) hd dd ?_
  have q:=(rel.val k).isSome_eq
  rw [Option.isSome_map] at q
  rw [← q, ← l]
  exact h _ (I.tok _)
theorem zuy {h' : Heap} {t' : Nat} {ob : HO} (I : Inv X pins σ H s) (mu : Mut (H a)) (hs : Heap.SameBut a s.heap h') (he : ∃ q, h'.get? a = some q) (new : zgq X.prog X.w (upd H a ob) h' a ob) :
  Inv X pins σ (upd H a ob) { s with heap:=h', toks:=t' } :=
 I.write (x:=a) (e:=a) mu (.inl rfl) (fun b q hb z=>(hs.2 b hb).trans z) he new
theorem zacc {P : Program} {w : World} {H' : Hp} {h' : Heap} {kvs : List (Key × V)} {vs : List (Key × Value)} (z : kvs.length ≤ sizeLine) (hd : (a == sysModules) = false) (rel : KV kvs vs) (dd : h'.DictOf (zdd P w) a vs) :
  zgq P w H' h' a (.dK kvs):=⟨z, hd, vs, rel, dd⟩
theorem zafw {H' : Hp} {Q : Unit → Shared → Prop} (hu : A.units + 1 < cLine) (I : Inv X pins σ H s) (g : DPut H a y v H') (ry : RelV y u) (rv : RelV v r) (h : ∀ s', Inv X pins σ H' s' → Q () s') :
  wpAny (model X.prog X.w) A (setItem (.ref a) u r) Q E s:=by
 rcases g with ⟨kvs, k, e, ey, l, eH⟩ | ⟨kvs, k, b, e, ey, eb, l, eH⟩
 ·subst ey eH
  obtain ⟨z, hd, vs, rel, dd⟩:=zajp I.hok e
  have hz : vs.length ≤ sizeLine:=by rw [← rel.length]; exact z
  have hl : (putK kvs k v).length ≤ sizeLine:=by have:=zmo kvs k v; omega
  refine wpAny_setItem_pairs (hsz:=hz) (zaec ry) dd fun h' dd' hs=>h _ ?_
  have he : ∃ q, h'.get? a = some q:=let ⟨q, _, _, hq, _⟩:=dd'; ⟨q, hq⟩
  exact zuy I (by rw [e]; exact True.intro) hs he (zacc hl hd (rel.put k rv) dd')
 ·subst ey eH
  cases (show u = Value.ref b from ry)
  obtain ⟨z, hd, xs, rel, dd⟩:=zarh I.hok e
  have hz : xs.length ≤ sizeLine:=by rw [← Paired.length rel]; exact z
  have hl : (putK kvs k v).length ≤ sizeLine:=by have:=zmo kvs k v; omega
  refine wpAny_setItem_heap (hsz:=hz) (tupleKind_room_in1 hu) (zacb I.hok eb) dd fun h' dd' hs=>h _ ?_
  obtain ⟨q, es, ep, hq, h2, h3, h4, _, h5⟩:=dd'
  refine zuy I (by rw [e]; exact True.intro) hs ⟨q, hq⟩ ⟨hl, hd, _, (rel.put k eb rv).keeps fun c ys ec=>?_, q, es, ep, hq, h2, h3, h4, h5⟩
  rw [zcj (zaqz ec e (fun z=>nomatch z))]
  exact ec
end
section
variable {X : Cx} {pins : List (Addr × Obj)} {σ : St} {H : Hp} {s : Shared} {a : Addr} {kvs : List (Key × V)} {k : Key} {u : Value} {A : Around} {E : Value → Shared → Prop}
end
noncomputable def NoSl (i : Expr) : Prop:=∀ ov iv, subscripted i false ov iv = operate [ov, iv] (getItem ov iv)
theorem zanc {prog : Program} {w : World} {A : Around} {E : Value → Shared → Prop} {s : Shared} {env : Env} {value slice : Expr} {pos : Pos} {T id : String} {Q : Value → Shared → Prop}
  (hl : typeLookup (.type T) "__getitem__" = pure (some (.builtin id))) (hs : NoSl slice)
  (h : wpAny (model prog w) A (eval value env) (fun o s₁=>wpAny (model prog w) A (eval slice env) (fun i s₂=>s₂.TypeIs o T ∧ wpAny (model prog w) A (getItem o i) Q E s₂) E s₁) E s) :
  wpAny (model prog w) A (eval (.Subscript value slice pos) env) Q E s:=by
 refine Subscript_ (wpAny_mono h (fun o s₁ h₁=>wpAny_mono h₁ (fun i s₂ h₂=>?_) fun _ _ x=>x) fun _ _ x=>x)
 obtain ⟨hT, h₂⟩:=h₂
 unfold subscriptTail
 refine wpAny_bind ?_
 rw [getitemInPython_of_ne hT.not_modules]
 refine wpAny_bind (wpAny_specialOf hT hl ?_)
 have fin : wpAny (model prog w) A (subscripted slice false o i) (fun r s₃=>wpAny (model prog w) A (letTemporaryGo value o r >>= fun _=>pure r) Q E s₃) E s₂:=by
  rw [hs o i]
  exact wpAny_operating (wpAny_mono h₂ (fun r s₃ h₃=>wpAny_bind (wpAny_letTemporaryGo (wpAny_pure h₃))) fun _ _ x=>x)
 first
  | exact wpAny_pure (wpAny_bind fin)
  | exact wpAny_bind (wpAny_pure (wpAny_bind fin))
  | exact wpAny_bind fin
theorem zaal {X : Cx} {pins : List (Addr × Obj)} {σ : St} {H : Hp} {s : Shared} {a : Addr} {y : V} {o : Option V} (I : Inv X pins σ H s) (g : DGet H a y o) : s.TypeIs (.ref a) "dict":=by
 rcases g with ⟨kvs, k, e, _, _⟩ | ⟨kvs, k, b, e, _, _, _⟩
 ·obtain ⟨_, _, vs, _, dd⟩:=zajo I.hok e
  exact dd.typeIs
 ·obtain ⟨_, _, xs, _, dd⟩:=zajq I.hok e
  exact dd.typeIs
noncomputable def tDGet (td ty : TE) : TE:=fun σ H Q=>td σ H fun x H1=>ty σ H1 fun y H2=>∃ a v, x = .ref a ∧ DGet H2 a y (some v) ∧ Q v H2
noncomputable def tDIn (ty td : TE) : TE:=fun σ H Q=>ty σ H fun y H1=>td σ H1 fun x H2=>∃ a o, x = .ref a ∧ DGet H2 a y o ∧ Q (.bl o.isSome) H2
noncomputable def sDPut (td ty tv : TE) : TS:=fun D σ H=>tv σ H fun v H1=>td σ H1 fun x H2=>ty σ H2 fun y H3=>∃ a H4, x = .ref a ∧ DPut H3 a y v H4 ∧ D.nx σ H4
section
variable {X : Cx} {o i e value : Expr} {pos pos' tpos : Pos} {td ty tv : TE}
theorem zand (hu : X.A.units + 1 < cLine) (ho : PE X o td) (hi : PE X i ty) (hs : NoSl i) : PE X (.Subscript o i pos) (tDGet td ty):=by
 intro pins s σ H Q I h
 refine zanc PySem.F.slot_dict_getitem.lookup hs (thn (ho pins s σ H _ I h) fun u s1 ⟨x, H1, I1, rx, q1⟩=>thn (hi pins s1 σ H1 _ I1 q1) fun iv s2 ⟨y, H2, I2, ry, a, v, ex, g, q2⟩=>?_)
 subst ex
 obtain rfl : u = Value.ref a:=rx
 exact ⟨zaal I2 g, zafv hu I2 g ry fun w' s3 I3 rw'=>⟨v, H2, I3, rw', q2⟩⟩
theorem zapy (hu : X.A.units + 1 < cLine) (hi : PE X i ty) (ho : PE X o td) : PC X .In i o (tDIn ty td):=by
 intro pins s σ H Q I h
 refine thn (hi pins s σ H _ I h) fun iv s1 ⟨y, H1, I1, ry, q1⟩=>thn (ho pins s1 σ H1 _ I1 q1) fun u s2 ⟨x, H2, I2, rx, a, ov, ex, g, q2⟩=>?_
 subst ex
 obtain rfl : u = Value.ref a:=rx
 exact d_in hu I2 g ry fun s3 I3=>⟨.bl ov.isSome, H2, I3, rfl, q2⟩
theorem zane (hu : X.A.units + 1 < cLine) (ho : PE X o td) (hi : PE X i ty) (hv : PE X value tv) (hs : swapsWith value (some (.Subscript o i pos')) pos.line X.env = pure false) :
  PS X (.Assign [.Subscript o i pos'] value pos) (sDPut td ty tv):=by
 intro pins s σ H D I h
 refine wpAny_Assign_Subscript (thn (hv pins s σ H _ I h) fun r s1 ⟨v, H1, I1, rv, q1⟩=>thn (ho pins s1 σ H1 _ I1 q1) fun u s2 ⟨x, H2, I2, rx, q2⟩=>thn (hi pins s2 σ H2 _ I2 q2) fun iv s3 ⟨y, H3, I3, ry, a, H4, ex, g, q3⟩=>?_) hs
 subst ex
 obtain rfl : u = Value.ref a:=rx
 exact zafw hu I3 g ry rv fun s4 I4=>⟨σ, H4, I4, q3⟩
end
theorem zacd {P : Program} {w : World} {H : Hp} (h : Heap) (hb : sysModules < h.objs.size) : zgq P w H (h.push { cls:=.type "dict", data:=.dict #[] }) h.objs.size (.dK []) :=
 ⟨Nat.zero_le _, beq_eq_false_iff_ne.mpr (Ne.symm (Nat.ne_of_lt hb)), [], .nil, Heap.DictOf.new h⟩
noncomputable def tDNewK : TE:=fun _ H Q=>∀ p, H p = none → Q (.ref p) (upd H p (.dK []))
section
variable {X : Cx} {pos : Pos}
theorem zajr : PE X (.Dict [] [] pos) tDNewK:=fun pins s σ H Q I h =>
 wpAny_Dict_empty ⟨.ref s.heap.objs.size, _, I.laid (a:=s.heap.objs.size) (o:=.dK []) (t':=s.toks) (fun _ _ q=>Heap.get?_push_of_some _ q) (Nat.le_refl _) (zacd s.heap I.big), rfl, h _ (I.hok.fresh (Nat.le_refl _))⟩
end
noncomputable def zafx : List (TE × TE) → St → Hp → (List (V × V) → Hp → Prop) → Prop
 | [], _, H, Q=>Q [] H
 | (tk, tv) :: r, σ, H, Q=>tk σ H fun x H1=>tv σ H1 fun y H2=>zafx r σ H2 fun ps H3=>Q ((x, y) :: ps) H3
noncomputable abbrev VV : List (V × V) → List (Value × Value) → Prop:=Paired fun p q=>RelV p.1 q.1 ∧ RelV p.2 q.2
noncomputable def PPs (X : Cx) (pos : Pos) (keys : List (Option Expr)) (values : List Expr) (trs : List (TE × TE)) : Prop :=
 ∀ (pins : List (Addr × Obj)) (s : Shared) (σ : St) (H : Hp) (Q : List (V × V) → Hp → Prop), Inv X pins σ H s → zafx trs σ H Q →
  wpAny (model X.prog X.w) X.A (evalPairs (pairTrees keys values X.env pos)) (fun vs s'=>∃ ps H', Inv X pins σ H' s' ∧ VV ps vs ∧ Q ps H') X.xe s
theorem zanf {X : Cx} {pos : Pos} : PPs X pos [] [] []:=fun pins s σ H Q I h=>pairTrees_nil_walk ⟨[], H, I, .nil, h⟩
theorem zajs {X : Cx} {pos : Pos} {k v : Expr} {ks : List (Option Expr)} {vs : List Expr} {tk tv : TE} {trs : List (TE × TE)} (hk : PE X k tk) (hv : PE X v tv) (hr : PPs X pos ks vs trs) :
  PPs X pos (some k :: ks) (v :: vs) ((tk, tv) :: trs):=fun pins s σ H Q I h =>
 pairTrees_cons_walk (thn (hk pins s σ H _ I h) fun u s1 ⟨x, H1, I1, rx, q1⟩=>thn (hv pins s1 σ H1 _ I1 q1) fun w2 s2 ⟨y, H2, I2, ry, q2⟩ =>
  thn (hr pins s2 σ H2 _ I2 q2) fun ws s3 ⟨ps, H3, I3, rel, q3⟩=>⟨(x, y) :: ps, H3, I3, .cons ⟨rx, ry⟩ rel, q3⟩)
noncomputable def zje (kvs more : List (Key × V)) : List (Key × V):=more.foldl (fun acc kv=>putK acc kv.1 kv.2) kvs
theorem KV.merge : ∀ {more : List (Key × V)} {rs : List (Key × Value)} {kvs : List (Key × V)} {vs : List (Key × Value)}, KV more rs → KV kvs vs → KV (zje kvs more) (merged vs rs):=by
 intro more rs kvs vs r
 unfold KV at r
 induction r generalizing kvs vs with
 | nil=>intro q; exact q
 | @cons p q ps qs h t ih =>
  intro r0
  have e : KV (putK kvs p.1 p.2) (stored vs q.1 q.2):=by
   have:=r0.put p.1 h.2
   rw [← h.1]; exact this
  exact ih e
theorem zid : ∀ (more kvs : List (Key × V)), (zje kvs more).length ≤ kvs.length + more.length
 | [], kvs=>by show kvs.length ≤ kvs.length + 0; omega
 | p :: r, kvs=>by
  have h1:=zid r (putK kvs p.1 p.2)
  have h2:=zmo kvs p.1 p.2
  show (zje (putK kvs p.1 p.2) r).length ≤ _
  rw [List.length_cons]; omega
theorem zua {P : Program} {w : World} : ∀ {kvs : List (Key × V)} {ws : List (Value × Value)}, VV (kvs.map fun kv=>(kV kv.1, kv.2)) ws → ∃ rs, Carries (zdd P w) ws rs ∧ KV kvs rs
 | [], _, r=>by rw [List.map_nil] at r; cases r; exact ⟨[], True.intro, .nil⟩
 | p :: kvs, _, r=>by
  rw [List.map_cons] at r
  cases r with
  | @cons a b as bs h t =>
   obtain ⟨rs, c, q⟩:=zua (P:=P) (w:=w) t
   obtain ⟨b1, b2⟩:=b
   exact ⟨(p.1, b2) :: rs, ⟨zaec h.1, rfl, c⟩, .cons ⟨rfl, h.2⟩ q⟩
noncomputable def tDisp (trs : List (TE × TE)) : TE:=fun σ H Q=>∀ p, H p = none → zafx trs σ (upd H p (.dK [])) fun ps H2=>H2 p = some (.dK []) ∧ ∃ kvs : List (Key × V), ps = kvs.map (fun kv=>(kV kv.1, kv.2)) ∧ kvs.length ≤ 15 ∧ Q (.ref p) (upd H2 p (.dK (zje [] kvs)))
theorem zang {X : Cx} {pos : Pos} {keys : List (Option Expr)} {values : List Expr} {trs : List (TE × TE)} (h : PPs X pos keys values trs) (hall : keys.all (·.isSome) = true) (hl : keys.length = values.length) (h0 : keys ≠ [])
  (h15 : keys.length ≤ 15) : PE X (.Dict keys values pos) (tDisp trs):=by
 intro pins s σ H Q I q
 have hn:=I.hok.fresh (Nat.le_refl s.heap.objs.size)
 have I1:=I.laid (a:=s.heap.objs.size) (o:=.dK []) (h':=s.heap.push { cls:=.type "dict", data:=.dict #[] }) (t':=s.toks) (fun _ _ q=>Heap.get?_push_of_some _ q) (Nat.le_refl _) (zacd s.heap I.big)
 refine wpAny_Dict_walk (knd:=zdd X.prog X.w) hall hl h0 h15 (thn (h pins _ σ _ _ I1 (q _ hn)) fun ws s2 ⟨ps, H2, I2, rel, e, kvs, ep, lk, q2⟩=>?_)
 subst ep
 obtain ⟨rs, c, rk⟩:=zua (P:=X.prog) (w:=X.w) rel
 obtain ⟨z, hd, vs0, r0, dd⟩:=zajp I2.hok e
 cases r0
 refine ⟨rs, c, dd, fun h' dd' hs=>⟨.ref s.heap.objs.size, _, ?_, rfl, q2⟩⟩
 have hz : (zje [] kvs).length ≤ sizeLine:=by
  have h1:=zid kvs []
  rw [List.length_nil] at h1
  rw [sizeLine_eq]; omega
 have he : ∃ q, h'.get? s.heap.objs.size = some q:=let ⟨q, _, _, hq, _⟩:=dd'; ⟨q, hq⟩
 exact zuy I2 (by rw [e]; exact True.intro) hs he (zacc hz hd (rk.merge .nil) dd')
set_option genInjectivity false in
set_option genInjectivity false in
section
variable {X : Cx} {pins : List (Addr × Obj)} {σ : St} {H : Hp} {s : Shared} {a : Addr} {y d : V} {u r : Value} {o : Option V} {A : Around} {E : Value → Shared → Prop}
end
section
variable {X : Cx} {o e f : Expr} {apos cpos : Pos} {td ty tx : TE}
end
section
variable {X : Cx} {pins : List (Addr × Obj)} {σ : St} {H : Hp} {s : Shared} {a : Addr} {kvs : List (Key × V)} {A : Around} {E : Value → Shared → Prop}
end
section
variable {X : Cx} {pins : List (Addr × Obj)} {σ : St} {H : Hp} {s : Shared} {a : Addr} {y : V} {u : Value} {A : Around} {E : Value → Shared → Prop}
end
end L2
namespace Att
open PySem PySem.W PySem.Calls PyProof.Rows
theorem zrc {P : Params} {h : Heap} : ∀ (ns : List Int) (vs : List Value), WellAll P h vs (ns.map WData.int) → IntsAre vs ns:=by
 intro ns
 induction ns with
 | nil =>
  intro vs w
  rw [List.map_nil] at w
  cases w
  exact .nil
 | cons n ns ih =>
  intro vs w
  rw [List.map_cons] at w
  cases w with
  | cons a b =>
   cases a
   exact .cons _ _ (ih _ b)
theorem zafy {l : OpenLaw} {n : Nat} (hn : l.most = some n) {P : Params} {h : Heap} {args : List WData} {vals : List Value}
  (hpre : l.row.toRowW.claim.pre args = true) (hwl : WellAll P h vals args) :
  ∃ a vs ns, vals = [Value.ref a] ∧ args = [WData.list (ns.map WData.int)] ∧ h.get? a = some { cls:=.type "list", data:=.seq vs.toArray } ∧ IntsAre vs ns ∧ ns.length ≤ n:=by
 have hsh : WShape.hasAll [] args [.list .int] = true:=(pre_splitW hpre).1
 have hc : l.pre.holds [] { args:=args } = true:=(pre_splitW hpre).2
 obtain ⟨d, r, rfl, h1, h2⟩:=hasAllW_cons hsh
 obtain rfl:=hasAllW_nil h2
 obtain ⟨xs, rfl, h3⟩:=hasW_list h1
 obtain ⟨ns, rfl⟩:=items_int h3
 have hlen : ns.length ≤ n:=by
  unfold OpenLaw.pre at hc
  have h4 : (WTm.not (.lt (.lit (.int (n : Int))) (.len (.arg 0)))).holds [] { args:=[.list (ns.map .int)] } = true:=by
   have h4:=(holds_andW hc).1
   rw [hn] at h4
   exact h4
  have h5:=condW_of h4 (w_not (w_lt w_lit (w_len_list (w_arg rfl))))
  rw [List.length_map] at h5
  refine Nat.le_of_not_lt fun q=>?_
  have q' : (n : Int) < ((ns.length : Nat) : Int):=by omega
  first
   | (rw [decide_eq_true q'] at h5; exact absurd h5 (by decide))
   | (simp at h5; omega)
 cases hwl with
 | cons w1 w2 =>
  cases w2
  cases w1 with
  | list ho hall=>exact ⟨_, _, ns, rfl, rfl, ho, zrc ns _ hall, hlen⟩
theorem zafz (l : OpenLaw) (args : List WData) : l.row.toRowW.claim.post args (.bool true) args = true :=
 postW_of (r:=l.row.toRowW) (X:=(true == true))
  (show WShape.has [] (.bool true) .bool = true by first | rfl | decide | simp [WShape.has, WShape.arms, WShape.armsAll])
  (show (WTm.eq .res (.lit (.bool true))).value [] { args:=args, res:=some (.bool true), after:=args } = some (.bool (true == true)) from w_eq_bool (w_res rfl) w_lit) rfl
theorem attach_call {l : OpenLaw} {n : Nat} {q : Program} {loose : List Str} {XP : (Str → Option Value) → Heap → Prop} {YP : World → Heap → Prop} {d : DefRec}
  (hn : l.most = some n) (hdf : d.params.defaults = [])
  (call : ∀ (w : World) (s₀ s₁ : Shared) (mg mb : Str → Option Value) (fa : Addr) (o : Obj) (pm cd doc : Value) (a : Addr) (vs : List Value) (ns : List Int),
   Ground q loose [] XP w s₀ mg mb s₁.heap → YP w s₁.heap →
   s₁.heap.get? fa = some o → o.data = .func (docDef d.name d.params d.body d.scope pm cd doc) → s₁.heap.CodeRec cd d.name → mg d.name = some (.ref fa) →
   s₁.heap.get? a = some { cls:=.type "list", data:=.seq vs.toArray } → IntsAre vs ns → ns.length ≤ n → s₁.gens = #[] →
   codeAny (model l.prog w) callerA (.call (.ref fa) ⟨[.ref a], []⟩) (fun r s'=>r = .ok (.ret (.bool true)) ∧ OldK s₁.heap s'.heap ∧ s'.os = s₁.os ∧ AllBare s'.gens) s₁) :
  WalkO q loose XP YP l.row.toRowW d [] (fun f vs=>PySem.call f vs):=by
 intro w s₀ s₁ mg mb G Y fa o pm cd doc dV kV ho hd hcd hD hmg hg args vals as hpre hlay hrd hwl hlo
 obtain rfl : dV = .none:=Dflts.none hD hdf
 obtain rfl : kV = .none:=Dflts.noKw hD
 obtain ⟨a, vs, ns, rfl, rfl, hobj, hints, hlen⟩:=zafy hn hpre hwl
 refine enter_call (codeAny_mono (call w s₀ s₁ mg mb fa o pm cd doc a vs ns G Y ho (fd_plain hd) hcd hmg hobj hints hlen hg) fun r s' hq=>?_)
 obtain ⟨rfl, h2, h3, h4⟩:=hq
 exact ⟨.inl ⟨.bool true, .bool true, [], rfl, fun _=>rfl, .bool true, zafz l _, fun _=>⟨List.Pairwise.nil, fun _ hm=>(nomatch hm)⟩⟩, h2, h3, h4⟩
section
variable {prog : Program} {w : World} {A : Around} {E : Value → Shared → Prop} {s : Shared} {K : Frag}
end
end Att
namespace L2
open PySem PySem.Spec PyProof.Rows
theorem zxh : ∀ {vs : List Value} {ns : List Int}, IntsAre vs ns → Vals (ns.map V.int) vs
 | _, _, .nil=>.nil
 | _, _, .cons n t h=>.cons ⟨t, rfl⟩ (zxh h)
noncomputable def Only (H : Hp) : Prop:=∀ b, H b = none ∨ ∃ o xs, H b = some (.frz o (.lst xs))
theorem zajt {P : Program} {w : World} {K : PySem.W.Frag} {mg mb : Str → Option Value} {CX : CXT} {k : Nat} {fa a : Addr} {fd : FuncData} {x : Str} {sp : Sp} {s₁ : Shared} {vs : List Value} {ns : List Int}
  (KX : K.In s₁.heap) (hns : s₁.heap.Ns mainGlobals mg) (hb : s₁.heap.Ns builtinsNs mb) (hbb : ∀ x : Str, x ≠ "__name__" → mb x = bootBuiltins x) (hlim : s₁.heap.NoLimit) (hg : s₁.gens = #[])
  (ha : s₁.heap.get? a = some { cls:=.type "list", data:=.seq vs.toArray }) (hi : IntsAre vs ns) (hl : ns.length ≤ sizeLine) (hr : Room k callerA)
  (F : ∀ base : Heap, K.In base → base.Ns mainGlobals mg → FnOk P w K mg base CX k fa fd [x] sp) (hbind : ∀ (s : Shared) (u : Value), BindsTo s fd ⟨[u], []⟩ [(x, u)])
  (hsp : ∀ H : Hp, Only H → SqL K H a (ns.map V.int) → sp [.ref a] H (fun v _=>v = .bl true) fun _ _ _=>False)
  (hCX : ∀ H e s', CX [] H s₁ (fun _ _ _=>False) e s' → False) :
  codeAny (model P w) callerA (.call (.ref fa) ⟨[.ref a], []⟩) (fun r s'=>r = .ok (.ret (.bool true)) ∧ OldK s₁.heap s'.heap ∧ s'.os = s₁.os ∧ AllBare s'.gens) s₁:=by
 have rv:=zxh hi
 have lenV:=hi.length
 have core : ∀ H : Hp, Only H → SqL K H a (ns.map V.int) → HOk P w H s₁.heap → (∀ b, H b ≠ none → b = a) → (H a ≠ none → K.lookup a = none) →
   codeAny (model P w) callerA (.call (.ref fa) ⟨[.ref a], []⟩) (fun r s'=>r = .ok (.ret (.bool true)) ∧ OldK s₁.heap s'.heap ∧ s'.os = s₁.os ∧ AllBare s'.gens) s₁:=by
  intro H hO hS hok hA hK
  have base_of : ∀ {b : Addr} {o : Obj}, s₁.heap.get? b = some o → H b = none → (hidT s₁.heap H).get? b = some o:=fun e n=>zajf e n
  have noA : ∀ {b : Addr} {o : Obj} {es : Array DictEntry} {ep : Nat}, s₁.heap.get? b = some o → o.data = .dict es ep → H b = none:=fun {b o es ep} e d=>by
   cases q : H b with
   | none=>rfl
   | some u =>
    have e' : b = a:=hA b (by rw [q]; simp)
    subst e'
    rw [ha] at e; cases e
    have d' : Data.seq vs.toArray _ = Data.dict es ep:=d
    cases d'
  have nsK : ∀ {b : Addr} {m : Str → Option Value}, s₁.heap.Ns b m → (hidT s₁.heap H).Ns b m:=fun {b m} ⟨o, es, ep, e, d, r⟩=>⟨o, es, ep, base_of e (noA e d), d, r⟩
  have hKb : K.In (hidT s₁.heap H):=fun b o e=>base_of (KX b o e) (by
   cases q : H b with
   | none=>rfl
   | some u =>
    have e' : b = a:=hA b (by rw [q]; simp)
    subst e'
    rw [hK (by rw [q]; simp)] at e; cases e)
  have hM : Mod K mg (hidT s₁.heap H):=⟨hKb, nsK hns, ⟨mb, nsK hb, hbb⟩, let ⟨mc, h1, h2⟩:=hlim; ⟨mc, nsK h1, h2⟩⟩
  have e0 : Env0 P w K mg (hidT s₁.heap H) callerA [] s₁ H:=⟨rfl, hM, fun b o e=>zamm e, Nat.le_of_eq (zafg _ _), trivial, fun b hb=>absurd (show b ∈ ([] : List Addr) from hb) (by simp), hok, .of_eq hg⟩
  refine codeAny_mono ((F _ hKb (nsK hns)).run callerA [] s₁ H ⟨[.ref a], []⟩ [.ref a] [.ref a] _ _ hr e0 (hbind s₁ (.ref a)) (.cons rfl .nil) (hsp H hO hS)) fun r s' h=>?_
  cases r with
  | error e=>exact (hCX H e s' h).elim
  | ok fl =>
   cases fl with
   | next=>exact False.elim h
   | brk=>exact False.elim h
   | cont=>exact False.elim h
   | ret u =>
    obtain ⟨v, H', os, bare, un, hok', r', q⟩:=h
    have q' : v = .bl true:=q
    subst q'
    obtain rfl : u = Value.bool true:=r'
    refine ⟨rfl, OldK.of_keep fun b o e=>?_, os, bare⟩
    cases q : H b with
    | none=>exact un.keep b o e q (by intro z; exact absurd (show b ∈ ([] : List Addr) from z) (by simp)) (by simp)
    | some u =>
     rcases hO b with z | ⟨ob, xs, z⟩
     ·rw [q] at z; cases z
     ·have z2:=un.frzs b ob _ z
      obtain ⟨e1, _⟩:=hok b _ z
      obtain ⟨e2, _⟩:=hok' b _ z2
      rw [e] at e1; cases e1
      exact e2
 cases hk : K.lookup a with
 | some o =>
  have e:=KX a o hk
  rw [ha] at e
  cases e
  refine core (fun _=>none) (fun _=>.inl rfl) (.inr ⟨_, vs.toArray, _, hk, rfl, rfl, rfl, by rw [List.size_toArray, lenV]; exact hl, by simpa using rv⟩) (fun b u z=>by have z' : (none : Option HO) = some u:=z; cases z') (fun b z=>absurd rfl z) fun z=>absurd rfl z
 | none =>
  refine core (fun b=>if b = a then some (.frz { cls:=.type "list", data:=.seq vs.toArray } (.lst (ns.map V.int))) else none) (fun b=>?_) (.inl (.inr ⟨{ cls:=.type "list", data:=.seq vs.toArray }, if_pos rfl⟩)) (fun b u z=>?_) (fun b z=>?_) fun _=>hk
  ·by_cases hb : b = a
   ·exact .inr ⟨_, _, if_pos hb⟩
   ·exact .inl (if_neg hb)
  ·by_cases hb : b = a
   ·have z':=(if_pos hb).symm.trans z
    cases z'
    subst hb
    exact ⟨ha, by rw [List.length_map]; exact hl, vs, _, rv, ha⟩
   ·have z':=(if_neg hb).symm.trans z
    cases z'
  ·by_cases hb : b = a
   ·exact hb
   ·exact absurd (if_neg hb) z
end L2
namespace L2
open PySem PySem.Spec PyProof.Rows
theorem walk_of {l : PySem.W.OpenLaw} {n k : Nat} {q : Program} {loose : List Str} {XP : (Str → Option Value) → Heap → Prop} {YP : World → Heap → Prop} {d : DefRec} {K : Params → PySem.W.Frag} {CX : World → CXT} {sp : World → Sp} {x : Str}
  (hn : l.most = some n) (hn2 : n ≤ sizeLine) (hdf : d.params.defaults = []) (hr : Room k callerA)
  (hY : ∀ (w : World) (h : Heap), YP w h → (K w.params).In h)
  (F : ∀ (w : World) (mg : Str → Option Value) (fa : Addr) (h : Heap), (K w.params).In h → h.Ns mainGlobals mg → mg d.name = some (.ref fa) →
   ∃ fd : FuncData, (∀ (s : Shared) (u : Value), BindsTo s fd ⟨[u], []⟩ [(x, u)]) ∧
    ∀ base : Heap, (K w.params).In base → base.Ns mainGlobals mg → FnOk l.prog w (K w.params) mg base (CX w) k fa fd [x] (sp w))
  (hsp : ∀ (w : World) (H : Hp) (a : Addr) (ns : List Int), ns.length ≤ n → Only H → SqL (K w.params) H a (ns.map V.int) → sp w [.ref a] H (fun v _=>v = .bl true) fun _ _ _=>False)
  (hCX : ∀ (w : World) (H : Hp) (s : Shared) (e : Value) (s' : Shared), CX w [] H s (fun _ _ _=>False) e s' → False) :
  PySem.W.WalkO q loose XP YP l.row.toRowW d [] (fun f vs=>PySem.call f vs):=by
 refine Att.attach_call hn hdf fun w s₀ s₁ mg mb fa o pm cd doc a vs ns G Y ho hd hcd hmg hobj hints hlen hg=>?_
 have KX:=hY w _ Y
 obtain ⟨fd, hb, hF⟩:=F w mg fa _ KX G.T.g hmg
 exact zajt KX G.T.g G.T.b G.T.builtins G.T.nolimit hg hobj hints (Nat.le_trans hlen hn2) hr hF hb (fun H hO hS=>hsp w H a ns hlen hO hS) fun H e s'=>hCX w H s₁ e s'
end L2
/- THE LAST THEOREM (shape; LID, My.* are yours):
  My.Adr: a structure of the addresses that your layer names (classes, functions); My.Txt K t: a structure (Prop) of the equations over K;
  My.txt_mk : {K} {implicit addresses ..} (e1 : nsIn K mainGlobals "law" = some (some (.ref f))) (e2 : K.lookup f = some ⟨oc, od, .func (fnOf "law" "law" params body scope dV kV doc pm an cdv ct), sl⟩) (e3 : codeIn K cdv "law" = true) .. : ∃ t, My.Txt K t
set_option maxRecDepth 100000 in
set_option maxHeartbeats 0 in
theorem PySem.Challenge.cw_LID_holds : PySem.Challenge.rw_LID.Holds := by
 w_on; o_law; k_head; (case hw=>w_witness2)
 k_fill
 refine L2.walk_of (l:=PySem.Challenge.rw_LID) (n:=63) (k:=40) (x:="script") (CX:=fun w=>..) (sp:=fun _=>My.sp_law) rfl (by decide) rfl ⟨rfl, by decide, by decide⟩ (fun w h Y=>PySem.W.kIn_of Y) ?F ?S ?C
 case F =>
  intro w mg fa h KX G hmg
  have T : ∃ t, My.Txt (L2.KOf KX) t:=by
   dsimp only [L2.KOf]                          -- K must stand as «<heap const> w.params» for k_is
   refine' My.txt_mk ?e1 ?e2 ?e3 ..
   (case e1=>PySem.W.k_is)                    -- in the order: a name -> its address -> its object -> its parts
   (case e2=>PySem.W.k_is)
   ..
  obtain ⟨t, T⟩:=T
  have e0:=hmg.symm.trans (PySem.W.mg_of KX G T.law)
  cases e0                                       -- fa is the law's own address
  exact ⟨_, fun s u=>.of_eq rfl, fun base kb nb=>My.law_fn T kb nb⟩     -- if «.of_eq rfl» comes too early: refine' ⟨_, ?b, fun base kb nb=>My.law_fn T kb nb⟩; exact fun s u=>.of_eq rfl
 case S=>exact fun w H a ns hl hO hS=>..
 case C=>exact ..
(the tactic k_is has no namespace: write k_is) -/
namespace L2
open PySem PySem.Spec PyProof.Rows
noncomputable def zbr (s : Stmt) : Arguments:=match s with
 | .FunctionDef _ a _ _ _ _ _ _ _ _=>a
 | _=>{ posonlyargs:=[], args:=[], vararg:=none, kwonlyargs:=[], kw_defaults:=[], kwarg:=none, defaults:=[] }
noncomputable def zbp (s : Stmt) : List Stmt:=match s with
 | .FunctionDef _ _ b _ _ _ _ _ _ _=>b
 | _=>[]
noncomputable def zao (s : Stmt) : Scope:=match s with
 | .FunctionDef _ _ _ _ _ _ sc _ _ _=>sc
 | _=>{ kind:=.function, names:=[], isGenerator:=false, isCoroutine:=false }
noncomputable abbrev CX0 : CXT:=fun _ _ _ _ _ _=>False
noncomputable abbrev E0 : XK:=fun _ _ _=>False
theorem zari {X : Cx} : zafp CX0 X E0:=fun _ _ _ _ _ _ _ h=>h.elim
set_option genInjectivity false in
structure Fun (K : PySem.W.Frag) (x qual : Str) (st : Stmt) (f : Addr) (fd : FuncData) : Prop where
 ex : ∃ (oc : Value) (od : Option Addr) (kV doc pm : Value) (an : Option Addr) (cdv ct : Value) (osl : Array (Option Value)),
  fd = PySem.W.fnOf x qual (zbr st) (zbp st) (zao st) .none kV doc pm an cdv ct ∧ K.lookup f = some ⟨oc, od, .func fd, osl⟩ ∧ PySem.W.codeIn K cdv qual = true
 kp : PySem.W.keepIn K (.ref f) = true
section
variable {P : Program} {w : World} {K : PySem.W.Frag} {mg : Str → Option Value} {base : Heap}
theorem Fun.ok {x qual : Str} {st : Stmt} {f : Addr} {fd : FuncData} {N ps : List Str} {k : Nat} {sp : Sp} (F : Fun K x qual st f fd) (S : FnScope N ps (zao st)) (len : ∀ vs H Q E, sp vs H Q E → vs.length = ps.length)
  (hbody : ∀ (cdv : Value) (A : Around) (outer : List Env) (s : Shared) (H : Hp) (vs : List V) (Q : VK) (E : XK), Room k (A.deeper (envOfC qual (zao st) s.heap.objs.size f cdv)) → sp vs H Q E →
   ∃ t, PSs (cxOf CX0 P w K mg base N qual (zao st) f cdv A outer s H E).nox (zbp st) t ∧ t { nx:=fun _ H'=>Q .non H', rt:=Q } (zqe N vs) H) : FnOk P w K mg base CX0 (k + 1) f fd ps sp:=by
 obtain ⟨oc, od, kV, doc, pm, an, cdv, ct, osl, rfl, lk, hcd⟩:=F.ex
 refine zarf lk hcd S len fun A outer s H vs Q E hr hsp=>?_
 obtain ⟨t, h, q⟩:=hbody cdv A outer s H vs Q E hr hsp
 exact ⟨t, h.nox, q⟩
theorem Fun.binds {x qual : Str} {st : Stmt} {f : Addr} {fd : FuncData} {ps : List Str} (F : Fun K x qual st f fd)
  (h : ∀ (kV doc pm : Value) (an : Option Addr) (cdv ct : Value) (us : List Value), us.length = ps.length → bindArgs (PySem.W.fnOf x qual (zbr st) (zbp st) (zao st) .none kV doc pm an cdv ct) ⟨us, []⟩ = pure (ps.zip us)) : zaeb K fd ps []:=by
 obtain ⟨oc, od, kV, doc, pm, an, cdv, ct, osl, rfl, lk, hcd⟩:=F.ex
 exact .all (h kV doc pm an cdv ct)
theorem zct {x qual : Str} {st : Stmt} {f : Addr} {oc : Value} {od an : Option Addr} {osl : Array (Option Value)} {kV doc pm cdv ct : Value} (l : K.lookup f = some ⟨oc, od, .func (PySem.W.fnOf x qual (zbr st) (zbp st) (zao st) .none kV doc pm an cdv ct), osl⟩)
  (c : PySem.W.codeIn K cdv qual = true) (k : PySem.W.keepIn K (.ref f) = true) : Fun K x qual st f (PySem.W.fnOf x qual (zbr st) (zbp st) (zao st) .none kV doc pm an cdv ct):=⟨⟨oc, od, kV, doc, pm, an, cdv, ct, osl, rfl, l, c⟩, k⟩
end
theorem zfe {A : Around} {k : Nat} (hr : Room k A) : A.units + 1 < cLine:=Nat.lt_of_le_of_lt (Nat.add_le_add_left (by decide : 1 ≤ 64) _) hr.units
section
variable {X : Cx}
theorem pv (i : Nat) {x : Str} {pos : Pos} (hN : X.N[i]? = some x:=by rfl) (hv : visB X.env.scope x = true:=by rfl) (hd : (x == ("__debug__" : Str)) = false:=by decide)
  (hcd : (x == ("__classdict__" : Str)) = false:=by decide) : PE X (.Name x pos) (tVar i):=zalq hN (visB.of hv) hd hcd
end
theorem iteF {A B : Prop} (h : B) : if false = true then A else B:=by
 rw [if_neg Bool.false_ne_true]
 exact h
theorem iteT {A B : Prop} (h : A) : if true = true then A else B:=by
 rw [if_pos rfl]
 exact h
theorem ite2 {c A B : Prop} [Decidable c] (h1 : c → A) (h2 : ¬ c → B) : if c then A else B:=by
 by_cases h : c
 ·rw [if_pos h]
  exact h1 h
 ·rw [if_neg h]
  exact h2 h
noncomputable def Same (H H' : Hp) : Prop:=∀ b o, H b = some o → H' b = some o
theorem Same.refl (H : Hp) : Same H H:=fun _ _ h=>h
theorem Same.trans {H H1 H2 : Hp} (a : Same H H1) (b : Same H1 H2) : Same H H2:=fun c o h=>b c o (a c o h)
theorem Same.free {H H' : Hp} (e : Same H H') {l : Addr} (h : H' l = Option.none) : H l = Option.none:=by
 cases q : H l with
 | none=>rfl
 | some o =>
  rw [e l o q] at h
  cases h
theorem Same.seq {K : PySem.W.Frag} {H H' : Hp} {a : Addr} {xs : List V} (e : Same H H') (h : SqL K H a xs) : SqL K H' a xs:=by
 rcases h with (h | ⟨o, h⟩) | h
 ·exact .inl (.inl (e _ _ h))
 ·exact .inl (.inr ⟨o, e _ _ h⟩)
 ·exact .inr h
section
variable {κ : Type} [DecidableEq κ]
theorem zaam : ∀ {l : List κ} {k : κ}, l.Nodup → ¬ k ∈ l → (l ++ [k]).Nodup
 | [], k, _, _=>by simp
 | a :: r, k, h, hk=>by
  obtain ⟨h1, h2⟩:=List.nodup_cons.mp h
  show (a :: (r ++ [k])).Nodup
  refine List.nodup_cons.mpr ⟨fun m=>?_, zaam h2 fun m=>hk (List.mem_cons.mpr (Or.inr m))⟩
  rcases List.mem_append.mp m with q | q
  ·exact h1 q
  ·exact hk (List.mem_cons.mpr (Or.inl (List.mem_singleton.mp q).symm))
end
end L2
set_option maxHeartbeats 4000000
namespace L2
open PySem PySem.Spec PyProof.Rows
noncomputable def clos (cells : List (Str × Addr)) : List (Str × NameKind) → List (Str × Addr) → List (Str × Addr)
 | [], acc=>acc
 | (n, k) :: r, acc=>if k == .free then clos cells r ((n, (cells.lookup n).getD 0) :: acc) else clos cells r acc
theorem zuz {cells : List (Str × Addr)} : ∀ {names : List (Str × NameKind)} {acc : List (Str × Addr)}, (∀ y ∈ names, y.2 = .free → ∃ c, cells.lookup y.1 = some c) → ∀ p ∈ clos cells names acc, p ∈ acc ∨ ((p.1, NameKind.free) ∈ names ∧ cells.lookup p.1 = some p.2)
 | [], acc, _, p, hp=>.inl hp
 | (n, k) :: r, acc, h, p, hp=>by
  unfold clos at hp
  have hr : ∀ y ∈ r, y.2 = .free → ∃ c, cells.lookup y.1 = some c:=fun y hy=>h y (List.mem_cons_of_mem _ hy)
  split at hp
  ·rename_i hk
   rcases zuz hr p hp with q | q
   ·rcases List.mem_cons.mp q with q | q
    ·subst q
     have hk' : k = .free:=by simpa using hk
     subst hk'
     obtain ⟨c, hc⟩:=h (n, .free) List.mem_cons_self rfl
     exact .inr ⟨List.mem_cons_self, by show cells.lookup n = some ((cells.lookup n).getD 0); rw [hc]; rfl⟩
    ·exact .inl q
   ·exact .inr ⟨List.mem_cons_of_mem _ q.1, q.2⟩
  ·rcases zuz hr p hp with q | q
   ·exact .inl q
   ·exact .inr ⟨List.mem_cons_of_mem _ q.1, q.2⟩
theorem zva {cells : List (Str × Addr)} : ∀ {names : List (Str × NameKind)} {acc : List (Str × Addr)}, ∀ p ∈ acc, p ∈ clos cells names acc
 | [], acc, p, hp=>hp
 | (n, k) :: r, acc, p, hp=>by
  unfold clos
  split
  ·exact zva p (List.mem_cons_of_mem _ hp)
  ·exact zva p hp
theorem zvb {cells : List (Str × Addr)} {x : Str} : ∀ {names : List (Str × NameKind)} {acc : List (Str × Addr)}, (x, NameKind.free) ∈ names → ∃ c, (x, c) ∈ clos cells names acc
 | [], _, h=>by simp at h
 | (n, k) :: r, acc, h=>by
  unfold clos
  rcases List.mem_cons.mp h with e | h
  ·cases e
   rw [if_pos (show (NameKind.free == NameKind.free) = true by decide)]
   exact ⟨_, zva _ List.mem_cons_self⟩
  ·split
   ·exact zvb h
   ·exact zvb h
theorem zng {α : Type} {x : Str} {c : α} : ∀ {l : List (Str × α)}, (x, c) ∈ l → ∃ c', l.lookup x = some c'
 | [], h=>by simp at h
 | (k, v) :: r, h=>by
  rw [List.lookup_cons]
  cases hb : x == k with
  | true=>exact ⟨v, rfl⟩
  | false =>
   rcases List.mem_cons.mp h with e | h
   ·cases e; simp at hb
   ·exact zng h
theorem znh {scope : Scope} {env : Env} (h : ∀ y ∈ scope.names, y.2 = .free → ∃ c, env.cells.lookup y.1 = some c) : closureFor scope env = pure (clos env.cells scope.names []):=by
 unfold closureFor
 have key : ∀ (names : List (Str × NameKind)) (acc : List (Str × Addr)), (∀ y ∈ names, y.2 = .free → ∃ c, env.cells.lookup y.1 = some c) →
   (forIn names acc (fun (x : Str × NameKind) (r : List (Str × Addr))=>(if (x.2 == .free) = true then (do let a ← cellOf env x.1; pure (ForInStep.yield ((x.1, a) :: r))) else pure (ForInStep.yield r) : Sem (ForInStep (List (Str × Addr)))))) = pure (clos env.cells names acc):=by
  intro names
  induction names with
  | nil=>intro acc _; rfl
  | cons y r ih =>
   intro acc hy
   obtain ⟨n, k⟩:=y
   have hr:=fun y (hm : y ∈ r)=>hy y (List.mem_cons_of_mem _ hm)
   rw [List.forIn_cons]
   unfold clos
   cases hk : (k == NameKind.free) with
   | true =>
    have hk' : k = .free:=by simpa using hk
    subst hk'
    obtain ⟨c, hc⟩:=hy (n, .free) List.mem_cons_self rfl
    have e1 : cellOf env n = pure c:=by unfold cellOf; rw [hc]
    simp only [if_true]
    have hc' : env.cells.lookup n = some c:=hc
    rw [e1, hc']
    simp only [pure_bind, Option.getD_some]
    exact ih _ hr
   | false =>
    simp only [Bool.false_eq_true, if_false, pure_bind]
    exact ih _ hr
 simpa using key scope.names [] h
theorem zie : ∀ (names : List (Str × NameKind)) (n : Nat) (acc : List (Str × Addr)), cellsFrom n names acc = cellsFrom n names [] ++ acc
 | [], _, _=>rfl
 | (name, kind) :: r, n, acc=>by
  unfold cellsFrom
  split
  ·rw [zie r (n + 1) ((name, n) :: acc), zie r (n + 1) [(name, n)], List.append_assoc]; rfl
  ·exact zie r n acc
theorem zif {x : Str} {c : Addr} : ∀ (names : List (Str × NameKind)) (n : Nat) (acc : List (Str × Addr)), (x, c) ∈ cellsFrom n names acc → (x, c) ∈ acc ∨ (x, NameKind.cell) ∈ names
 | [], _, _, h=>.inl h
 | (name, kind) :: r, n, acc, h=>by
  unfold cellsFrom at h
  split at h
  ·rename_i hk
   have hk' : kind = .cell:=by simpa using hk
   subst hk'
   rcases zif r _ _ h with q | q
   ·rcases List.mem_cons.mp q with q | q
    ·cases q; exact .inr List.mem_cons_self
    ·exact .inl q
   ·exact .inr (List.mem_cons_of_mem _ q)
  ·rcases zif r _ _ h with q | q
   ·exact .inl q
   ·exact .inr (List.mem_cons_of_mem _ q)
theorem zls {α : Type} {x : Str} : ∀ {l r : List (Str × α)}, (l ++ r).lookup x = (l.lookup x).or (r.lookup x)
 | [], _=>by simp
 | (k, v) :: l, r=>by
  rw [List.cons_append, List.lookup_cons, List.lookup_cons]
  cases x == k with
  | true=>rfl
  | false=>exact zls
theorem zho {env : Env} {x : Str} {k' : NameKind} : ∀ {names : List (Str × NameKind)},
  (names.map fun (n, k)=>if (k == NameKind.free && env.scope.kind == .function && env.kindOf n == some .cell) then (n, NameKind.cell) else (n, k)).lookup x = some k' →
  ∃ k, names.lookup x = some k ∧ (k' = k ∨ (k = .free ∧ k' = .cell))
 | [], h=>by simp at h
 | (n, k) :: r, h=>by
  rw [List.map_cons] at h
  by_cases hc : (k == NameKind.free && env.scope.kind == .function && env.kindOf n == some .cell) = true
  ·simp only [hc, if_true] at h
   rw [List.lookup_cons] at h ⊢
   cases hx : x == n with
   | true =>
    rw [hx] at h
    have hk : k = .free:=by simp at hc; exact hc.1.1
    exact ⟨k, rfl, .inr ⟨hk, (Option.some.inj h).symm⟩⟩
   | false=>rw [hx] at h; exact zho h
  ·simp only [hc, Bool.false_eq_true, if_false] at h
   rw [List.lookup_cons] at h ⊢
   cases hx : x == n with
   | true=>rw [hx] at h; exact ⟨k, rfl, .inl (Option.some.inj h).symm⟩
   | false=>rw [hx] at h; exact zho h
theorem zkr {env : Env} {x : Str} : ∀ {names : List (Str × NameKind)}, names.lookup x = some .free →
  ((names.map fun (n, k)=>if (k == NameKind.free && env.scope.kind == .function && env.kindOf n == some .cell) then (n, NameKind.cell) else (n, k)).lookup x = some .free ∨
   (names.map fun (n, k)=>if (k == NameKind.free && env.scope.kind == .function && env.kindOf n == some .cell) then (n, NameKind.cell) else (n, k)).lookup x = some .cell)
 | [], h=>by simp at h
 | (n, k) :: r, h=>by
  rw [List.map_cons]
  rw [List.lookup_cons] at h
  by_cases hc : (k == NameKind.free && env.scope.kind == .function && env.kindOf n == some .cell) = true
  ·simp only [hc, if_true]
   rw [List.lookup_cons]
   cases hx : x == n with
   | true=>exact .inr rfl
   | false=>rw [hx] at h; exact zkr h
  ·simp only [hc, Bool.false_eq_true, if_false]
   rw [List.lookup_cons]
   cases hx : x == n with
   | true=>rw [hx] at h; exact .inl h
   | false=>rw [hx] at h; exact zkr h
theorem zaed {M : Model} {A : Around} {E : Value → Shared → Prop} {s : Shared} {scope : Scope} {globals : Addr} {cl : List (Str × Addr)} {qual : Str} {env : Env} {Q : Env → Shared → Prop}
  (hQ : ∀ h', (∀ b o, s.heap.get? b = some o → h'.get? b = some o) → h'.Ns s.heap.objs.size (fun _=>none) → (∀ n c, (n, c) ∈ cellsFrom (s.heap.objs.size + 1) scope.names [] → h'.IsCell c none ∧ s.heap.objs.size + 1 ≤ c) →
   ((cellsFrom (s.heap.objs.size + 1) scope.names []).Pairwise fun x y=>x.2 ≠ y.2) →
   Q { scope:=scope, locals:=s.heap.objs.size, globals:=globals, cells:=cellsFrom (s.heap.objs.size + 1) scope.names [] ++ cl, qual:=qual, func:=none, code:=env.code, frame:=env.frame, builtins:=env.builtins } { s with heap:=h' }) :
  wpAny M A (newFunctionEnv scope globals cl [] qual none .none (some env)) Q E s:=by
 simp only [newFunctionEnv, Option.isSome_some, if_true]
 refine wpAny_bind (wpAny_alloc ?_)
 refine wpAny_bind (wpAny_layCells _ (fun name kind cells=>by cases hkc : kind == NameKind.cell <;> simp [hkc]) _ _ _ _ ?_)
 have ok:=cellsFrom_ok scope.names (s.heap.push { cls:=.type "dict", data:=.dict #[] }) (s.heap.objs.size + 1) [] ⟨fun _ _ hm=>(nomatch hm), List.Pairwise.nil⟩ (by rw [Heap.size_push]; exact Nat.le_refl _)
 rw [Heap.size_push] at ok
 rw [show ({ s with heap:=s.heap.push { cls:=.type "dict", data:=.dict #[] } } : Shared).heap.objs.size = s.heap.objs.size + 1 from Heap.size_push ..]
 rw [zie]
 refine wpAny_bind ?_
 refine wpAny_pure (wpAny_pure ?_)
 exact hQ _ (fun b o e=>pushCells_keeps _ _ b o (Heap.get?_push_of_some _ e)) ((Heap.Ns.new s.heap (.type "dict")).keeps (pushCells_keeps _ _)) ok.empty ok.apart
end L2
namespace L2
open PySem PySem.Spec PyProof.Rows
noncomputable def cxComp (X : Cx) (scope : Scope) (N' own : List Str) (cl : List (Str × Addr)) (C : Addr) (s : Shared) (H : Hp) (fp : List Addr) : Cx :=
 { X with N:=N', s₀:=s, H₀:=H, env:=compEnvC scope cl C X.env, outer:=X.stack, stack:=X.stack, ex:=fp, fn:=fun x=>own.contains x, pn:=[], xe:=fun _ _=>False }
structure CompOk (X : Cx) (scope : Scope) (N' own : List Str) (fr : List Nat) : Prop where
 kind : scope.kind = .function
 names : ∀ y ∈ scope.names, scope.names.lookup y.1 = some y.2
 up : ∀ y ∈ scope.names, y.2 = .free → (X.env.kindOf y.1 = some .cell ∨ X.env.kindOf y.1 = some .free)
 nm : N' = own ++ fr.map (fun j=>X.N.getD j Str.empty)
 fr : ∀ j ∈ fr, j < X.N.length ∧ scope.names.lookup (X.N.getD j Str.empty) = some .free
 own : ∀ x ∈ own, scope.names.lookup x = some .local ∨ scope.names.lookup x = some .cell
noncomputable def tau (own : List Str) (fr : List Nat) (σ : St) : St:=own.map (fun _=>none) ++ fr.map (fun j=>σ.getD j none)
section
variable {X : Cx} {pins : List (Addr × Obj)} {σ : St} {H : Hp} {s : Shared} {scope : Scope} {N' own : List Str} {fr : List Nat}
theorem zop (c : CompOk X scope N' own fr) (ok : X.Ok) : ∀ y ∈ scope.names, y.2 = .free → ∃ a, X.env.cells.lookup y.1 = some a:=fun y hy e=>ok.has y.1 (c.up y hy e)
theorem zaju {fp : List Addr} {h' : Heap} (c : CompOk X scope N' own fr) (I : Inv X pins σ H s)
  (hf : ∀ b ∈ fp, FpOk X pins H b) (ho : ∀ b ∈ fp, ∃ o, s.heap.get? b = some o ∧ ∀ v, o.data ≠ .cell v)
  (keep : ∀ b o, s.heap.get? b = some o → h'.get? b = some o) (ns : h'.Ns s.heap.objs.size (fun _=>none))
  (cells : ∀ n c, (n, c) ∈ cellsFrom (s.heap.objs.size + 1) scope.names [] → h'.IsCell c none ∧ s.heap.objs.size + 1 ≤ c)
  (apart : (cellsFrom (s.heap.objs.size + 1) scope.names []).Pairwise fun x y=>x.2 ≠ y.2) :
  Inv (cxComp X scope N' own (cellsFrom (s.heap.objs.size + 1) scope.names [] ++ clos X.env.cells scope.names []) s.heap.objs.size s H fp) [] (tau own fr σ) H { s with heap:=h' }:=by
 have found:=zop c I.ok
 have clm : ∀ x a, (x, a) ∈ clos X.env.cells scope.names [] → (x, NameKind.free) ∈ scope.names ∧ X.env.cells.lookup x = some a:=fun x a hm=>by
  rcases zuz found (x, a) hm with q | q
  ·simp at q
  ·exact q
 have look : ∀ x a, (cellsFrom (s.heap.objs.size + 1) scope.names [] ++ clos X.env.cells scope.names []).lookup x = some a →
   ((x, a) ∈ cellsFrom (s.heap.objs.size + 1) scope.names [] ∧ (x, NameKind.cell) ∈ scope.names) ∨ ((x, NameKind.free) ∈ scope.names ∧ X.env.cells.lookup x = some a):=fun x a e=>by
  rw [zls] at e
  cases q : (cellsFrom (s.heap.objs.size + 1) scope.names []).lookup x with
  | some b =>
   rw [q] at e
   cases e
   have hm:=PySem.mem_of_lookup q
   rcases zif _ _ _ hm with z | z
   ·simp at z
   ·exact .inl ⟨hm, z⟩
  | none =>
   rw [q] at e
   exact .inr (clm x a (PySem.mem_of_lookup e))
 have lookF : ∀ x a, (x, NameKind.free) ∈ scope.names → X.env.cells.lookup x = some a → (cellsFrom (s.heap.objs.size + 1) scope.names [] ++ clos X.env.cells scope.names []).lookup x = some a:=fun x a hx e=>by
  rw [zls]
  have q : (cellsFrom (s.heap.objs.size + 1) scope.names []).lookup x = none:=by
   cases q : (cellsFrom (s.heap.objs.size + 1) scope.names []).lookup x with
   | none=>rfl
   | some b =>
    rcases zif _ _ _ (PySem.mem_of_lookup q) with z | z
    ·simp at z
    ·have h1:=c.names _ hx
     have h2:=c.names _ z
     rw [h1] at h2
     cases h2
  rw [q]
  obtain ⟨d, hd⟩:=zvb (cells:=X.env.cells) (acc:=[]) hx
  obtain ⟨d', hd'⟩:=zng hd
  have:=(clm x d' (PySem.mem_of_lookup hd')).2
  rw [e] at this
  cases this
  exact hd'
 have below : ∀ b o, s.heap.get? b = some o → b < s.heap.objs.size:=fun b o e=>Heap.lt_size e
 have cold : ∀ x a, X.env.cells.lookup x = some a → a < s.heap.objs.size:=fun x a e=>let ⟨v, q⟩:=I.cell x a e; q.lt
 refine ⟨⟨I.ok.mod, c.kind, I.ok.glob, I.ok.blt, Nat.le_refl _, ?inj, ?has, ?cab, I.ok.hd, I.ok.frames, .inl rfl, ?exf, I.bs, Nat.le_trans I.ok.bsz I.sz, ?noex, ?exfs, I.stack, I.stkFree⟩,
  rfl, I.bare, Un.kept keep, ⟨_, ns, ?loc⟩, ?cell, I.hok.fresh (Nat.le_refl _), ?freeC, ?pin, I.hok.kept keep, ?len⟩
 case inj =>
  intro x y a h1 h2
  rcases look x a h1 with ⟨m1, k1⟩ | ⟨k1, e1⟩ <;> rcases look y a h2 with ⟨m2, k2⟩ | ⟨k2, e2⟩
  ·exact name_of_addr apart m1 m2
  ·exact absurd (Nat.lt_of_lt_of_le (cold y a e2) (Nat.le_of_succ_le (cells x a m1).2)) (Nat.lt_irrefl _)
  ·exact absurd (Nat.lt_of_lt_of_le (cold x a e1) (Nat.le_of_succ_le (cells y a m2).2)) (Nat.lt_irrefl _)
  ·exact I.ok.inj x y a e1 e2
 case has =>
  intro x hx
  have hx' : (∃ k, scope.names.lookup x = some k ∧ (k = .cell ∨ k = .free)):=by
   rcases hx with hx | hx
   ·obtain ⟨k, e, q⟩:=zho (env:=X.env) (names:=scope.names) hx
    rcases q with q | ⟨q, _⟩
    ·exact ⟨k, e, .inl q.symm⟩
    ·exact ⟨k, e, .inr q⟩
   ·obtain ⟨k, e, q⟩:=zho (env:=X.env) (names:=scope.names) hx
    rcases q with q | ⟨q, _⟩
    ·exact ⟨k, e, .inr q.symm⟩
    ·exact ⟨k, e, .inr q⟩
  obtain ⟨k, e, q⟩:=hx'
  show ∃ a, (cellsFrom (s.heap.objs.size + 1) scope.names [] ++ clos X.env.cells scope.names []).lookup x = some a
  rcases q with rfl | rfl
  ·obtain ⟨a, ha⟩:=zuv (n:=s.heap.objs.size + 1) e
   exact ⟨a, by rw [zls, ha]; rfl⟩
  ·obtain ⟨a, ha⟩:=found _ (PySem.mem_of_lookup e) rfl
   exact ⟨a, lookF x a (PySem.mem_of_lookup e) ha⟩
 case cab =>
  intro x a hx e
  have hx : own.contains x = true:=hx
  have hx' : x ∈ own:=by simpa using hx
  rcases look x a e with ⟨m1, _⟩ | ⟨k1, _⟩
  ·have:=(cells x a m1).2
   show s.heap.objs.size ≤ a
   omega
  ·have h1:=c.names _ k1
   rcases c.own x hx' with h2 | h2
   ·rw [h1] at h2; cases h2
   ·rw [h1] at h2; cases h2
 case exf =>
  intro b hb
  obtain ⟨o, e, d⟩:=ho b hb
  refine ⟨Nat.ne_of_lt (below b o e), fun x a q z=>?_⟩
  subst z
  rcases look x a q with ⟨m1, _⟩ | ⟨k1, e1⟩
  ·exact absurd (Nat.lt_of_lt_of_le (below a o e) (Nat.le_of_succ_le (cells x a m1).2)) (Nat.lt_irrefl _)
  ·obtain ⟨v, o', e', d'⟩:=I.cell x a e1
   rw [e] at e'
   cases e'
   exact d v d'
 case noex =>
  intro b o e hb
  rcases (hf b hb).2.2.2.1 with z | z
  ·exact I.ok.noex b o e z
  ·exact absurd (Nat.lt_of_lt_of_le (Nat.lt_of_lt_of_le (Heap.lt_size e) I.ok.bsz) z) (Nat.lt_irrefl _)
 case exfs =>
  intro b hb z
  rcases List.mem_cons.mp (I.stkSub b z) with q | q
  ·exact (hf b hb).2.1 q
  ·exact (hf b hb).2.2.1 q
 case loc =>
  intro i x v h1 h2 h3
  have h1 : N'[i]? = some x:=h1
  rw [c.nm] at h1
  unfold tau at h2
  by_cases hi : i < own.length
  ·rw [List.getElem?_append_left (by simpa using hi), List.getElem?_map] at h2
   cases q : own[i]? with
   | none=>rw [q] at h2; cases h2
   | some z=>rw [q] at h2; cases h2
  ·rw [List.getElem?_append_right (by simpa using hi), List.getElem?_map, List.length_map] at h2
   rw [List.getElem?_append_right (by simpa using hi), List.getElem?_map] at h1
   cases q : fr[i - own.length]? with
   | none=>rw [q] at h2; cases h2
   | some j =>
    rw [q] at h1 h2
    have e1 : X.N.getD j Str.empty = x:=Option.some.inj h1
    have e2 : σ.getD j none = some v:=Option.some.inj h2
    obtain ⟨hj, hfree⟩:=c.fr j (List.mem_of_getElem? q)
    rw [e1] at hfree
    have hNj : X.N[j]? = some x:=by
     rw [← e1, List.getD_eq_getElem?_getD, List.getElem?_eq_getElem hj]; rfl
    have hσj : σ[j]? = some (some v):=by
     rw [List.getD_eq_getElem?_getD] at e2
     cases z : σ[j]? with
     | none=>rw [z] at e2; cases e2
     | some w=>rw [z] at e2; rw [show w = some v from e2]
    have hmem : (x, NameKind.free) ∈ scope.names:=PySem.mem_of_lookup hfree
    have hup:=c.up _ hmem rfl
    obtain ⟨m, hn, hl⟩:=I.loc
    obtain ⟨u, ru, lk⟩:=hl j x v hNj hσj (by rcases hup with z | z; exact .inr (.inl z); exact .inr (.inr z))
    refine ⟨u, ru, .inr ⟨?_, ?_⟩⟩
    ·rcases zkr (env:=X.env) (names:=scope.names) hfree with z | z
     ·exact .inr z
     ·exact .inl z
    ·rcases lk with ⟨k1, _⟩ | ⟨_, a, ha, hc⟩
     ·rcases hup with z | z
      ·rw [show X.env.kindOf x = some .cell from z] at k1; cases k1
      ·rw [show X.env.kindOf x = some .free from z] at k1; cases k1
     ·exact ⟨a, lookF x a hmem ha, hc.keeps keep⟩
 case cell =>
  intro x a e
  rcases look x a e with ⟨m1, _⟩ | ⟨k1, e1⟩
  ·exact ⟨_, (cells x a m1).1⟩
  ·obtain ⟨v, q⟩:=I.cell x a e1
   exact ⟨v, q.keeps keep⟩
 case freeC =>
  intro x a e
  rcases look x a e with ⟨m1, _⟩ | ⟨k1, e1⟩
  ·exact I.hok.fresh (by have:=(cells x a m1).2; omega)
  ·exact I.freeC x a e1
 case pin=>intro p hp; exact absurd (show p ∈ ([] : List (Addr × Obj)) from hp) (by simp)
 case len =>
  show (tau own fr σ).length = N'.length
  rw [c.nm]; unfold tau; simp
end
end L2
namespace L2
open PySem PySem.Spec PyProof.Rows
noncomputable abbrev TM:=St → Hp → (St → Hp → Prop) → Prop
noncomputable def PM (X : Cx) (act : Sem Unit) (t : TM) : Prop :=
 ∀ (pins : List (Addr × Obj)) (s : Shared) (σ : St) (H : Hp) (Q : St → Hp → Prop), Inv X pins σ H s → t σ H Q → wpAny (model X.prog X.w) X.A act (fun _ s'=>∃ σ' H', Inv X pins σ' H' s' ∧ Q σ' H') X.xe s
noncomputable def PF (X : Cx) (ifs : List Expr) (t : TT) : Prop :=
 ∀ (pins : List (Addr × Obj)) (s : Shared) (σ : St) (H : Hp) (Q : Bool → Hp → Prop), Inv X pins σ H s → t σ H Q →
  wpAny (model X.prog X.w) X.A (forIn ifs true fun c r=>if r = true then do let ok ← isTrue c X.env (eval c X.env); pure (ForInStep.yield ok) else pure (ForInStep.yield r)) (TP X pins σ Q) X.xe s
noncomputable def tAll : TT:=fun _ H Q=>Q true H
section
variable {X : Cx}
theorem zapz : PF X [] tAll:=fun _ s σ H Q I h=>wpAny_tests_nil ⟨H, I, h⟩
theorem zaqa {c : Expr} {t : TT} (h : PT X c t) : PF X [c] t:=fun pins s σ H Q I q=>wpAny_tests_one (h pins s σ H Q I q)
noncomputable def zaee (p : Addr) (te : TE) : TM:=fun σ H Q=>te σ H fun v H1=>∃ ys, H1 p = some (.lst ys) ∧ ys.length < sizeLine ∧ Q σ (upd H1 p (.lst (ys ++ [v])))
theorem zaan {elt : Expr} {te : TE} {p : Addr} (h : PE X elt te) : PM X (do let _ ← call (.builtin "list.append") [.ref p, ← eval elt X.env]) (zaee p te):=by
 intro pins s σ H Q I q
 refine wpAny_bind (thn (h pins s σ H _ I q) fun u s1 ⟨v, H1, I1, r, ys, hp, hz, q1⟩=>?_)
 refine wpAny_bind (thn (zcz pins s1 σ H1 (.ref p) [v] (.ref p) [u] (fun _ H2=>Q σ H2) I1 rfl (.cons r .nil) ⟨p, ys, v, rfl, rfl, hp, hz, q1⟩) fun _ s2 ⟨_, H2, I2, _, q2⟩=>?_)
 exact wpAny_pure ⟨σ, H2, I2, q2⟩
noncomputable def zajv (J : It) (g : TG) (tt : TT) (tm : TM) : TM:=fun σ H Q=>∃ W : Nat → Nat → St → Hp → Prop, (∃ m, W 0 m σ H) ∧ ∀ i m σ H, W i m σ H →
 (J.stop i H ∧ Q σ H) ∨ (J.go i H ∧ ∃ N : St → Hp → Prop, (∀ σ' H', N σ' H' → ∃ m', m' < m ∧ W (i + 1) m' σ' H') ∧ ∀ x H', J.yld i H x H' → g x σ H' fun σ2 H2=>tt σ2 H2 fun b H3=>if b = true then tm σ2 H3 N else N σ2 H3)
theorem zrd {elt0 : Expr} {gens : List Comprehension} {scope : Scope} {cpos : Pos} {depth : Nat} {target : Expr} {ifs : List Expr} {emit : Sem Unit} {acc : Value} {ip : Pos} {it : Addr} {fp : List Addr} {tn : Nat → Heap → Prop} {J : It} {g : TG} {tt : TT} {tm : TM} {pins : List (Addr × Obj)} {σ : St} {H : Hp} {s : Shared} {Q : St → Hp → Prop}
  (hx : X.xe = fun _ _=>False) (hc : X.calm = true)
  (eq : compTurn (.ListComp elt0 gens scope cpos) depth (.ref it) acc X.env = (do
   standAt ip
   match ← pyNext (.ref it) with
   | none=>pure (.done .next)
   | some v =>
    letOwnedTupleGo target (.ref it) v
    assign target X.env v
    let mut ok:=true
    for c in ifs do
     if ok then ok ← isTrue c X.env (eval c X.env)
    if ok then emit
    again (.compLoop (.ListComp elt0 gens scope cpos) depth (.ref it) acc X.env)))
  (T : Turn X.prog X.w X.K target J fp it tn) (hg : PG X target g) (ht : PF X ifs tt) (hm : PM X emit tm)
  (I : Inv X pins σ H s) (st : tn 0 s.heap) (hf : ∀ b ∈ fp, FpOk X pins H b) (h : zajv J g tt tm σ H Q) :
  codeAny (model X.prog X.w) X.A (.compLoop (.ListComp elt0 gens scope cpos) depth (.ref it) acc X.env) (fun r s'=>r = .ok .next ∧ ∃ σ' H', Inv X pins σ' H' s' ∧ Q σ' H') s:=by
 obtain ⟨W, ⟨m0, w0⟩, turn⟩:=h
 have stat : ∀ {H' : Hp}, (∀ b ∈ fp, H' b = none) → ∀ b ∈ fp, FpOk X pins H' b:=fun hn b hb=>⟨hn b hb, (hf b hb).2⟩
 have xe : ∀ {α : Type} {m : Sem α} {Q' : α → Shared → Prop} {E : Value → Shared → Prop} {s : Shared}, wpAny (model X.prog X.w) X.A m Q' X.xe s → wpAny (model X.prog X.w) X.A m Q' E s:=fun q=>wpAny_mono q (fun _ _ z=>z) fun _ _ z=>by rw [hx] at z; exact z.elim
 refine codeAny_loop rfl (fun n s'=>∃ i σ' H', Inv X pins σ' H' s' ∧ tn i s'.heap ∧ (∀ b ∈ fp, H' b = none) ∧ W i n σ' H') ?_ m0 ⟨0, σ, H, I, st, fun b hb=>(hf b hb).1, w0⟩
 rintro n s3 ⟨i, σ3, H3, I3, st3, fr3, w3⟩
 show wpAny _ X.A ((compTurn (.ListComp elt0 gens scope cpos) depth (.ref it) acc X.env).onRaise (fun x=>do noteFrame x X.env; theTreesLotGoes x)) _ _ s3
 refine wpAny_noted ?_
 rw [eq]
 refine wpAny_bind (wpAny_standAt (wpAny_bind ?_))
 rcases turn i n σ3 H3 w3 with ⟨stop, qn⟩ | ⟨go, N, hN, step⟩
 ·refine thn (T.done X rfl rfl rfl hc i pins s3 σ3 H3 _ I3 (stat fr3) st3 stop) fun r s4 ⟨hr, I4⟩=>?_
  subst hr
  exact wpAny_pure ⟨rfl, σ3, H3, I4, qn⟩
 ·refine thn (T.item X rfl rfl rfl hc i pins s3 σ3 H3 _ I3 (stat fr3) st3 go) fun r s4 ⟨u, hr, h4⟩=>?_
  subst hr
  refine wpAny_bind (thn h4 fun _ s5 ⟨x, H5, I5, r5, y5, st5, fr5⟩=>?_)
  have I5':=I5.pinned (stat fr5) (T.obj _ _ st5)
  refine wpAny_bind (xe (thn (hg _ s5 σ3 H5 x u _ I5' r5 (step x H5 y5)) fun _ s6 ⟨σ6, H6, I6, q6⟩=>?_))
  have again : ∀ {σ7 : St} {H7 : Hp} {s7 : Shared}, Inv X (pins ++ zww fp s5.heap) σ7 H7 s7 → N σ7 H7 → ∃ m, m < n ∧ ∃ i σ' H', Inv X pins σ' H' s7 ∧ tn i s7.heap ∧ (∀ b ∈ fp, H' b = none) ∧ W i m σ' H':=fun {σ7 H7 s7} I7 n7=>by
   obtain ⟨m', hm, w7⟩:=hN σ7 H7 n7
   refine ⟨m', hm, i + 1, σ7, H7, I7.unpinned, T.keep _ _ _ st5 fun b hb o e=>(I7.pin (b, o) (List.mem_append_right _ (List.mem_append_right _ (zlr hb e)))).1, fun b hb=>?_, w7⟩
   obtain ⟨o, e, d⟩:=T.obj _ _ st5 b hb
   exact (I7.pin (b, o) (List.mem_append_right _ (List.mem_append_right _ (zlr hb e)))).2.1
  refine wpAny_bind (xe (thn (ht _ s6 σ6 H6 _ I6 q6) fun ok s7 ⟨H7, I7, q7⟩=>?_))
  cases ok with
  | false =>
   rw [if_neg (by decide)] at q7
   exact wpAny_pure ⟨rfl, again I7 q7⟩
  | true =>
   rw [if_pos rfl] at q7
   refine wpAny_bind (xe (thn (hm _ s7 σ6 H7 _ I7 q7) fun _ s8 ⟨σ8, H8, I8, q8⟩=>?_))
   exact wpAny_pure ⟨rfl, again I8 q8⟩
end
end L2
namespace L2
open PySem PySem.Spec PyProof.Rows
section
variable {X : Cx} {pins : List (Addr × Obj)} {σ : St} {H : Hp} {s : Shared} {scope : Scope} {N' own : List Str} {fr : List Nat}
theorem zub {elt0 target iter : Expr} {ifs : List Expr} {rest : List Comprehension} {cpos : Pos} {g : TG} {tt : TT} {tm : Addr → TM} {emit : Value → Env → Sem Unit} {it : Addr} {fp : List Addr} {tn : Nat → Heap → Prop} {J : It} {Q : VK} {E : Value → Shared → Prop} {RR : Value → Addr → Result → Shared → Prop}
  (c : CompOk X scope N' own fr) (hc : X.calm = true)
  (eq : ∀ it acc env, compTurn (.ListComp elt0 (⟨target, iter, ifs, 0⟩ :: rest) scope cpos) 0 it acc env = (do
   standAt iter.pos
   match ← pyNext it with
   | none=>pure (.done .next)
   | some v =>
    letOwnedTupleGo target it v
    assign target env v
    let mut ok:=true
    for c in ifs do
     if ok then ok ← isTrue c env (eval c env)
    if ok then emit acc env
    again (.compLoop (.ListComp elt0 (⟨target, iter, ifs, 0⟩ :: rest) scope cpos) 0 it acc env)))
  (T : Turn X.prog X.w X.K target J fp it tn)
  (hb : ∀ (cl : List (Str × Addr)) (C : Addr) (s : Shared) (H : Hp) (fp : List Addr) (p : Addr), PG (cxComp X scope N' own cl C s H fp) target g ∧ PF (cxComp X scope N' own cl C s H fp) ifs tt ∧ PM (cxComp X scope N' own cl C s H fp) (emit (.ref p) (compEnvC scope cl C X.env)) (tm p))
  (I : Inv X pins σ H s) (st : tn 0 s.heap) (hf : ∀ b ∈ fp, FpOk X pins H b)
  (h : ∀ p, H p = none → zajv J g tt (tm p) (tau own fr σ) (upd H p (.lst [])) (fun _ H'=>Q (.ref p) H'))
  (hRR : ∀ (p C : Addr) (m : Str → Option Value) (H' : Hp) (s' : Shared), Inv X pins σ H' s' → s'.heap.Ns C m → FpOk X pins H' C → Q (.ref p) H' → RR (.ref p) C (.ok .next) s') :
  wpAny (model X.prog X.w) X.A (newList []) (fun acc s₃=>wpAny (model X.prog X.w) X.A (newFunctionEnv scope X.env.globals (clos X.env.cells scope.names []) [] X.env.qual none .none (some X.env)) (fun cenv s₄ =>
   codeAny (model X.prog X.w) X.A (.compStart (.ListComp elt0 (⟨target, iter, ifs, 0⟩ :: rest) scope cpos) 0 (.ref it) acc { cenv with scope:=relabel scope X.env }) (RR acc cenv.locals) s₄) E s₃) E s:=by
 refine wpAny_newObj_type ?_
 have I3 : Inv X pins σ (upd H s.heap.objs.size (.lst [])) { s with heap:=s.heap.push { cls:=.type "list", dict:=none, data:=.seq ([] : List Value).toArray } }:=I.lnew (t':=s.toks) .nil (Nat.zero_le _)
 have hn0 : H s.heap.objs.size = none:=I.hok.fresh (Nat.le_refl _)
 generalize e3 : ({ s with heap:=s.heap.push { cls:=.type "list", dict:=none, data:=.seq ([] : List Value).toArray } } : Shared) = s3 at I3 ⊢
 have k3 : ∀ b o, s.heap.get? b = some o → s3.heap.get? b = some o:=fun b o e=>by rw [← e3]; exact Heap.get?_push_of_some _ e
 have hne : ∀ b ∈ fp, b ≠ s.heap.objs.size:=fun b hb=>by
  obtain ⟨o, e, _⟩:=T.obj _ _ st b hb
  exact Nat.ne_of_lt (Heap.lt_size e)
 have hf3 : ∀ b ∈ fp, FpOk X pins (upd H s.heap.objs.size (.lst [])) b:=fun b hb=>⟨by rw [zcj (hne b hb)]; exact (hf b hb).1, (hf b hb).2⟩
 have st3 : tn 0 s3.heap:=T.keep _ _ _ st fun b _ o e=>k3 b o e
 refine zaed fun h' keep ns cells apart=>?_
 have I4:=zaju c I3 hf3 (T.obj _ _ st3) keep ns cells apart
 have st4 : tn 0 h':=T.keep _ _ _ st3 fun b _ o e=>keep b o e
 obtain ⟨hg, ht, hm⟩:=hb (cellsFrom (s3.heap.objs.size + 1) scope.names [] ++ clos X.env.cells scope.names []) s3.heap.objs.size s3 (upd H s.heap.objs.size (.lst [])) fp s.heap.objs.size
 have hf4 : ∀ b ∈ fp, FpOk (cxComp X scope N' own (cellsFrom (s3.heap.objs.size + 1) scope.names [] ++ clos X.env.cells scope.names []) s3.heap.objs.size s3 (upd H s.heap.objs.size (.lst [])) fp) [] (upd H s.heap.objs.size (.lst [])) b:=fun b hb =>
  ⟨(hf3 b hb).1, (I4.ok.exf b hb).1, I4.ok.exfs b hb, .inl hb, (I4.ok.exf b hb).2, fun p hp=>absurd (show p ∈ ([] : List (Addr × Obj)) from hp) (by simp)⟩
 have loop : codeAny (model X.prog X.w) X.A (.compLoop (.ListComp elt0 (⟨target, iter, ifs, 0⟩ :: rest) scope cpos) 0 (.ref it) (.ref s.heap.objs.size) (compEnvC scope (cellsFrom (s3.heap.objs.size + 1) scope.names [] ++ clos X.env.cells scope.names []) s3.heap.objs.size X.env)) (RR (.ref s.heap.objs.size) s3.heap.objs.size) { s3 with heap:=h' }:=by
  refine codeAny_mono (zrd (X:=cxComp X scope N' own (cellsFrom (s3.heap.objs.size + 1) scope.names [] ++ clos X.env.cells scope.names []) s3.heap.objs.size s3 (upd H s.heap.objs.size (.lst [])) fp) (pins:=[]) rfl hc (eq _ _ _) T hg ht hm I4 st4 hf4 (h _ hn0)) fun r s5 hr=>?_
  obtain ⟨rfl, σ5, H5, I5, q5⟩:=hr
  obtain ⟨m, hn, _⟩:=id I5.loc
  have u5 : Un (frs X.stack) fp (upd H s.heap.objs.size (.lst [])) H5 s3.heap s5.heap:=I5.base
  have hok5 : HOk X.prog X.w H5 s5.heap:=I5.hok
  have os5 : s5.os = s3.os:=I5.os
  have bare5:=I5.bare
  have free5 : H5 s3.heap.objs.size = none:=I5.free
  have hn : s5.heap.Ns s3.heap.objs.size m:=hn
  clear I5
  obtain ⟨hh, gg, dd, tk, os'⟩:=s5
  obtain rfl : os' = s3.os:=os5
  have I6 : Inv X pins σ H5 { s3 with heap:=hh, gens:=gg, drawn:=dd, toks:=tk }:=I3.call (ch:=fp) u5 hok5 bare5 fun b hb=>⟨(hf3 b hb).2.2.2.1, (hf3 b hb).2.1, (hf3 b hb).2.2.2.2.1, (hf3 b hb).2.2.2.2.2⟩
  exact hRR _ _ m H5 _ I6 hn (I3.fpOk (Nat.le_refl _) free5) q5
 exact codeAny_compStart_list loop (T.self _ 0 _ _ _ st4 loop)
noncomputable def zajw (wi : TI) (g : TG) (tt : TT) (tm : Addr → TM) (own : List Str) (fr : List Nat) : TE:=fun σ H Q=>wi σ H fun J H1=>∀ p, H1 p = none → zajv J g tt (tm p) (tau own fr σ) (upd H1 p (.lst [])) (fun _ H'=>Q (.ref p) H')
theorem zace {elt0 target iter : Expr} {ifs : List Expr} {rest : List Comprehension} {cpos : Pos} {wi : TI} {g : TG} {tt : TT} {tm : Addr → TM} {emit : Value → Env → Sem Unit} (c : CompOk X scope N' own fr) (hc : X.calm = true)
  (eq : ∀ it acc env, compTurn (.ListComp elt0 (⟨target, iter, ifs, 0⟩ :: rest) scope cpos) 0 it acc env = (do
   standAt iter.pos
   match ← pyNext it with
   | none=>pure (.done .next)
   | some v =>
    letOwnedTupleGo target it v
    assign target env v
    let mut ok:=true
    for c in ifs do
     if ok then ok ← isTrue c env (eval c env)
    if ok then emit acc env
    again (.compLoop (.ListComp elt0 (⟨target, iter, ifs, 0⟩ :: rest) scope cpos) 0 it acc env)))
  (hi : PI X target iter wi)
  (hb : ∀ (cl : List (Str × Addr)) (C : Addr) (s : Shared) (H : Hp) (fp : List Addr) (p : Addr), PG (cxComp X scope N' own cl C s H fp) target g ∧ PF (cxComp X scope N' own cl C s H fp) ifs tt ∧ PM (cxComp X scope N' own cl C s H fp) (emit (.ref p) (compEnvC scope cl C X.env)) (tm p))
  (hs : ∀ x, foldedSetIterable iter X.env x = pure x:=by intro _; rfl) :
  PE X (.ListComp elt0 (⟨target, iter, ifs, 0⟩ :: rest) scope cpos) (zajw wi g tt tm own fr):=by
 intro pins s σ H Q I h
 rw [eval_ListComp]
 refine wpAny_comprehension_free (use:=none) rfl hs (znh (zop c I.ok)) c.kind (fun y hy e=>(c.names y hy).trans (by rw [e])) ?_
 refine thn (hi pins s σ H _ I h) fun v s1 h1=>thn h1 fun itv s2 h2=>?_
 obtain ⟨it, fp, tn, J, H2, e, I2, T, st2, f2, q⟩:=h2
 subst e
 refine zub (Q:=Q) c hc eq T hb I2 st2 f2 q fun p C m H' s' I' hn hC q'=>?_
 exact ⟨m, hn, fun h' sb=>⟨.ref p, H', I'.turned (t':=s'.toks) (fun b o hb e=>(sb.2 b hb).trans e) hC.1 hC.2.1 hC.2.2.2.1 hC.2.2.2.2.1 hC.2.2.2.2.2, rfl, q'⟩⟩
noncomputable def zaqb (wi : TI) (g : TG) (tt : TT) (tm : Addr → TM) (own : List Str) (fr : List Nat) (i : Nat) : TS:=fun D σ H=>zajw wi g tt tm own fr σ H fun v H'=>D.nx (σ.set i (some v)) H'
theorem zajx {elt0 target iter : Expr} {ifs : List Expr} {rest : List Comprehension} {cpos spos py : Pos} {wi : TI} {g : TG} {tt : TT} {tm : Addr → TM} {emit : Value → Env → Sem Unit} {i : Nat} {y : Str} (c : CompOk X scope N' own fr) (hc : X.calm = true)
  (eq : ∀ it acc env, compTurn (.ListComp elt0 (⟨target, iter, ifs, 0⟩ :: rest) scope cpos) 0 it acc env = (do
   standAt iter.pos
   match ← pyNext it with
   | none=>pure (.done .next)
   | some v =>
    letOwnedTupleGo target it v
    assign target env v
    let mut ok:=true
    for c in ifs do
     if ok then ok ← isTrue c env (eval c env)
    if ok then emit acc env
    again (.compLoop (.ListComp elt0 (⟨target, iter, ifs, 0⟩ :: rest) scope cpos) 0 it acc env)))
  (hi : PI X target iter wi)
  (hb : ∀ (cl : List (Str × Addr)) (C : Addr) (s : Shared) (H : Hp) (fp : List Addr) (p : Addr), PG (cxComp X scope N' own cl C s H fp) target g ∧ PF (cxComp X scope N' own cl C s H fp) ifs tt ∧ PM (cxComp X scope N' own cl C s H fp) (emit (.ref p) (compEnvC scope cl C X.env)) (tm p))
  (hsw : swapsWith (.ListComp elt0 (⟨target, iter, ifs, 0⟩ :: rest) scope cpos) (some (.Name y py)) spos.line X.env = pure true)
  (hN : X.N.Nodup) (hy : X.N[i]? = some y) (hl : X.env.scope.names.lookup y = some .local)
  (hs : ∀ x, foldedSetIterable iter X.env x = pure x:=by intro _; rfl) :
  PS X (.Assign [.Name y py] (.ListComp elt0 (⟨target, iter, ifs, 0⟩ :: rest) scope cpos) spos) (zaqb wi g tt tm own fr i):=by
 intro pins s σ H D I h
 rw [exec_Assign_Name_used _ _ _ _ hsw]
 refine wpAny_bind (wpAny_standAt (wpAny_bind ?_))
 show wpAny _ X.A (do let _ ← comprehension (.ListComp elt0 (⟨target, iter, ifs, 0⟩ :: rest) scope cpos) scope X.env _ (newList []) false (eval iter X.env) (some (assign (.Name y py) X.env))) _ _ s
 refine wpAny_bind (thn (wpAny_comprehension_free (use:=some (assign (.Name y py) X.env)) (Q:=fun _ s'=>SP X pins D .next s') rfl hs (znh (zop c I.ok)) c.kind (fun y hy e=>(c.names y hy).trans (by rw [e])) ?_) fun _ s' q=>wpAny_pure (wpAny_pure q))
 refine thn (hi pins s σ H _ I h) fun v s1 h1=>thn h1 fun itv s2 h2=>?_
 obtain ⟨it, fp, tn, J, H2, e, I2, T, st2, f2, q⟩:=h2
 subst e
 refine zub (Q:=fun v H'=>D.nx (σ.set i (some v)) H') c hc eq T hb I2 st2 f2 q fun p C m H' s' I' hn hC q'=>?_
 show wpAny _ X.A (assign (.Name y py) X.env (.ref p)) _ _ _
 refine wpAny_assign_Name (zwt I' hN hy (.inl hl) (v:=.ref p) rfl (fun s'' I'' ⟨a, sb, ha⟩=>?_) (.inr hl))
 have hCa : C ≠ a:=by
  rcases ha with rfl | ha
  ·exact hC.2.1
  ·exact Ne.symm (hC.2.2.2.2.1 y a ha)
 refine ⟨m, hn.sameBut sb hCa, fun h' sb'=>⟨σ.set i (some (.ref p)), H', I''.turned (t':=s''.toks) (fun b o hb e=>(sb'.2 b hb).trans e) hC.1 hC.2.1 hC.2.2.2.1 hC.2.2.2.2.1 hC.2.2.2.2.2, q'⟩⟩
end
end L2
namespace L2
open PySem PySem.Spec PyProof.Rows
section
variable {X : Cx}
section
variable {scope : Scope} {N' own : List Str} {fr : List Nat} {elt target iter : Expr} {ifs : List Expr} {cpos : Pos} {wi : TI} {g : TG} {tt : TT} {te : TE}
noncomputable def tComp1 (wi : TI) (g : TG) (tt : TT) (te : TE) (own : List Str) (fr : List Nat) : TE:=zajw wi g tt (fun p=>zaee p te) own fr
theorem zajy (c : CompOk X scope N' own fr) (hc : X.calm = true) (hi : PI X target iter wi)
  (hb : ∀ (cl : List (Str × Addr)) (C : Addr) (s : Shared) (H : Hp) (fp : List Addr), PG (cxComp X scope N' own cl C s H fp) target g ∧ PF (cxComp X scope N' own cl C s H fp) ifs tt ∧ PE (cxComp X scope N' own cl C s H fp) elt te)
  (hs : ∀ x, foldedSetIterable iter X.env x = pure x:=by intro _; rfl) : PE X (.ListComp elt [⟨target, iter, ifs, 0⟩] scope cpos) (tComp1 wi g tt te own fr) :=
 zace (emit:=fun acc env=>do let _ ← call (.builtin "list.append") [acc, ← eval elt env]) c hc (fun _ _ _=>rfl) hi
  (fun cl C s H fp p=>⟨(hb cl C s H fp).1, (hb cl C s H fp).2.1, zaan (hb cl C s H fp).2.2⟩) hs
noncomputable def tAsgC1 (wi : TI) (g : TG) (tt : TT) (te : TE) (own : List Str) (fr : List Nat) (i : Nat) : TS:=zaqb wi g tt (fun p=>zaee p te) own fr i
theorem zajz {spos py : Pos} {i : Nat} {y : Str} (c : CompOk X scope N' own fr) (hc : X.calm = true) (hi : PI X target iter wi)
  (hb : ∀ (cl : List (Str × Addr)) (C : Addr) (s : Shared) (H : Hp) (fp : List Addr), PG (cxComp X scope N' own cl C s H fp) target g ∧ PF (cxComp X scope N' own cl C s H fp) ifs tt ∧ PE (cxComp X scope N' own cl C s H fp) elt te)
  (hsw : swapsWith (.ListComp elt [⟨target, iter, ifs, 0⟩] scope cpos) (some (.Name y py)) spos.line X.env = pure true)
  (hN : X.N.Nodup) (hy : X.N[i]? = some y) (hl : X.env.scope.names.lookup y = some .local)
  (hs : ∀ x, foldedSetIterable iter X.env x = pure x:=by intro _; rfl) : PS X (.Assign [.Name y py] (.ListComp elt [⟨target, iter, ifs, 0⟩] scope cpos) spos) (tAsgC1 wi g tt te own fr i) :=
 zajx (emit:=fun acc env=>do let _ ← call (.builtin "list.append") [acc, ← eval elt env]) c hc (fun _ _ _=>rfl) hi
  (fun cl C s H fp p=>⟨(hb cl C s H fp).1, (hb cl C s H fp).2.1, zaan (hb cl C s H fp).2.2⟩) hsw hN hy hl hs
end
noncomputable def zarj : R2:=fun x y H Q=>∃ z n, x = .str z ∧ y = .int n ∧ z.length ≤ 1000 ∧ -1000 ≤ n ∧ n ≤ 1000 ∧ Q (.str (Txt.mul z n)) H
theorem zanh : OpR X (binaryOp .Mult) zarj:=by
 intro pins s σ H x y v u Q I rx ry h
 obtain ⟨z, n, rfl, rfl, h1, h2, h3, q⟩:=h
 obtain ⟨t, rfl⟩:=rx
 obtain ⟨t', rfl⟩:=ry
 exact SB.mul (mulOk_of 1000 1000 h1 (by omega) (by omega) (by decide) (by decide)) fun t' k=>⟨.str (Txt.mul z n), H, I.tok _, ⟨_, rfl⟩, q⟩
noncomputable def rSlS : V → Option Int → Option Int → Hp → VK → Prop:=fun x lo hi H Q=>∃ z, x = .str z ∧ z.length ≤ sizeLine ∧ Q (.str (Txt.slice z lo hi)) H
theorem zaqc : SlR X rSlS:=by
 intro pins s σ H x v vl vu lo hi sl Q I rx hs pl pu h
 obtain ⟨z, rfl, hz, q⟩:=h
 obtain ⟨t, rfl⟩:=rx
 refine ⟨"str", _, F.slot_str_getitem.lookup, typeIs_str _ _ _, ?_⟩
 have fin : ∀ t' k, EP X pins σ Q (.str (Txt.slice z lo hi) t') { s with toks:=k }:=fun t' k=>⟨.str (Txt.slice z lo hi), H, I.tok _, ⟨_, rfl⟩, q⟩
 have fz : (Txt.slice z lo hi).length ≤ sizeLine:=Nat.le_trans (Txt.slice_le z _ _) hz
 cases pl with
 | none=>cases pu with
  | none=>exact wpAny_getItem_str_slice (l:=none) (u:=none) (st:=none) hs rfl (post_val_or_str ⟨fz, fin⟩)
  | int j tj=>exact wpAny_getItem_str_slice (l:=none) (u:=some (j, tj)) (st:=none) hs rfl (post_val_or_str ⟨fz, fin⟩)
 | int i ti=>cases pu with
  | none=>exact wpAny_getItem_str_slice (l:=some (i, ti)) (u:=none) (st:=none) hs rfl (post_val_or_str ⟨fz, fin⟩)
  | int j tj=>exact wpAny_getItem_str_slice (l:=some (i, ti)) (u:=some (j, tj)) (st:=none) hs rfl (post_val_or_str ⟨fz, fin⟩)
noncomputable def zaga : V → List V → Hp → VK → Prop:=fun x vs H Q=>∃ d o kvs more, x = .ref d ∧ vs = [.ref o] ∧ d ≠ o ∧ H d = some (.dK kvs) ∧ H o = some (.dK more) ∧ kvs.length + more.length ≤ sizeLine ∧ Q .non (upd H d (.dK (zje kvs more)))
theorem zxi : MtM X "dict.update" zaga:=by
 intro pins s σ H x vs v us Q I rx rv h
 obtain ⟨d, o, kvs, more, rfl, rfl, hne, hd, ho, hz, q⟩:=h
 cases rx
 obtain ⟨u, rfl, ru⟩:=rv.one
 cases ru
 obtain ⟨z1, s1, vs1, rel1, dd1⟩:=zajp I.hok hd
 obtain ⟨z2, s2, vs2, rel2, dd2⟩:=zajp I.hok ho
 refine call_meetsIn F.slot_dict_update dd1.typeIs F.entry_dict_update (F.args_dict_update_2 _ _) (meets_dict_update (zdd X.prog X.w) d o hne s2) ⟨vs1, vs2, dd1, dd2, ?_, fun h' h1 h2 sb=>?_⟩
 ·rw [← rel1.length, ← rel2.length]; exact hz
 ·have he : ∃ q, h'.get? d = some q:=by obtain ⟨ob, _, _, e, _⟩:=h1; exact ⟨ob, e⟩
  refine ⟨.non, _, zuy (t':=s.toks) I (by rw [hd]; trivial) sb he (zacc (Nat.le_trans (zid more kvs) hz) s1 (rel2.merge rel1) h1), rfl, q⟩
theorem zaka {id : String} (hid : id = "isinstance") : CallR X (.builtin id) (fun xs H Q=>∃ x n t b, xs = [x, .ty n] ∧ TyOf X.K H x t ∧ PySem.W.kitOne X.K t (.type n) = some b ∧ Q (.bl b) H):=by
 subst hid
 intro pins s σ H xs us Q I r h
 obtain ⟨x, n, t, b, rfl, ty, e, q⟩:=h
 obtain ⟨u, w', rfl, rx, ry⟩:=zajl r
 cases ry
 exact zafo I rx ty e fun tk=>⟨.bl b, H, I.tok _, rfl, q⟩
end
end L2
namespace L2
open PySem PySem.Spec PyProof.Rows
section
variable {X : Cx}
end
end L2
namespace L2
open PySem PySem.Spec PyProof.Rows
mutual
noncomputable def Rep (K : PySem.W.Frag) (H : Hp) : PyData → V → Prop
 | .none, v=>v = .non
 | .bool b, v=>v = .bl b
 | .int i, v=>v = .int i
 | .str x, v=>v = .str x
 | .list ds, v=>∃ a xs, v = .ref a ∧ SqL K H a xs ∧ Reps K H ds xs
 | .tuple ds, v=>∃ a xs, v = .ref a ∧ SqT K H a xs ∧ Reps K H ds xs
 | .dict _, _=>False
noncomputable def Reps (K : PySem.W.Frag) (H : Hp) : List PyData → List V → Prop
 | [], xs=>xs = []
 | d :: ds, xs=>∃ v vs, xs = v :: vs ∧ Rep K H d v ∧ Reps K H ds vs
end
mutual
theorem zir {X : Cx} {pins : List (Addr × Obj)} {σ : St} {H : Hp} {s : Shared} (I : Inv X pins σ H s) : ∀ (d : PyData) {v : V} {u : Value}, Rep X.K H d v → RelV v u → ∃ as, Reads s.heap u d as
 | .none, v, u, h, r=>by unfold Rep at h; subst h; cases r; exact ⟨_, .none⟩
 | .bool b, v, u, h, r=>by unfold Rep at h; subst h; cases r; exact ⟨_, .bool b⟩
 | .int i, v, u, h, r=>by unfold Rep at h; subst h; obtain ⟨t, rfl⟩:=r; exact ⟨_, .int i t⟩
 | .str x, v, u, h, r=>by unfold Rep at h; subst h; obtain ⟨t, rfl⟩:=r; exact ⟨_, .str x t⟩
 | .list ds, v, u, h, r=>by
  unfold Rep at h
  obtain ⟨a, xs, rfl, hq, hr⟩:=h
  cases r
  obtain ⟨its, rv, p, hz⟩:=I.list hq
  obtain ⟨as, q⟩:=zoq I ds hr rv
  obtain ⟨o, h1, h2, n, h3⟩:=p.isList
  exact ⟨_, reads_list_at h1 h2 h3 (by simpa using q)⟩
 | .tuple ds, v, u, h, r=>by
  unfold Rep at h
  obtain ⟨a, xs, rfl, hq, hr⟩:=h
  cases r
  obtain ⟨its, rv, p, hz⟩:=I.tuple hq
  obtain ⟨as, q⟩:=zoq I ds hr rv
  obtain ⟨o, h1, h2, n, h3⟩:=p
  exact ⟨_, reads_tuple_at h1 h2 h3 (by simpa using q)⟩
 | .dict _, _, _, h, _=>by unfold Rep at h; exact h.elim
theorem zoq {X : Cx} {pins : List (Addr × Obj)} {σ : St} {H : Hp} {s : Shared} (I : Inv X pins σ H s) : ∀ (ds : List PyData) {vs : List V} {us : List Value}, Reps X.K H ds vs → Vals vs us → ∃ as, ReadsAll s.heap us ds as
 | [], vs, us, h, r=>by unfold Reps at h; subst h; cases r; exact ⟨_, .nil⟩
 | d :: ds, vs, us, h, r=>by
  unfold Reps at h
  obtain ⟨v, vs', rfl, h1, h2⟩:=h
  cases r with
  | cons r rr =>
   obtain ⟨as, q1⟩:=zir I d h1 r
   obtain ⟨bs, q2⟩:=zoq I ds h2 rr
   exact ⟨_, .cons q1 q2⟩
end
theorem SqT.same {K : PySem.W.Frag} {H H' : Hp} {a : Addr} {xs : List V} (h : Same H H') (q : SqT K H a xs) : SqT K H' a xs:=by
 rcases q with (q | ⟨o, q⟩) | q
 ·exact .inl (.inl (h _ _ q))
 ·exact .inl (.inr ⟨o, h _ _ q⟩)
 ·exact .inr q
section
variable {X : Cx}
noncomputable def rEqD (K : PySem.W.Frag) (neg : Bool) : R2:=fun x y H Q=>∃ d e, Rep K H d x ∧ Rep K H e y ∧ SeqAt.shaped d = true ∧ SeqAt.shaped e = true ∧ Q (.bl (if neg then !PyData.eqv d e else PyData.eqv d e)) H
theorem zaqd (hu : X.A.units + 64 < cLine) : OpR X (compareOp .Eq) (rEqD X.K false):=by
 intro pins s σ H x y v u Q I rx ry h
 obtain ⟨d, e, hd, he, sd, se, q⟩:=h
 obtain ⟨as, r1⟩:=zir I d hd rx
 obtain ⟨bs, r2⟩:=zir I e he ry
 exact eq_dataH r1 r2 sd se hu ⟨.bl (PyData.eqv d e), H, I, rfl, q⟩
theorem zaqe (hu : X.A.units + 64 < cLine) : OpR X (compareOp .NotEq) (rEqD X.K true):=by
 intro pins s σ H x y v u Q I rx ry h
 obtain ⟨d, e, hd, he, sd, se, q⟩:=h
 obtain ⟨as, r1⟩:=zir I d hd rx
 obtain ⟨bs, r2⟩:=zir I e he ry
 exact ne_dataH r1 r2 sd se hu ⟨.bl (!PyData.eqv d e), H, I, rfl, q⟩
theorem zagb {bs : List Bool} : ∀ {its : List Value}, Vals (bs.map V.bl) its → its = bs.map Value.bool:=by
 induction bs with
 | nil=>intro its r; cases r; rfl
 | cons b bs ih =>
  intro its r
  cases r with
  | cons r rr=>cases r; rw [ih rr]; rfl
theorem zagc (bs : List Bool) : (List.range bs.length).any (fun i=>bs.getD i false) = bs.any id:=by
 rw [Bool.eq_iff_iff, List.any_eq_true, List.any_eq_true]
 constructor
 ·rintro ⟨i, hi, h⟩
  have hi:=List.mem_range.mp hi
  rw [List.getD_eq_getElem?_getD, List.getElem?_eq_getElem hi] at h
  exact ⟨_, List.getElem_mem hi, h⟩
 ·rintro ⟨b, hb, h⟩
  obtain ⟨i, hi, e⟩:=List.getElem_of_mem hb
  exact ⟨i, List.mem_range.mpr hi, by rw [List.getD_eq_getElem?_getD, List.getElem?_eq_getElem hi, e]; exact h⟩
theorem zagd (bs : List Bool) : (List.range bs.length).all (fun i=>bs.getD i false) = bs.all id:=by
 rw [Bool.eq_iff_iff, List.all_eq_true, List.all_eq_true]
 constructor
 ·intro h b hb
  obtain ⟨i, hi, e⟩:=List.getElem_of_mem hb
  have q:=h i (List.mem_range.mpr hi)
  rw [List.getD_eq_getElem?_getD, List.getElem?_eq_getElem hi, e] at q
  exact q
 ·intro h i hi
  have hi:=List.mem_range.mp hi
  have q:=h _ (List.getElem_mem hi)
  rw [List.getD_eq_getElem?_getD, List.getElem?_eq_getElem hi]
  exact q
noncomputable def rAny (K : PySem.W.Frag) (f : List Bool → Bool) : List V → Hp → VK → Prop:=fun xs H Q=>∃ p bs, xs = [.ref p] ∧ SqL K H p (bs.map V.bl) ∧ Q (.bl (f bs)) H
theorem zakb (hc : X.calm = true) : CallR X (.builtin "any") (rAny X.K fun bs=>bs.any id):=by
 intro pins s σ H xs us Q I r h
 obtain ⟨p, bs, rfl, hq, q⟩:=h
 obtain ⟨u, rfl, ru⟩:=zaah r
 cases ru
 obtain ⟨its, rv, pl, hz⟩:=I.list hq
 cases zagb rv
 have hne : p ≠ s.heap.objs.size:=by obtain ⟨o, e, _⟩:=pl.isList; exact Nat.ne_of_lt (Heap.lt_size e)
 refine call_any_walk (wpAny_pyIter_list pl.isList ⟨s.heap.objs.size, _, _, _, _, _, fun i=>bs.getD i false, rfl, Walks.list (A:=X.A.in1) (show X.A.in1.handled = none from I.ok.hd hc) _ p hne (bs.map Value.bool).toArray, ⟨⟨_, Heap.get?_push_size _ rfl, rfl, rfl⟩, ?_⟩, ?_, ?_⟩)
 ·obtain ⟨o, e, z⟩:=pl.isList
  exact ⟨o, Heap.get?_push_of_some _ e, z⟩
 ·intro i v s' Q' E' hv hQ
  have hv : (bs.map Value.bool)[i]? = some v:=by simpa using hv
  rw [List.getElem?_map] at hv
  cases e : bs[i]? with
  | none=>rw [e] at hv; cases hv
  | some b =>
   rw [e] at hv
   cases hv
   have z : bs.getD i false = b:=by rw [List.getD_eq_getElem?_getD, e]; rfl
   have hQ : Q' (bs.getD i false) s':=hQ
   rw [z] at hQ
   exact wpAny_truthy_bool hQ
 ·intro h' tk hk
  refine ⟨.bl (bs.any id), H, ?_, by rw [← zagc bs]; simp; rfl, q⟩
  exact I.kept (t':=tk) fun b o e=>hk b o (by have:=Heap.lt_size e; simp; exact Nat.ne_of_lt this) (Heap.get?_push_of_some _ e)
theorem zakc (hc : X.calm = true) : CallR X (.builtin "all") (rAny X.K fun bs=>bs.all id):=by
 intro pins s σ H xs us Q I r h
 obtain ⟨p, bs, rfl, hq, q⟩:=h
 obtain ⟨u, rfl, ru⟩:=zaah r
 cases ru
 obtain ⟨its, rv, pl, hz⟩:=I.list hq
 cases zagb rv
 have hne : p ≠ s.heap.objs.size:=by obtain ⟨o, e, _⟩:=pl.isList; exact Nat.ne_of_lt (Heap.lt_size e)
 refine call_all_walk (wpAny_pyIter_list pl.isList ⟨s.heap.objs.size, _, _, _, _, _, fun i=>bs.getD i false, rfl, Walks.list (A:=X.A.in1) (show X.A.in1.handled = none from I.ok.hd hc) _ p hne (bs.map Value.bool).toArray, ⟨⟨_, Heap.get?_push_size _ rfl, rfl, rfl⟩, ?_⟩, ?_, ?_⟩)
 ·obtain ⟨o, e, z⟩:=pl.isList
  exact ⟨o, Heap.get?_push_of_some _ e, z⟩
 ·intro i v s' Q' E' hv hQ
  have hv : (bs.map Value.bool)[i]? = some v:=by simpa using hv
  rw [List.getElem?_map] at hv
  cases e : bs[i]? with
  | none=>rw [e] at hv; cases hv
  | some b =>
   rw [e] at hv
   cases hv
   have z : bs.getD i false = b:=by rw [List.getD_eq_getElem?_getD, e]; rfl
   have hQ : Q' (bs.getD i false) s':=hQ
   rw [z] at hQ
   exact wpAny_truthy_bool hQ
 ·intro h' tk hk
  refine ⟨.bl (bs.all id), H, ?_, by rw [← zagd bs]; simp; rfl, q⟩
  exact I.kept (t':=tk) fun b o e=>hk b o (by have:=Heap.lt_size e; simp; exact Nat.ne_of_lt this) (Heap.get?_push_of_some _ e)
end
end L2
namespace L2
open PySem PySem.Spec PyProof.Rows
noncomputable def zage (o : Option NameKind) : Bool:=o == some .cell || o == some .free
noncomputable def zagf (sc : Scope) (N : List Str) (scope : Scope) (N' own : List Str) (fr : List Nat) : Bool :=
 (scope.kind == .function) && (scope.names.all fun y=>scope.names.lookup y.1 == some y.2) && (scope.names.all fun y=>!(y.2 == .free) || zage (sc.names.lookup y.1)) &&
 (N' == own ++ fr.map fun j=>N.getD j Str.empty) && (fr.all fun j=>decide (j < N.length) && (scope.names.lookup (N.getD j Str.empty) == some .free)) &&
 (own.all fun x=>scope.names.lookup x == some .local || scope.names.lookup x == some .cell)
section
variable {X : Cx}
theorem zck {scope : Scope} {N' own : List Str} {fr : List Nat} (h : zagf X.env.scope X.N scope N' own fr = true) : CompOk X scope N' own fr:=by
 unfold zagf at h
 simp only [Bool.and_eq_true] at h
 obtain ⟨⟨⟨⟨⟨h1, h2⟩, h3⟩, h4⟩, h5⟩, h6⟩:=h
 refine ⟨eq_of_beq h1, fun y hy=>eq_of_beq (List.all_eq_true.mp h2 y hy), fun y hy e=>?_, eq_of_beq h4, fun j hj=>?_, fun x hx=>?_⟩
 ·have q:=List.all_eq_true.mp h3 y hy
  rw [e] at q
  have q : zage (X.env.scope.names.lookup y.1) = true:=by simpa using q
  unfold zage at q
  rcases Bool.or_eq_true_iff.mp q with z | z
  ·exact .inl (eq_of_beq z)
  ·exact .inr (eq_of_beq z)
 ·have q:=List.all_eq_true.mp h5 j hj
  rw [Bool.and_eq_true] at q
  exact ⟨of_decide_eq_true q.1, eq_of_beq q.2⟩
 ·have q:=List.all_eq_true.mp h6 x hx
  rcases Bool.or_eq_true_iff.mp q with z | z
  ·exact .inl (eq_of_beq z)
  ·exact .inr (eq_of_beq z)
noncomputable def zani (K : PySem.W.Frag) : R2:=fun x y H Q=>match x, y with
 | .int i, .int j=>Q (.int (i + j)) H
 | .str a, .str b=>a.length + b.length ≤ sizeLine ∧ Q (.str (a ++ b)) H
 | .ref _, .ref _=>rCat x y H Q ∨ zapp K x y H Q
 | _, _=>False
theorem zanj : OpR X (binaryOp .Add) (zani X.K):=by
 intro pins s σ H x y v u Q I rx ry h
 cases x <;> cases y <;> first
  | exact h.elim
  | exact zapk pins s σ H _ _ v u Q I rx ry ⟨_, _, rfl, rfl, h⟩
  | exact zaea pins s σ H _ _ v u Q I rx ry ⟨_, _, rfl, rfl, h.1, h.2⟩
  | exact (zapw.or zamy) pins s σ H _ _ v u Q I rx ry h
noncomputable def zaqf : R2:=fun x y H Q=>match x, y with
 | .int i, .int j=>CMul i j ∧ Q (.int (i * j)) H
 | .str z, .int n=>z.length ≤ 1000 ∧ -1000 ≤ n ∧ n ≤ 1000 ∧ Q (.str (Txt.mul z n)) H
 | _, _=>False
theorem zjm : OpR X (binaryOp .Mult) zaqf:=by
 intro pins s σ H x y v u Q I rx ry h
 cases x <;> cases y <;> first
  | exact h.elim
  | exact zapl pins s σ H _ _ v u Q I rx ry ⟨_, _, rfl, rfl, h.1, h.2⟩
  | exact zanh pins s σ H _ _ v u Q I rx ry ⟨_, _, rfl, rfl, h.1, h.2.1, h.2.2.1, h.2.2.2⟩
noncomputable def rIxU (K : PySem.W.Frag) : R2:=fun x y H Q=>match x, y with
 | .str z, .int i=>z.length ≤ sizeLine ∧ ∃ c, atI z.cps.toList i = some c ∧ Q (.str ⟨#[c]⟩) H
 | .ref p, .int i=>∃ xs v, (SqL K H p xs ∨ SqT K H p xs) ∧ atI xs i = some v ∧ Q v H
 | _, _=>False
theorem ix_U : IxR X (rIxU X.K):=by
 intro value slice pins s σ H x y v u Q I rx ry h hs
 cases x <;> cases y <;> first
  | exact h.elim
  | (obtain ⟨h1, c, h2, h3⟩:=h; exact zaps value slice pins s σ H _ _ v u Q I rx ry ⟨_, _, c, rfl, rfl, h1, h2, h3⟩ hs)
  | (obtain ⟨xs, w, h1, h2, h3⟩:=h
     rcases h1 with h1 | h1
     ·exact zana value slice pins s σ H _ _ v u Q I rx ry ⟨_, xs, _, w, rfl, rfl, h1, h2, h3⟩ hs
     ·exact zapr value slice pins s σ H _ _ v u Q I rx ry ⟨_, xs, _, w, rfl, rfl, h1, h2, h3⟩ hs)
noncomputable def rSlU (K : PySem.W.Frag) : V → Option Int → Option Int → Hp → VK → Prop:=fun x lo hi H Q=>match x with
 | .str z=>z.length ≤ sizeLine ∧ Q (.str (Txt.slice z lo hi)) H
 | .ref _=>rSlL K x lo hi H Q
 | _=>False
theorem sl_U : SlR X (rSlU X.K):=by
 intro pins s σ H x v vl vu lo hi sl Q I rx hs pl pu h
 cases x <;> first
  | exact h.elim
  | exact zaqc pins s σ H _ v vl vu lo hi sl Q I rx hs pl pu ⟨_, rfl, h.1, h.2⟩
  | exact zanb pins s σ H _ v vl vu lo hi sl Q I rx hs pl pu h
noncomputable def Dn (P : Program) (w : World) (K : PySem.W.Frag) (mg : Str → Option Value) (base : Heap) (x : Str) (ps : List Str) (k : Nat) (sp : Sp) : Prop :=
 ∃ f fd, FnOk P w K mg base CX0 k f fd ps sp ∧ mg x = some (.ref f) ∧ PySem.W.keepIn K (.ref f) = true ∧ zaeb K fd ps []
theorem zark {x : Str} {p pos : Pos} {e : Expr} {es : List Expr} {t : TA} {ps : List Str} {k : Nat} {sp : Sp} (D : Dn X.prog X.w X.K X.mg X.base x ps k sp) (hr : Room k X.A) (hg : Gl X x) (ha : PA X (e :: es) t)
  (hdb : (x == ("__debug__" : Str)) = false:=by decide) (he : starEach (e :: es) X.env = (false, eval e X.env) :: starEach es X.env:=by rfl) (hpl : (backTo pos (starEach es X.env)).any (·.1) = false:=by rfl) :
  PE X (.Call (.Name x p) (e :: es) [] pos) (tCall sp [] E0 t):=by
 obtain ⟨f, fd, F, hm, hk, hb⟩:=D
 exact zamx F hr hg hm hk hb .nil zari ha hdb he hpl
end
end L2
namespace L2
open PySem PySem.Spec PyProof.Rows
theorem Same.upd {H H' : Hp} {p : Addr} {o : HO} (h : Same H H') (hp : H p = none) : Same H (upd H' p o):=fun b u e=>by rw [zcj (zce e hp)]; exact h b u e
theorem Same.new {H : Hp} {p : Addr} {o : HO} (hp : H p = none) : Same H (L2.upd H p o):=(Same.refl H).upd hp
end L2
namespace Bc
open PySem L2
noncomputable abbrev Web:=List (Str × List Str)
noncomputable def nm (W : Web) : List Str:=W.map (·.1)
structure WebOk (W : Web) : Prop where
 nd : (nm W).Nodup
 el : ∀ i n es, W[i]? = some (n, es) → ∀ e ∈ es, e ∈ nm (W.take i)
 few : ∀ p ∈ W, p.2.length ≤ 4
 len : W.length ≤ 12
theorem zks {α : Type} [DecidableEq α] : ∀ (l m : List α), l.Nodup → (∀ x ∈ l, x ∈ m) → l.length ≤ m.length
 | [], _, _, _=>Nat.zero_le _
 | a :: l, m, h, s=>by
  obtain ⟨h1, h2⟩:=List.nodup_cons.mp h
  have ha:=s a List.mem_cons_self
  have q:=zks l (m.erase a) h2 fun x hx=>(List.mem_erase_of_ne (fun (z : x = a)=>h1 (by rw [← z]; exact hx))).mpr (s x (List.mem_cons_of_mem _ hx))
  rw [List.length_erase_of_mem ha] at q
  have:=List.length_pos_of_mem ha
  rw [List.length_cons]
  omega
section
variable {κ : Type} [DecidableEq κ]
end
theorem zre {W : Web} (h : WebOk W) : (nm W).length ≤ 12:=by unfold nm; rw [List.length_map]; exact h.len
end Bc
namespace L2
open PySem PySem.Spec PyProof.Rows
section
variable {X : Cx} {K : PySem.W.Frag} (hK : X.K = K)
include hK
theorem zank {es : List Expr} {k : Nat} {t : TGs} {n : Nat} {pos : Pos} (hc : X.calm = true) (h : PGs X es t)
  (hn : (assignEach es X.env).length = n:=by rfl) (hst : (assignEach es X.env).findIdx? (·.1) = none:=by rfl) : PG X (.Tuple es k pos) (gTup K n t):=by subst hK; exact zaph hc h hn hst
theorem zdi : IxR X (rIxU K):=by subst hK; exact ix_U
theorem zkt : SlR X (rSlU K):=by subst hK; exact sl_U
theorem zcs : OpR X (binaryOp .Add) (zani K):=by subst hK; exact zanj
theorem zagg : OpR X (compareOp .In) (rIn K false):=by subst hK; exact zafu
theorem zjq : OpR X (compareOp .NotIn) (rIn K true):=by subst hK; exact zxd
theorem zdj : CallR X (.builtin "len") (fun xs H Q=>∃ x n, xs = [x] ∧ LenV K x H n ∧ Q (.int n) H):=by subst hK; exact zajm
theorem zni (hc : X.calm = true) : CallR X (.builtin "any") (rAny K fun bs=>bs.any id):=by subst hK; exact zakb hc
theorem zxj (hc : X.calm = true) : CallR X (.builtin "all") (rAny K fun bs=>bs.all id):=by subst hK; exact zakc hc
theorem zxk : CallR X (.builtin "isinstance") (fun xs H Q=>∃ x n t b, xs = [x, .ty n] ∧ TyOf K H x t ∧ PySem.W.kitOne K t (.type n) = some b ∧ Q (.bl b) H):=by subst hK; exact zaka rfl
theorem zij : CallR X (.type "list") (fun xs H Q=>∃ p ys, xs = [.ref p] ∧ (SqL K H p ys ∨ SqT K H p ys) ∧ ∀ l, H l = none → Q (.ref l) (upd H l (.lst ys))):=by subst hK; exact zxe
theorem zakd {tg l : Expr} {tl : TE} (hl : PE X l tl) : PI X tg l (zapj K tl):=by subst hK; exact zamt hl
theorem zagh {T : String} {name : Str} {id : String} {r : V → List V → Hp → VK → Prop} {o e : Expr} {es : List Expr} {to : TE} {t : TA} {apos cpos : Pos} (pa : PlainAttrs T) (slot : Slot T name id) (hty : typeOf (.builtin id) = pure (.type "method_descriptor")) (hm : MtR X id r) (ho : PE X o to) (ha : PA X (e :: es) t)
  (hbase : attributeBase o name X.env (eval o X.env) = eval o X.env:=by rfl)
  (hfew : ((backTo cpos (starEach (e :: es) X.env)).all (fun x=>!x.1) && (backToKw cpos (keywordEach [] X.env)).all (fun x=>x.1.isSome)
   && decide ((e :: es).length + ([] : List Keyword).length + (if ([] : List Keyword).isEmpty then 0 else 1) < 30)) = true:=by rfl)
  (hline : (apos.endLine == cpos.line) = true:=by rfl) (hs : starEach (e :: es) X.env = (false, eval e X.env) :: starEach es X.env:=by rfl) (hplain : (backTo cpos (starEach es X.env)).any (·.1) = false:=by rfl) :
  PE X (.Call (.Attribute o name apos) (e :: es) [] cpos) (tBM K T r to t):=by subst hK; exact zarg pa slot hty hm ho ha hbase hfew hline hs hplain
end
end L2
namespace L2
open PySem PySem.Spec PyProof.Rows
noncomputable def keyD : PyData → Option Key
 | .int i=>some (Sum.inl i)
 | .str s=>some (Sum.inr s)
 | _=>none
mutual
noncomputable def Rp (H : Hp) : PyData → V → Prop
 | .none, v=>v = .non
 | .bool b, v=>v = .bl b
 | .int i, v=>v = .int i
 | .str x, v=>v = .str x
 | .list ds, v=>∃ a xs, v = .ref a ∧ H a = some (.lst xs) ∧ Rps H ds xs
 | .tuple ds, v=>∃ a xs, v = .ref a ∧ H a = some (.tup xs) ∧ Rps H ds xs
 | .dict kvs, v=>∃ a ps, v = .ref a ∧ H a = some (.dK ps) ∧ Rpd H kvs ps
noncomputable def Rps (H : Hp) : List PyData → List V → Prop
 | [], xs=>xs = []
 | d :: ds, xs=>∃ v vs, xs = v :: vs ∧ Rp H d v ∧ Rps H ds vs
noncomputable def Rpd (H : Hp) : List (PyData × PyData) → List (Key × V) → Prop
 | [], ps=>ps = []
 | (k, d) :: r, ps=>∃ k' v vs, ps = (k', v) :: vs ∧ keyD k = some k' ∧ Rp H d v ∧ Rpd H r vs
end
mutual
theorem Rp.same {H H' : Hp} (h : Same H H') : ∀ (d : PyData) {v : V}, Rp H d v → Rp H' d v
 | .none, v, q=>by unfold Rp at q ⊢; exact q
 | .bool b, v, q=>by unfold Rp at q ⊢; exact q
 | .int i, v, q=>by unfold Rp at q ⊢; exact q
 | .str x, v, q=>by unfold Rp at q ⊢; exact q
 | .list ds, v, q=>by
  unfold Rp at q ⊢
  obtain ⟨a, xs, e, hq, hr⟩:=q
  exact ⟨a, xs, e, h _ _ hq, Rps.same h ds hr⟩
 | .tuple ds, v, q=>by
  unfold Rp at q ⊢
  obtain ⟨a, xs, e, hq, hr⟩:=q
  exact ⟨a, xs, e, h _ _ hq, Rps.same h ds hr⟩
 | .dict kvs, v, q=>by
  unfold Rp at q ⊢
  obtain ⟨a, xs, e, hq, hr⟩:=q
  exact ⟨a, xs, e, h _ _ hq, Rpd.same h kvs hr⟩
theorem Rps.same {H H' : Hp} (h : Same H H') : ∀ (ds : List PyData) {vs : List V}, Rps H ds vs → Rps H' ds vs
 | [], vs, q=>by unfold Rps at q ⊢; exact q
 | d :: ds, vs, q=>by
  unfold Rps at q ⊢
  obtain ⟨v, vs', e, h1, h2⟩:=q
  exact ⟨v, vs', e, Rp.same h d h1, Rps.same h ds h2⟩
theorem Rpd.same {H H' : Hp} (h : Same H H') : ∀ (ds : List (PyData × PyData)) {vs : List (Key × V)}, Rpd H ds vs → Rpd H' ds vs
 | [], vs, q=>by unfold Rpd at q ⊢; exact q
 | (k, d) :: ds, vs, q=>by
  unfold Rpd at q ⊢
  obtain ⟨k', v, vs', e, h0, h1, h2⟩:=q
  exact ⟨k', v, vs', e, h0, Rp.same h d h1, Rpd.same h ds h2⟩
end
theorem zes {H : Hp} : ∀ {ds : List PyData} {xs : List V}, Rps H ds xs ↔ Paired (Rp H) ds xs
 | [], xs=>by
  constructor
  ·intro h; unfold Rps at h; subst h; exact .nil
  ·intro h; cases h; unfold Rps; rfl
 | d :: ds, xs=>by
  constructor
  ·intro h
   unfold Rps at h
   obtain ⟨v, vs, rfl, h1, h2⟩:=h
   exact .cons h1 (zes.mp h2)
  ·intro h
   cases h with
   | cons h1 h2=>unfold Rps; exact ⟨_, _, rfl, h1, zes.mpr h2⟩
theorem Rps.length {H : Hp} {ds : List PyData} {xs : List V} (h : Rps H ds xs) : ds.length = xs.length:=(zes.mp h).length
theorem zgr {H : Hp} {ds : List PyData} {v : V} (h : Rp H (.list ds) v) : ∃ a xs, v = .ref a ∧ H a = some (.lst xs) ∧ Rps H ds xs:=by unfold Rp at h; exact h
theorem zff {H : Hp} {ds : List PyData} {v : V} (h : Rp H (.tuple ds) v) : ∃ a xs, v = .ref a ∧ H a = some (.tup xs) ∧ Rps H ds xs:=by unfold Rp at h; exact h
theorem zor {H : Hp} {ds : List (PyData × PyData)} {v : V} (h : Rp H (.dict ds) v) : ∃ a xs, v = .ref a ∧ H a = some (.dK xs) ∧ Rpd H ds xs:=by unfold Rp at h; exact h
theorem zgb {H : Hp} {i : Int} {v : V} (h : Rp H (.int i) v) : v = .int i:=by unfold Rp at h; exact h
theorem zpl {H : Hp} {i : Str} {v : V} (h : Rp H (.str i) v) : v = .str i:=by unfold Rp at h; exact h
theorem zos {H : Hp} {i : Bool} {v : V} (h : Rp H (.bool i) v) : v = .bl i:=by unfold Rp at h; exact h
theorem zagi {H : Hp} {v : V} (h : Rp H .none v) : v = .non:=by unfold Rp at h; exact h
theorem zag {H : Hp} {i : Int} : Rp H (.int i) (.int i):=by unfold Rp; rfl
theorem zcl {H : Hp} {i : Str} : Rp H (.str i) (.str i):=by unfold Rp; rfl
theorem zbl {H : Hp} {i : Bool} : Rp H (.bool i) (.bl i):=by unfold Rp; rfl
theorem zaef {H : Hp} : Rp H .none .non:=by unfold Rp; rfl
theorem zjr {H : Hp} {ds : List PyData} {a : Addr} {xs : List V} (h : H a = some (.lst xs)) (r : Rps H ds xs) : Rp H (.list ds) (.ref a):=by unfold Rp; exact ⟨a, xs, rfl, h, r⟩
theorem zaao {H : Hp} {ds : List PyData} {a : Addr} {xs : List V} (h : H a = some (.tup xs)) (r : Rps H ds xs) : Rp H (.tuple ds) (.ref a):=by unfold Rp; exact ⟨a, xs, rfl, h, r⟩
theorem zlt {H : Hp} {ds : List (PyData × PyData)} {a : Addr} {xs : List (Key × V)} (h : H a = some (.dK xs)) (r : Rpd H ds xs) : Rp H (.dict ds) (.ref a):=by unfold Rp; exact ⟨a, xs, rfl, h, r⟩
theorem zfo {H : Hp} : Rps H [] []:=by unfold Rps; rfl
theorem zku {H : Hp} : Rpd H [] []:=by unfold Rpd; rfl
theorem zfg {H : Hp} {d : PyData} {ds : List PyData} {v : V} {vs : List V} (h : Rp H d v) (r : Rps H ds vs) : Rps H (d :: ds) (v :: vs):=by
 show Rps H (d :: ds) _
 unfold Rps; exact ⟨v, vs, rfl, h, r⟩
theorem Rps.append {H : Hp} {ds es : List PyData} {vs ws : List V} (h : Rps H ds vs) (r : Rps H es ws) : Rps H (ds ++ es) (vs ++ ws):=by
 replace h:=zes.mp h
 refine zes.mpr ?_
 induction h with
 | nil=>exact zes.mp r
 | cons h _ ih=>exact .cons h ih
theorem Rps.get2 {H : Hp} {ds : List PyData} {vs : List V} (h : Rps H ds vs) {i : Nat} {d : PyData} (e : ds[i]? = some d) : ∃ v, vs[i]? = some v ∧ Rp H d v:=by
 replace h:=zes.mp h
 induction h generalizing i with
 | nil=>simp at e
 | cons h _ ih =>
  cases i with
  | zero=>simp at e; subst e; exact ⟨_, rfl, h⟩
  | succ i=>simpa using ih (by simpa using e)
open Classical in
noncomputable def Offs (A : Addr → Prop) (H : Hp) : Hp:=fun b=>if A b then none else H b
theorem Offs.get {A : Addr → Prop} {H : Hp} {b : Addr} (h : ¬ A b) : Offs A H b = H b:=if_neg h
theorem Offs.out {A : Addr → Prop} {H : Hp} {b : Addr} (h : A b) : Offs A H b = none:=if_pos h
theorem Offs.of {A : Addr → Prop} {H : Hp} {b : Addr} {o : HO} (h : Offs A H b = some o) : ¬ A b ∧ H b = some o:=by
 by_cases hb : A b
 ·rw [Offs.out hb] at h; cases h
 ·rw [Offs.get hb] at h; exact ⟨hb, h⟩
theorem Offs.mono {A B : Addr → Prop} {H H' : Hp} (s : Same H H') (h : ∀ b o, H b = some o → ¬ A b → ¬ B b) : Same (Offs A H) (Offs B H'):=fun b o e=>by
 obtain ⟨h1, h2⟩:=Offs.of e
 rw [Offs.get (h b o h2 h1)]
 exact s b o h2
theorem Offs.same (A : Addr → Prop) (H : Hp) : Same (Offs A H) H:=fun b o e=>(Offs.of e).2
theorem Offs.sub {A B : Addr → Prop} {H : Hp} (h : ∀ b, B b → A b) : Same (Offs A H) (Offs B H):=Offs.mono (Same.refl _) fun b _ _ n z=>n (h b z)
theorem Offs.grow {A : Addr → Prop} {H H' : Hp} (s : Same H H') : Same (Offs A H) (Offs A H'):=Offs.mono s fun _ _ _ z=>z
theorem Offs.upd {A : Addr → Prop} {H : Hp} {a : Addr} {o : HO} (h : A a) : Offs A (upd H a o) = Offs A H:=by
 funext b
 by_cases hb : A b
 ·rw [Offs.out hb, Offs.out hb]
 ·rw [Offs.get hb, Offs.get hb, zcj (fun e=>hb (by rw [e]; exact h))]
inductive Sl where
 | no
  | pl (d : PyData)
  | ac (d : PyData)
noncomputable abbrev DEnv:=List Sl
noncomputable def own (env : DEnv) (σ : St) (a : Addr) : Prop:=∃ (i : Nat) (d : PyData), env[i]? = some (.ac d) ∧ σ[i]? = some (some (.ref a))
noncomputable def zjs (Ho H : Hp) (a : Addr) : PyData → Prop
 | .list ds=>∃ xs, H a = some (.lst xs) ∧ Rps Ho ds xs
 | .dict kvs=>∃ ps, H a = some (.dK ps) ∧ Rpd Ho kvs ps
 | _=>False
theorem zjs.rp {Ho H H' : Hp} {a : Addr} {d : PyData} (h : zjs Ho H a d) (s : Same Ho H') (e : ∀ o, H a = some o → H' a = some o) : Rp H' d (.ref a):=by
 cases d with
 | list ds =>
  obtain ⟨xs, h1, h2⟩:=h
  exact zjr (e _ h1) (Rps.same s _ h2)
 | dict ds =>
  obtain ⟨xs, h1, h2⟩:=h
  exact zlt (e _ h1) (Rpd.same s _ h2)
 | _=>exact h.elim
theorem zjs.same {Ho H Ho' H' : Hp} {a : Addr} {d : PyData} (h : zjs Ho H a d) (s : Same Ho Ho') (e : ∀ o, H a = some o → H' a = some o) : zjs Ho' H' a d:=by
 cases d with
 | list ds =>
  obtain ⟨xs, h1, h2⟩:=h
  exact ⟨xs, e _ h1, Rps.same s _ h2⟩
 | dict ds =>
  obtain ⟨xs, h1, h2⟩:=h
  exact ⟨xs, e _ h1, Rpd.same s _ h2⟩
 | _=>exact h.elim
theorem zjs.ex {Ho H : Hp} {a : Addr} {d : PyData} (h : zjs Ho H a d) : ∃ o, H a = some o:=by
 cases d with
 | list ds=>obtain ⟨xs, h1, h2⟩:=h; exact ⟨_, h1⟩
 | dict ds=>obtain ⟨xs, h1, h2⟩:=h; exact ⟨_, h1⟩
 | _=>exact h.elim
structure EnvOk (fx : Addr → Prop) (H0 : Hp) (env : DEnv) (σ : St) (H : Hp) : Prop where
 len : env.length = σ.length
 pl : ∀ (i : Nat) (d : PyData), env[i]? = some (.pl d) → ∃ v, σ[i]? = some (some v) ∧ Rp (Offs (fun a=>fx a ∨ own env σ a) H) d v
 ac : ∀ (i : Nat) (d : PyData), env[i]? = some (.ac d) → ∃ a, σ[i]? = some (some (.ref a)) ∧ H0 a = none ∧ ¬ fx a ∧ zjs (Offs (fun a=>fx a ∨ own env σ a) H) H a d
 inj : ∀ (i j : Nat) (d e : PyData) (a : Addr), env[i]? = some (.ac d) → env[j]? = some (.ac e) → σ[i]? = some (some (.ref a)) → σ[j]? = some (some (.ref a)) → i = j
 base : Same H0 H
 fxs : ∀ b, fx b → ∃ o, H b = some o
theorem EnvOk.grow {fx fx' : Addr → Prop} {H0 : Hp} {env : DEnv} {σ : St} {H H' : Hp} (h : EnvOk fx H0 env σ H) (s : Same H H') (f : ∀ b o, H b = some o → ¬ fx b → ¬ fx' b) (g : ∀ b, fx' b → ∃ o, H' b = some o) : EnvOk fx' H0 env σ H':=by
 have so : Same (Offs (fun a=>fx a ∨ own env σ a) H) (Offs (fun a=>fx' a ∨ own env σ a) H'):=Offs.mono s fun b o e n=>fun z=>z.elim (f b o e fun y=>n (.inl y)) fun y=>n (.inr y)
 refine ⟨h.len, fun i d e=>?_, fun i d e=>?_, h.inj, h.base.trans s, g⟩
 ·obtain ⟨v, h1, h2⟩:=h.pl i d e
  exact ⟨v, h1, Rp.same so d h2⟩
 ·obtain ⟨a, h1, h2, h3, h4⟩:=h.ac i d e
  obtain ⟨o, ho⟩:=h4.ex
  exact ⟨a, h1, h2, f a o ho h3, h4.same so fun o=>s a o⟩
theorem EnvOk.up {fx : Addr → Prop} {H0 : Hp} {env : DEnv} {σ : St} {H H' : Hp} (h : EnvOk fx H0 env σ H) (s : Same H H') : EnvOk fx H0 env σ H' :=
 h.grow s (fun _ _ _ z=>z) fun b z=>let ⟨o, e⟩:=h.fxs b z; ⟨o, s b o e⟩
structure Val where
 d : PyData
 fr : Bool
 bs : List Nat
noncomputable def lim (fx : Addr → Prop) (env : DEnv) (σ : St) (bs : List Nat) (a : Addr) : Prop:=fx a ∨ ∃ (i : Nat) (d : PyData), i ∉ bs ∧ env[i]? = some (.ac d) ∧ σ[i]? = some (some (.ref a))
structure ValOk (A : Addr → Prop) (H H' : Hp) (r : Val) (v : V) : Prop where
 rp : Rp (Offs A H') r.d v
 fr : r.fr = true → ∃ a, v = .ref a ∧ H a = none ∧ zjs (Offs (fun b=>A b ∨ b = a) H') H' a r.d
theorem zrf {fx : Addr → Prop} {env : DEnv} {σ : St} {bs cs : List Nat} (h : ∀ i ∈ bs, i ∈ cs) : ∀ a, lim fx env σ cs a → lim fx env σ bs a:=by
 rintro a (z | ⟨i, d, h1, h2, h3⟩)
 ·exact .inl z
 ·exact .inr ⟨i, d, fun q=>h1 (h i q), h2, h3⟩
theorem zrg {fx : Addr → Prop} {env : DEnv} {σ : St} {bs : List Nat} : ∀ a, lim fx env σ bs a → fx a ∨ own env σ a:=by
 rintro a (z | ⟨i, d, h1, h2, h3⟩)
 ·exact .inl z
 ·exact .inr ⟨i, d, h2, h3⟩
theorem zanl {fx : Addr → Prop} {env : DEnv} {σ : St} : ∀ a, fx a ∨ own env σ a → lim fx env σ [] a:=by
 rintro a (z | ⟨i, d, h2, h3⟩)
 ·exact .inl z
 ·exact .inr ⟨i, d, by simp, h2, h3⟩
theorem EnvOk.lims {fx : Addr → Prop} {H0 : Hp} {env : DEnv} {σ : St} {H : Hp} (h : EnvOk fx H0 env σ H) (bs : List Nat) : ∀ b, lim fx env σ bs b → ∃ o, H b = some o:=by
 rintro b (z | ⟨i, d, h1, h2, h3⟩)
 ·exact h.fxs b z
 ·obtain ⟨a, g1, g2, g3, g4⟩:=h.ac i d h2
  rw [h3] at g1
  cases g1
  exact g4.ex
theorem ValOk.later {A B : Addr → Prop} {H0 H H' H'' : Hp} {r : Val} {v : V} (h : ValOk A H H' r v) (s0 : Same H0 H) (s : Same H' H'') (hB : ∀ b, B b → A b) : ValOk B H0 H'' r v:=by
 refine ⟨Rp.same (Offs.mono s fun b _ _ n z=>n (hB b z)) _ h.rp, fun e=>?_⟩
 obtain ⟨a, h1, h2, h3⟩:=h.fr e
 exact ⟨a, h1, s0.free h2, h3.same (Offs.mono s fun b _ _ n z=>n (z.elim (fun y=>.inl (hB b y)) .inr)) fun o=>s a o⟩
noncomputable def zht : PyData → Bool
 | .list _=>false
 | .tuple _=>false
 | .dict _=>false
 | _=>true
theorem zagj {H H' : Hp} {d : PyData} {v : V} (f : zht d = true) (h : Rp H d v) : Rp H' d v:=by
 cases d <;> first
  | (unfold Rp at h ⊢; exact h)
  | cases f
noncomputable def bsOf (d : PyData) (bs : List Nat) : List Nat:=if zht d = true then [] else bs
theorem zvc {fx : Addr → Prop} {env : DEnv} {σ : St} {bs : List Nat} {H : Hp} {d : PyData} {v : V} (h : Rp (Offs (lim fx env σ bs) H) d v) : Rp (Offs (lim fx env σ (bsOf d bs)) H) d v:=by
 unfold bsOf
 split
 ·rename_i e; exact zagj e h
 ·exact h
noncomputable abbrev EF:=DEnv → Option Val
noncomputable def SE (te : TE) (f : EF) : Prop:=∀ (fx : Addr → Prop) (H0 : Hp) (env : DEnv) (σ : St) (H : Hp), EnvOk fx H0 env σ H → ∀ r, f env = some r → ∀ Q : VK, (∀ v H', Same H H' → ValOk (lim fx env σ r.bs) H H' r v → Q v H') → te σ H Q
noncomputable abbrev TF:=DEnv → Option Bool
noncomputable def ST (tt : TT) (f : TF) : Prop:=∀ (fx : Addr → Prop) (H0 : Hp) (env : DEnv) (σ : St) (H : Hp), EnvOk fx H0 env σ H → ∀ b, f env = some b → ∀ Q : Bool → Hp → Prop, (∀ H', Same H H' → Q b H') → tt σ H Q
noncomputable abbrev AF:=DEnv → Option (List Val)
noncomputable def SA (ta : TA) (f : AF) : Prop:=∀ (fx : Addr → Prop) (H0 : Hp) (env : DEnv) (σ : St) (H : Hp), EnvOk fx H0 env σ H → ∀ rs, f env = some rs → ∀ Q : List V → Hp → Prop,
 (∀ vs H', Same H H' → Paired (fun r v=>ValOk (lim fx env σ r.bs) H H' r v) rs vs → Q vs H') → ta σ H Q
section
variable {X : Cx}
noncomputable def eVar (i : Nat) : EF:=fun env=>match env[i]? with
 | some (.pl d)=>some ⟨d, false, []⟩
 | some (.ac d)=>some ⟨d, false, [i]⟩
 | _=>none
theorem zad (i : Nat) : SE (tVar i) (eVar i):=by
 intro fx H0 env σ H h r hr Q q
 unfold eVar at hr
 cases e : env[i]? with
 | none=>rw [e] at hr; cases hr
 | some sl =>
  rw [e] at hr
  cases sl with
  | no=>cases hr
  | pl d =>
   cases hr
   obtain ⟨v, h1, h2⟩:=h.pl i d e
   exact ⟨v, h1, q v H (Same.refl _) ⟨Rp.same (Offs.sub zrg) _ h2, fun z=>by cases z⟩⟩
  | ac d =>
   cases hr
   obtain ⟨a, h1, h2, h3, h4⟩:=h.ac i d e
   have hna : ¬ lim fx env σ [i] a:=by
    rintro (z | ⟨j, d', g1, g2, g3⟩)
    ·exact h3 z
    ·exact g1 (List.mem_singleton.mpr (h.inj j i d' d a g2 e g3 h1))
   exact ⟨_, h1, q _ H (Same.refl _) ⟨h4.rp (Offs.sub zrg) fun o z=>by rw [Offs.get hna]; exact z, fun z=>by cases z⟩⟩
noncomputable def eC (d : PyData) : EF:=fun _=>some ⟨d, false, []⟩
theorem se_c {d : PyData} {v : V} (h : ∀ H, Rp H d v) : SE (tC v) (eC d):=by
 intro fx H0 env σ H _ r hr Q q
 cases hr
 exact q v H (Same.refl _) ⟨h _, fun z=>by cases z⟩
noncomputable abbrev OF:=PyData → PyData → Option (PyData × Bool)
noncomputable def SO (r : R2) (f : OF) : Prop:=∀ (A : Addr → Prop) (H : Hp) (x y : V) (dx dy : PyData), (∀ b, A b → ∃ o, H b = some o) → Rp (Offs A H) dx x → Rp (Offs A H) dy y → ∀ d fr, f dx dy = some (d, fr) → ∀ Q : VK,
 (∀ v H', Same H H' → Rp (Offs A H') d v → (fr = true → ∃ a, v = .ref a ∧ H a = none ∧ zjs (Offs (fun b=>A b ∨ b = a) H') H' a d) → Q v H') → r x y H Q
noncomputable def eOp (f : OF) (a b : EF) : EF:=fun env=>(a env).bind fun x=>(b env).bind fun y=>(f x.d y.d).bind fun z=>some ⟨z.1, z.2, bsOf z.1 (x.bs ++ y.bs)⟩
theorem zbd {r : R2} {f : OF} {ta tb : TE} {fa fb : EF} (ho : SO r f) (ha : SE ta fa) (hb : SE tb fb) : SE (tOp r ta tb) (eOp f fa fb):=by
 intro fx H0 env σ H h rr hr Q q
 unfold eOp at hr
 obtain ⟨x, ex, hr⟩:=Option.bind_eq_some_iff.mp hr
 obtain ⟨y, ey, hr⟩:=Option.bind_eq_some_iff.mp hr
 obtain ⟨⟨d, fr⟩, ez, hr⟩:=Option.bind_eq_some_iff.mp hr
 cases hr
 refine ha fx H0 env σ H h x ex _ fun v H1 s1 v1=>hb fx H0 env σ H1 (h.up s1) y ey _ fun u H2 s2 v2=>?_
 have l1 : ∀ b, lim fx env σ (x.bs ++ y.bs) b → lim fx env σ x.bs b:=zrf fun i hi=>List.mem_append_left _ hi
 have l2 : ∀ b, lim fx env σ (x.bs ++ y.bs) b → lim fx env σ y.bs b:=zrf fun i hi=>List.mem_append_right _ hi
 refine ho (lim fx env σ (x.bs ++ y.bs)) H2 v u x.d y.d ((h.up (s1.trans s2)).lims _) (v1.later (Same.refl _) s2 l1).rp (v2.later (Same.refl _) (Same.refl _) l2).rp d fr ez _ fun w H3 s3 rp fr3=>q w H3 ((s1.trans s2).trans s3) ⟨zvc rp, fun e=>?_⟩
 obtain ⟨a, g1, g2, g3⟩:=fr3 e
 refine ⟨a, g1, (s1.trans s2).free g2, ?_⟩
 have nf : zht d = false:=by cases d <;> first | rfl | exact g3.elim
 show zjs (Offs (fun b=>lim fx env σ (bsOf d (x.bs ++ y.bs)) b ∨ b = a) H3) H3 a d
 rw [show bsOf d (x.bs ++ y.bs) = x.bs ++ y.bs by unfold bsOf; rw [if_neg (by rw [nf]; decide)]]
 exact g3
end
end L2
namespace L2
open PySem PySem.Spec PyProof.Rows
theorem zjn {n : Nat} (h : n ≤ 100000) : n ≤ sizeLine:=Nat.le_trans h (by decide)
theorem zrh {n : Nat} (h : n < 100000) : n < sizeLine:=Nat.lt_trans h (by decide)
theorem zgs {A : Addr → Prop} {H : Hp} (hA : ∀ b, A b → ∃ o, H b = some o) {p : Addr} (hp : H p = none) : ¬ A p:=fun z=>by
 obtain ⟨o, e⟩:=hA p z
 rw [hp] at e; cases e
theorem zvd {A : Addr → Prop} {H : Hp} {p : Addr} {ds : List PyData} {xs : List V} (hp : H p = none) (r : Rps (Offs A H) ds xs) : zjs (Offs (fun b=>A b ∨ b = p) (upd H p (.lst xs))) (upd H p (.lst xs)) p (.list ds):=by
 refine ⟨xs, zbn, Rps.same (Offs.mono (Same.new hp) fun b o e n z=>?_) _ r⟩
 rcases z with z | z
 ·exact n z
 ·rw [z, hp] at e; cases e
theorem zacf {A : Addr → Prop} {H : Hp} {p : Addr} {ds : List PyData} {xs : List V} (hp : H p = none) (hA : ¬ A p) (r : Rps (Offs A H) ds xs) : Rp (Offs A (upd H p (.lst xs))) (.list ds) (.ref p) :=
 zjr (by rw [Offs.get hA]; exact zbn) (Rps.same (Offs.grow (Same.new hp)) _ r)
theorem zri {A : Addr → Prop} {H : Hp} {p : Addr} {ds : List PyData} {xs : List V} (hp : H p = none) (hA : ¬ A p) (r : Rps (Offs A H) ds xs) : Rp (Offs A (upd H p (.tup xs))) (.tuple ds) (.ref p) :=
 zaao (by rw [Offs.get hA]; exact zbn) (Rps.same (Offs.grow (Same.new hp)) _ r)
theorem zeq {A : Addr → Prop} {H : Hp} {a : Addr} {o : HO} (h : Offs A H a = some o) : H a = some o:=(Offs.of h).2
noncomputable def addD : OF
 | .int i, .int j=>some (.int (i + j), false)
 | .str a, .str b=>if a.length + b.length ≤ 100000 then some (.str (a ++ b), false) else none
 | .list a, .list b=>if a.length + b.length ≤ 100000 then some (.list (a ++ b), true) else none
 | .tuple a, .tuple b=>if a.isEmpty = false ∧ a.length + b.length ≤ 100000 then some (.tuple (a ++ b), false) else none
 | _, _=>none
theorem zhu {K : PySem.W.Frag} : SO (zani K) addD:=by
 intro A H x y dx dy hA rx ry d fr e Q q
 unfold addD at e
 split at e
 ·cases e
  cases zgb rx; cases zgb ry
  exact q _ H (Same.refl _) zag (fun z=>by cases z)
 ·split at e
  ·rename_i hl
   cases e
   cases zpl rx; cases zpl ry
   exact ⟨zjn hl, q _ H (Same.refl _) zcl (fun z=>by cases z)⟩
  ·cases e
 ·split at e
  ·rename_i hl
   cases e
   obtain ⟨p, xs, rfl, hp, r1⟩:=zgr rx
   obtain ⟨p', ys, rfl, hp', r2⟩:=zgr ry
   refine .inl ⟨p, p', xs, ys, rfl, rfl, zeq hp, zeq hp', zjn (by rw [← r1.length, ← r2.length]; exact hl), fun b hb=>?_⟩
   exact q _ _ (Same.new hb) (zacf hb (zgs hA hb) (r1.append r2)) fun _=>⟨b, rfl, hb, zvd hb (r1.append r2)⟩
  ·cases e
 ·split at e
  ·rename_i hl
   cases e
   obtain ⟨p, xs, rfl, hp, r1⟩:=zff rx
   obtain ⟨p', ys, rfl, hp', r2⟩:=zff ry
   refine .inr ⟨p, p', xs, ys, rfl, rfl, SqT.of (zeq hp), SqT.of (zeq hp'), fun z=>?_, zjn (by rw [← r1.length, ← r2.length]; exact hl.2), fun z=>?_, fun _ b hb=>?_⟩
   ·have h1:=r1.length
    have h0:=hl.1
    rw [z] at h1
    rw [List.isEmpty_eq_false_iff] at h0
    exact h0 (List.length_eq_zero_iff.mp h1)
   ·have h2:=r2.length
    rw [z] at h2
    have:=List.length_eq_zero_iff.mp h2
    subst this
    rw [List.append_nil] at q
    exact q _ H (Same.refl _) rx (fun z=>by cases z)
   ·exact q _ _ (Same.new hb) (zri hb (zgs hA hb) (r1.append r2)) (fun z=>by cases z)
  ·cases e
 ·cases e
noncomputable def intD (c : Int → Int → Bool) (f : Int → Int → PyData) : OF
 | .int i, .int j=>if c i j = true then some (f i j, false) else none
 | _, _=>none
theorem zalw {C : Int → Int → Prop} {g : Int → Int → V} {c : Int → Int → Bool} {f : Int → Int → PyData} (hc : ∀ i j, c i j = true → C i j) (hf : ∀ H i j, Rp H (f i j) (g i j)) : SO (rI C g) (intD c f):=by
 intro A H x y dx dy hA rx ry d fr e Q q
 unfold intD at e
 split at e
 ·split at e
  ·rename_i h
   cases e
   cases zgb rx; cases zgb ry
   exact ⟨_, _, rfl, rfl, hc _ _ h, q _ H (Same.refl _) (hf _ _ _) (fun z=>by cases z)⟩
  ·cases e
 ·cases e
theorem zagk {g : Int → Int → V} {f : Int → Int → PyData} (hf : ∀ H i j, Rp H (f i j) (g i j)) : SO (rI0 g) (intD (fun _ _=>true) f):=by
 intro A H x y dx dy hA rx ry d fr e Q q
 unfold intD at e
 split at e
 ·split at e
  ·cases e
   cases zgb rx; cases zgb ry
   exact ⟨_, _, rfl, rfl, q _ H (Same.refl _) (hf _ _ _) (fun z=>by cases z)⟩
  ·cases e
 ·cases e
noncomputable def subD : OF:=intD (fun _ _=>true) fun i j=>.int (i - j)
theorem zpm : SO (rI0 fun i j=>.int (i - j)) subD:=zagk fun _ _ _=>zag
noncomputable def gtD : OF:=intD (fun _ _=>true) fun i j=>.bool (decide (j < i))
theorem zanm : SO (rI0 fun i j=>.bl (decide (j < i))) gtD:=zagk fun _ _ _=>zbl
noncomputable def modD : OF:=intD (fun _ j=>decide (0 < j)) fun i j=>.int (i % j)
theorem zel : SO (rI (fun _ j=>0 < j) fun i j=>.int (i % j)) modD:=zalw (fun _ _ h=>of_decide_eq_true h) fun _ _ _=>zag
noncomputable def zde : OF:=intD (fun _ j=>decide (0 < j ∧ j < 1073741824)) fun i j=>.int (i / j)
theorem zfp : SO (rI CDiv fun i j=>.int (i / j)) zde:=zalw (fun i j h=>(of_decide_eq_true h : 0 < j ∧ j < 1073741824)) fun _ _ _=>zag
noncomputable def mulD : OF
 | .int i, .int j=>if (-(2 ^ 64) < i ∧ i < 2 ^ 64) ∨ (-(2 ^ 64) < j ∧ j < 2 ^ 64) then some (.int (i * j), false) else none
 | .str z, .int n=>if z.length ≤ 1000 ∧ -1000 ≤ n ∧ n ≤ 1000 then some (.str (Txt.mul z n), false) else none
 | _, _=>none
theorem zuc : SO zaqf mulD:=by
 intro A H x y dx dy hA rx ry d fr e Q q
 unfold mulD at e
 split at e
 ·split at e
  ·rename_i h
   cases e
   cases zgb rx; cases zgb ry
   exact ⟨h, q _ H (Same.refl _) zag (fun z=>by cases z)⟩
  ·cases e
 ·split at e
  ·rename_i h
   cases e
   cases zpl rx; cases zgb ry
   exact ⟨h.1, h.2.1, h.2.2, q _ H (Same.refl _) zcl (fun z=>by cases z)⟩
  ·cases e
 ·cases e
mutual
theorem zrj {K : PySem.W.Frag} {H : Hp} : ∀ {d : PyData} {v : V}, d.canLay0 = true → Rp H d v → Rep K H d v
 | .none, v, _, h=>by unfold Rp at h; unfold Rep; exact h
 | .bool b, v, _, h=>by unfold Rp at h; unfold Rep; exact h
 | .int i, v, _, h=>by unfold Rp at h; unfold Rep; exact h
 | .str x, v, _, h=>by unfold Rp at h; unfold Rep; exact h
 | .list ds, v, c, h=>by
  obtain ⟨a, xs, e, h1, h2⟩:=zgr h
  unfold Rep
  exact ⟨a, xs, e, SqL.of h1, zve (by simpa [PyData.canLay0] using c) h2⟩
 | .tuple ds, v, c, h=>by
  obtain ⟨a, xs, e, h1, h2⟩:=zff h
  unfold Rep
  exact ⟨a, xs, e, SqT.of h1, zve (by simpa [PyData.canLay0] using c) h2⟩
 | .dict _, v, c, h=>by simp [PyData.canLay0] at c
theorem zve {K : PySem.W.Frag} {H : Hp} : ∀ {ds : List PyData} {vs : List V}, PyData.canLayAll0 ds = true → Rps H ds vs → Reps K H ds vs
 | [], vs, _, h=>by unfold Rps at h; unfold Reps; exact h
 | d :: ds, vs, c, h=>by
  unfold Rps at h
  obtain ⟨v, ws, e, h1, h2⟩:=h
  have c : d.canLay0 = true ∧ PyData.canLayAll0 ds = true:=by simpa [PyData.canLayAll0] using c
  unfold Reps
  exact ⟨v, ws, e, zrj c.1 h1, zve c.2 h2⟩
end
noncomputable def zake : PyData → PyData → Bool
 | .none, .none=>true | .none, .int _=>true | .int _, .none=>true | .none, .bool _=>true | .bool _, .none=>true | .none, .str _=>true | .str _, .none=>true
 | .int _, .int _=>true | .bool _, .bool _=>true | .str _, .str _=>true
 | .int _, .str _=>true | .str _, .int _=>true | .bool _, .str _=>true | .str _, .bool _=>true
 | _, _=>false
noncomputable def eqOk (dx dy : PyData) : Bool:=zake dx dy || (SeqAt.shaped dx && SeqAt.shaped dy)
noncomputable def eqD : OF:=fun dx dy=>if eqOk dx dy = true then some (.bool (PyData.eqv dx dy), false) else none
noncomputable def neD : OF:=fun dx dy=>if eqOk dx dy = true then some (.bool (!PyData.eqv dx dy), false) else none
theorem zagl {H : Hp} {dx dy : PyData} {x y : V} (s : zake dx dy = true) (rx : Rp H dx x) (ry : Rp H dy y) : scal x y = true ∧ decide (x = y) = PyData.eqv dx dy:=by
 cases dx <;> cases dy <;> first
  | (exact absurd (show false = true from s) Bool.false_ne_true)
  | (unfold Rp at rx ry; subst rx; subst ry; refine ⟨rfl, ?_⟩; first | rfl | exact zaaf | exact zafj | exact zaag | simp [PyData.eqv])
theorem znj {K : PySem.W.Frag} : SO (fun x y H Q=>rEq x y H Q ∨ rEqD K false x y H Q) eqD:=by
 intro A H x y dx dy hA rx ry d fr e Q q
 unfold eqD at e
 split at e
 ·rename_i h
  cases e
  cases hs : zake dx dy with
  | true =>
   obtain ⟨h1, h2⟩:=zagl hs rx ry
   exact .inl ⟨h1, by rw [h2]; exact q _ H (Same.refl _) zbl (fun z=>by cases z)⟩
  | false =>
   unfold eqOk at h
   rw [hs, Bool.false_or, Bool.and_eq_true] at h
   have rx:=Rp.same (Offs.same A H) _ rx
   have ry:=Rp.same (Offs.same A H) _ ry
   exact .inr ⟨dx, dy, zrj (SeqAt.canLay_of_shaped h.1) rx, zrj (SeqAt.canLay_of_shaped h.2) ry, h.1, h.2, q _ H (Same.refl _) zbl (fun z=>by cases z)⟩
 ·cases e
theorem zte {K : PySem.W.Frag} : SO (fun x y H Q=>rNe x y H Q ∨ rEqD K true x y H Q) neD:=by
 intro A H x y dx dy hA rx ry d fr e Q q
 unfold neD at e
 split at e
 ·rename_i h
  cases e
  cases hs : zake dx dy with
  | true =>
   obtain ⟨h1, h2⟩:=zagl hs rx ry
   exact .inl ⟨h1, by rw [h2]; exact q _ H (Same.refl _) zbl (fun z=>by cases z)⟩
  | false =>
   unfold eqOk at h
   rw [hs, Bool.false_or, Bool.and_eq_true] at h
   have rx:=Rp.same (Offs.same A H) _ rx
   have ry:=Rp.same (Offs.same A H) _ ry
   exact .inr ⟨dx, dy, zrj (SeqAt.canLay_of_shaped h.1) rx, zrj (SeqAt.canLay_of_shaped h.2) ry, h.1, h.2, q _ H (Same.refl _) zbl (fun z=>by cases z)⟩
 ·cases e
noncomputable def zft (ds : List PyData) : Bool:=ds.all zht
theorem zalx {H : Hp} {d : PyData} {v : V} (f : zht d = true) (h : Rp H d v) : ztd v = true:=by
 cases d <;> first
  | (unfold Rp at h; subst h; rfl)
  | cases f
theorem zann {H : Hp} {ds : List PyData} {vs : List V} (f : zft ds = true) (h : Rps H ds vs) : vs.all ztd = true:=by
 replace h:=zes.mp h
 induction h with
 | nil=>rfl
 | cons h _ ih =>
  unfold zft at f
  rw [List.all_cons, Bool.and_eq_true] at f
  rw [List.all_cons, zalx f.1 h, ih f.2]; rfl
theorem zano {H : Hp} {d e : PyData} {v u : V} (f : zht d = true) (g : zht e = true) (h : Rp H d v) (k : Rp H e u) : eqV v u = PyData.eqv d e:=by
 cases d <;> cases e <;> first
  | (unfold Rp at h k; subst h; subst k; rfl)
  | exact absurd (show false = true from f) Bool.false_ne_true
  | exact absurd (show false = true from g) Bool.false_ne_true
theorem zanp {H : Hp} {d : PyData} {v : V} (f : zht d = true) (h : Rp H d v) {ds : List PyData} {vs : List V} (g : zft ds = true) (r : Rps H ds vs) : inV v vs = ds.any fun e=>PyData.eqv e d:=by
 replace r:=zes.mp r
 unfold inV
 induction r with
 | nil=>rfl
 | cons r _ ih =>
  unfold zft at g
  rw [List.all_cons, Bool.and_eq_true] at g
  rw [List.any_cons, List.any_cons, zano g.1 f r h, ih g.2]
noncomputable def zhv : PyData → Option (List PyData)
 | .list ds=>some ds
 | .tuple ds=>some ds
 | _=>none
noncomputable def inD (neg : Bool) : OF:=fun d c=>match zhv c with
 | some ds=>if zht d = true ∧ zft ds = true then some (.bool (if neg then !(ds.any fun e=>PyData.eqv e d) else ds.any fun e=>PyData.eqv e d), false) else none
 | none=>none
theorem zacg {K : PySem.W.Frag} {H : Hp} {c : PyData} {v : V} {ds : List PyData} (h : Rp H c v) (e : zhv c = some ds) : ∃ p xs, v = .ref p ∧ (SqL K H p xs ∨ SqT K H p xs) ∧ Rps H ds xs:=by
 cases c <;> first
  | cases e
  | skip
 ·obtain ⟨a, xs, e, h1, h2⟩:=zgr h; exact ⟨a, xs, e, .inl (SqL.of h1), h2⟩
 ·obtain ⟨a, xs, e, h1, h2⟩:=zff h; exact ⟨a, xs, e, .inr (SqT.of h1), h2⟩
theorem zvf {K : PySem.W.Frag} {neg : Bool} : SO (rIn K neg) (inD neg):=by
 intro A H x y dx dy hA rx ry d fr e Q q
 unfold inD at e
 split at e
 ·rename_i ds hi
  split at e
  ·rename_i h
   cases e
   have rx:=Rp.same (Offs.same A H) _ rx
   obtain ⟨p, xs, rfl, hq, r⟩:=zacg (K:=K) (Rp.same (Offs.same A H) _ ry) hi
   refine ⟨p, xs, rfl, hq, zalx h.1 rx, zann h.2 r, ?_⟩
   rw [zanp h.1 rx h.2 r]
   refine q _ H (Same.refl _) ?_ (fun z=>by cases z)
   cases neg <;> exact zbl
  ·cases e
 ·cases e
noncomputable def ixD : OF
 | .str z, .int i=>if z.length ≤ 100000 then (atI z.cps.toList i).map fun c=>(.str ⟨#[c]⟩, false) else none
 | .list ds, .int i=>(atI ds i).map fun d=>(d, false)
 | .tuple ds, .int i=>(atI ds i).map fun d=>(d, false)
 | _, _=>none
theorem Rps.atI {H : Hp} {ds : List PyData} {vs : List V} (h : Rps H ds vs) {i : Int} {d : PyData} (e : atI ds i = some d) : ∃ v, L2.atI vs i = some v ∧ Rp H d v:=by
 unfold L2.atI at e ⊢
 rw [← h.length]
 cases g : ixN ds.length i with
 | none=>rw [g] at e; cases e
 | some j =>
  rw [g] at e
  exact h.get2 e
theorem zanq {K : PySem.W.Frag} : SO (rIxU K) ixD:=by
 intro A H x y dx dy hA rx ry d fr e Q q
 unfold ixD at e
 split at e
 ·split at e
  ·rename_i z i hl
   obtain ⟨c, hc, e⟩:=Option.map_eq_some_iff.mp e
   cases e
   cases zpl rx; cases zgb ry
   exact ⟨zjn hl, c, hc, q _ H (Same.refl _) zcl (fun z=>by cases z)⟩
  ·cases e
 ·obtain ⟨c, hc, e⟩:=Option.map_eq_some_iff.mp e
  cases e
  obtain ⟨p, xs, rfl, hp, r⟩:=zgr rx
  cases zgb ry
  obtain ⟨v, hv, rv⟩:=r.atI hc
  exact ⟨xs, v, .inl (SqL.of (zeq hp)), hv, q _ H (Same.refl _) rv (fun z=>by cases z)⟩
 ·obtain ⟨c, hc, e⟩:=Option.map_eq_some_iff.mp e
  cases e
  obtain ⟨p, xs, rfl, hp, r⟩:=zff rx
  cases zgb ry
  obtain ⟨v, hv, rv⟩:=r.atI hc
  exact ⟨xs, v, .inr (SqT.of (zeq hp)), hv, q _ H (Same.refl _) rv (fun z=>by cases z)⟩
 ·cases e
end L2
namespace L2
open PySem PySem.Spec PyProof.Rows
noncomputable def zmd : List (PyData × PyData) → Key → Option PyData
 | [], _=>none
 | (k, d) :: r, j=>if keyD k = some j then some d else zmd r j
noncomputable def zaap (kvs : List (PyData × PyData)) (j : Key) : Bool:=(zmd kvs j).isSome
noncomputable def zqf (kvs : List (PyData × PyData)) (k : PyData) (d : PyData) : List (PyData × PyData) :=
 if (kvs.any fun kv=>decide (keyD kv.1 = keyD k)) = true then kvs.map (fun kv=>if keyD kv.1 = keyD k then (kv.1, d) else kv) else kvs ++ [(k, d)]
noncomputable def zjo (kvs more : List (PyData × PyData)) : List (PyData × PyData):=more.foldl (fun acc kv=>zqf acc kv.1 kv.2) kvs
theorem zkb {H : Hp} {k d : PyData} {r : List (PyData × PyData)} {k' : Key} {v : V} {vs : List (Key × V)} (hk : keyD k = some k') (h : Rp H d v) (q : Rpd H r vs) : Rpd H ((k, d) :: r) ((k', v) :: vs):=by
 show Rpd H ((k, d) :: r) _
 unfold Rpd; exact ⟨k', v, vs, rfl, hk, h, q⟩
theorem zik {H : Hp} {k d : PyData} {r : List (PyData × PyData)} {ps : List (Key × V)} (h : Rpd H ((k, d) :: r) ps) : ∃ k' v vs, ps = (k', v) :: vs ∧ keyD k = some k' ∧ Rp H d v ∧ Rpd H r vs:=by
 unfold Rpd at h; exact h
theorem Rpd.length {H : Hp} : ∀ {kvs : List (PyData × PyData)} {ps : List (Key × V)}, Rpd H kvs ps → kvs.length = ps.length
 | [], ps, h=>by unfold Rpd at h; subst h; rfl
 | (k, d) :: r, ps, h=>by
  obtain ⟨k', v, vs, rfl, _, _, h3⟩:=zik h
  rw [List.length_cons, List.length_cons, h3.length]
theorem Rpd.get {H : Hp} {j : Key} : ∀ {kvs : List (PyData × PyData)} {ps : List (Key × V)}, Rpd H kvs ps → match zmd kvs j with
  | some d=>∃ v, valV ps j = some v ∧ Rp H d v
  | none=>valV ps j = none
 | [], ps, h=>by unfold Rpd at h; subst h; rfl
 | (k, d) :: r, ps, h=>by
  obtain ⟨k', v, vs, rfl, hk, h2, h3⟩:=zik h
  have ih:=Rpd.get (j:=j) h3
  unfold zmd
  by_cases e : k' = j
  ·rw [if_pos (by rw [hk, e])]
   exact ⟨v, zqp e, h2⟩
  ·rw [if_neg (fun z=>e (by rw [hk] at z; exact Option.some.inj z)), zqq e]
   exact ih
theorem Rpd.any {H : Hp} {j : Key} : ∀ {kvs : List (PyData × PyData)} {ps : List (Key × V)}, Rpd H kvs ps → (kvs.any fun kv=>decide (keyD kv.1 = some j)) = ps.any fun kv=>decide (kv.1 = j)
 | [], ps, h=>by unfold Rpd at h; subst h; rfl
 | (k, d) :: r, ps, h=>by
  obtain ⟨k', v, vs, rfl, hk, h2, h3⟩:=zik h
  rw [List.any_cons, List.any_cons, h3.any, hk]
  congr 1
  simp
theorem Rpd.map {H : Hp} {j : Key} {d' : PyData} {v' : V} (h' : Rp H d' v') : ∀ {kvs : List (PyData × PyData)} {ps : List (Key × V)}, Rpd H kvs ps → Rpd H (kvs.map fun kv=>if keyD kv.1 = some j then (kv.1, d') else kv) (ps.map fun kv=>if kv.1 = j then (kv.1, v') else kv)
 | [], ps, h=>by unfold Rpd at h; subst h; exact zku
 | (k, d) :: r, ps, h=>by
  obtain ⟨k', v, vs, rfl, hk, h2, h3⟩:=zik h
  rw [List.map_cons, List.map_cons]
  by_cases e : k' = j
  ·rw [if_pos (show keyD (k, d).1 = some j by rw [hk, e]), if_pos (show ((k', v) : Key × V).1 = j from e)]
   exact zkb hk h' (Rpd.map h' h3)
  ·rw [if_neg (show ¬ keyD (k, d).1 = some j from fun z=>e (by rw [hk] at z; exact Option.some.inj z)), if_neg (show ¬ ((k', v) : Key × V).1 = j from e)]
   exact zkb hk h2 (Rpd.map h' h3)
theorem Rpd.snoc {H : Hp} {k d : PyData} {k' : Key} {v : V} (hk : keyD k = some k') (h' : Rp H d v) : ∀ {kvs : List (PyData × PyData)} {ps : List (Key × V)}, Rpd H kvs ps → Rpd H (kvs ++ [(k, d)]) (ps ++ [(k', v)])
 | [], ps, h=>by unfold Rpd at h; subst h; exact zkb hk h' zku
 | (k0, d0) :: r, ps, h=>by
  obtain ⟨k1, v1, vs, rfl, hk1, h2, h3⟩:=zik h
  exact zkb hk1 h2 (Rpd.snoc hk h' h3)
theorem Rpd.put {H : Hp} {k d : PyData} {j : Key} {v : V} {kvs : List (PyData × PyData)} {ps : List (Key × V)} (h : Rpd H kvs ps) (hk : keyD k = some j) (h' : Rp H d v) : Rpd H (zqf kvs k d) (putK ps j v):=by
 unfold zqf putK
 rw [hk, h.any]
 split
 ·exact h.map h'
 ·exact h.snoc hk h'
theorem Rpd.merge {H : Hp} : ∀ {more : List (PyData × PyData)} {ps : List (Key × V)} {kvs : List (PyData × PyData)} {qs : List (Key × V)}, Rpd H kvs qs → Rpd H more ps → Rpd H (zjo kvs more) (zje qs ps)
 | [], ps, kvs, qs, h, g=>by unfold Rpd at g; subst g; exact h
 | (k, d) :: r, ps, kvs, qs, h, g=>by
  obtain ⟨k', v, vs, rfl, hk, h2, h3⟩:=zik g
  show Rpd H (zjo (zqf kvs k d) r) (zje (putK qs k' v) vs)
  exact Rpd.merge (h.put hk h2) h3
theorem zaeg {H : Hp} {d : PyData} {v : V} {k : Key} (h : Rp H d v) (e : keyD d = some k) : v = kV k:=by
 cases d <;> first
  | (cases e; unfold Rp at h; exact h)
  | cases e
noncomputable def zagm (a b : EF) : EF:=fun env=>(a env).bind fun x=>(b env).bind fun y=>match x.d with
 | .dict kvs=>(keyD y.d).bind fun k=>(zmd kvs k).bind fun d=>some ⟨d, false, bsOf d x.bs⟩
 | _=>none
theorem zanr {td ty : TE} {fa fb : EF} (ha : SE td fa) (hb : SE ty fb) : SE (tDGet td ty) (zagm fa fb):=by
 intro fx H0 env σ H h rr hr Q q
 unfold zagm at hr
 obtain ⟨⟨dx, frx, bx⟩, ex, hr⟩:=Option.bind_eq_some_iff.mp hr
 obtain ⟨⟨dy, fry, by'⟩, ey, hr⟩:=Option.bind_eq_some_iff.mp hr
 cases dx with
 | dict kvs =>
  obtain ⟨k, ek, hr⟩:=Option.bind_eq_some_iff.mp hr
  obtain ⟨d, ed, hr⟩:=Option.bind_eq_some_iff.mp hr
  cases hr
  refine ha fx H0 env σ H h _ ex _ fun v H1 s1 v1=>hb fx H0 env σ H1 (h.up s1) _ ey _ fun u H2 s2 v2=>?_
  obtain ⟨a, ps, rfl, hp, r⟩:=zor (v1.later (Same.refl _) s2 fun _ z=>z).rp
  have g:=r.get (j:=k)
  rw [ed] at g
  obtain ⟨w, e1, e2⟩:=g
  rw [zaeg v2.rp ek]
  have dg:=DGet.k (k:=k) (zeq hp)
  rw [e1] at dg
  exact ⟨a, w, rfl, dg, q w H2 (s1.trans s2) ⟨zvc e2, fun z=>by cases z⟩⟩
 | _=>cases hr
noncomputable def eDIn (neg : Bool) (a b : EF) : EF:=fun env=>(a env).bind fun x=>(b env).bind fun y=>match y.d with
 | .dict kvs=>(keyD x.d).bind fun k=>some ⟨.bool (if neg then !zaap kvs k else zaap kvs k), false, []⟩
 | _=>none
theorem zans {H : Hp} {kvs : List (PyData × PyData)} {ps : List (Key × V)} (r : Rpd H kvs ps) (k : Key) : (valV ps k).isSome = zaap kvs k:=by
 have g:=r.get (j:=k)
 unfold zaap
 cases e : zmd kvs k with
 | none=>rw [e] at g; rw [show valV ps k = none from g]; rfl
 | some d=>rw [e] at g; obtain ⟨w, e1, _⟩:=g; rw [e1]; rfl
theorem zaly {td ty : TE} {fa fb : EF} (ha : SE ty fa) (hb : SE td fb) : SE (tDIn ty td) (eDIn false fa fb):=by
 intro fx H0 env σ H h rr hr Q q
 unfold eDIn at hr
 obtain ⟨⟨dx, frx, bx⟩, ex, hr⟩:=Option.bind_eq_some_iff.mp hr
 obtain ⟨⟨dy, fry, by'⟩, ey, hr⟩:=Option.bind_eq_some_iff.mp hr
 cases dy with
 | dict kvs =>
  obtain ⟨k, ek, hr⟩:=Option.bind_eq_some_iff.mp hr
  cases hr
  refine ha fx H0 env σ H h _ ex _ fun v H1 s1 v1=>hb fx H0 env σ H1 (h.up s1) _ ey _ fun u H2 s2 v2=>?_
  obtain ⟨a, ps, rfl, hp, r⟩:=zor v2.rp
  rw [zaeg v1.rp ek]
  exact ⟨a, _, rfl, DGet.k (zeq hp), by rw [zans r k]; exact q _ H2 (s1.trans s2) ⟨zbl, fun z=>by cases z⟩⟩
 | _=>cases hr
noncomputable def zbh (f : EF) : TF:=fun env=>(f env).bind fun r=>match r.d with | .bool b=>some b | _=>none
theorem st_b {te : TE} {f : EF} (h : SE te f) : ST (tB te) (zbh f):=by
 intro fx H0 env σ H hE b hb Q q
 unfold zbh at hb
 obtain ⟨⟨d, fr, bs⟩, e, hb⟩:=Option.bind_eq_some_iff.mp hb
 cases d with
 | bool c =>
  have hb : some c = some b:=hb
  cases hb
  exact h fx H0 env σ H hE _ e _ fun v H' s v1=>⟨_, zos v1.rp, q H' s⟩
 | _=>cases hb
theorem st_t {te : TE} {f : EF} (h : SE te f) : ST (tTest te) (zbh f):=st_b h
noncomputable def truD : PyData → Option Bool
 | .none=>some false
 | .bool b=>some b
 | .int i=>some (i != 0)
 | .str x=>if x.length ≤ 100000 then some ((x.length : Int) != 0) else none
 | .list ds=>some (!ds.isEmpty)
 | .tuple ds=>some (!ds.isEmpty)
 | .dict ds=>some (!ds.isEmpty)
noncomputable def tTru (f : EF) : TF:=fun env=>(f env).bind fun r=>truD r.d
theorem zmp {α β : Type} {xs : List α} {ys : List β} (h : xs.length = ys.length) : xs.isEmpty = ys.isEmpty:=by
 cases xs <;> cases ys <;> simp at h <;> rfl
theorem zarl {K : PySem.W.Frag} {H : Hp} {d : PyData} {v : V} {b : Bool} (h : Rp H d v) (e : truD d = some b) : TruV K v H b:=by
 cases d with
 | none=>cases e; cases zagi h; rfl
 | bool c=>cases e; cases zos h; rfl
 | int i=>cases e; cases zgb h; rfl
 | str x =>
  have e : (if x.length ≤ 100000 then some ((x.length : Int) != 0) else none) = some b:=e
  split at e
  ·rename_i hl; cases e; cases zpl h; exact ⟨zjn hl, rfl⟩
  ·cases e
 | list ds=>cases e; obtain ⟨a, xs, rfl, h1, h2⟩:=zgr h; exact .inl ⟨xs, SqL.of h1, by rw [zmp h2.length]⟩
 | tuple ds=>cases e; obtain ⟨a, xs, rfl, h1, h2⟩:=zff h; exact .inr (.inl ⟨xs, SqT.of h1, by rw [zmp h2.length]⟩)
 | dict ds=>cases e; obtain ⟨a, xs, rfl, h1, h2⟩:=zor h; exact .inr (.inr ⟨xs, h1, by rw [zmp h2.length]⟩)
theorem zhz {K : PySem.W.Frag} {te : TE} {f : EF} (h : SE te f) : ST (fun σ H Q=>te σ H fun x H1=>∃ k, TruV K x H1 k ∧ Q k H1) (tTru f):=by
 intro fx H0 env σ H hE b hb Q q
 unfold tTru at hb
 obtain ⟨r, e, hb⟩:=Option.bind_eq_some_iff.mp hb
 exact h fx H0 env σ H hE _ e _ fun v H' s v1=>⟨b, zarl (Rp.same (Offs.same _ _) _ v1.rp) hb, q H' s⟩
noncomputable def zkv (f g : TF) : TF:=fun env=>(f env).bind fun b=>if b = true then g env else some false
noncomputable def tOrF (f g : TF) : TF:=fun env=>(f env).bind fun b=>if b = true then some true else g env
noncomputable def zig (f : TF) : TF:=fun env=>(f env).map fun b=>!b
theorem zach {t u : TT} {f g : TF} (h : ST t f) (k : ST u g) : ST (tAnd t u) (zkv f g):=by
 intro fx H0 env σ H hE b hb Q q
 unfold zkv at hb
 obtain ⟨c, e, hb⟩:=Option.bind_eq_some_iff.mp hb
 refine h fx H0 env σ H hE c e _ fun H' s=>?_
 cases c with
 | true=>exact iteT (k fx H0 env σ H' (hE.up s) b hb _ fun H'' s'=>q H'' (s.trans s'))
 | false=>cases hb; exact iteF (q H' s)
theorem zant {t u : TT} {f g : TF} (h : ST t f) (k : ST u g) : ST (tOr t u) (tOrF f g):=by
 intro fx H0 env σ H hE b hb Q q
 unfold tOrF at hb
 obtain ⟨c, e, hb⟩:=Option.bind_eq_some_iff.mp hb
 refine h fx H0 env σ H hE c e _ fun H' s=>?_
 cases c with
 | false=>exact iteF (k fx H0 env σ H' (hE.up s) b hb _ fun H'' s'=>q H'' (s.trans s'))
 | true=>cases hb; exact iteT (q H' s)
theorem znk {t : TT} {f : TF} (h : ST t f) : ST (tNot t) (zig f):=by
 intro fx H0 env σ H hE b hb Q q
 unfold zig at hb
 obtain ⟨c, e, rfl⟩:=Option.map_eq_some_iff.mp hb
 exact h fx H0 env σ H hE c e _ fun H' s=>q H' s
noncomputable def asB : PyData → Option Bool | .bool b=>some b | _=>none
noncomputable def eAnd (a b : EF) : EF:=fun env=>(a env).bind fun x=>(asB x.d).bind fun c=>if c = true then b env else some ⟨.bool false, false, []⟩
theorem as_b {H : Hp} {d : PyData} {v : V} {c : Bool} (h : Rp H d v) (e : asB d = some c) : v = .bl c:=by
 cases d <;> first
  | (cases e; exact zos h)
  | cases e
theorem zagn {ta tb : TE} {fa fb : EF} (ha : SE ta fa) (hb : SE tb fb) : SE (tAndV ta tb) (eAnd fa fb):=by
 intro fx H0 env σ H h rr hr Q q
 unfold eAnd at hr
 obtain ⟨x, ex, hr⟩:=Option.bind_eq_some_iff.mp hr
 obtain ⟨c, ec, hr⟩:=Option.bind_eq_some_iff.mp hr
 refine ha fx H0 env σ H h _ ex _ fun v H1 s1 v1=>⟨c, as_b v1.rp ec, ?_⟩
 cases c with
 | true=>exact iteT (hb fx H0 env σ H1 (h.up s1) _ hr _ fun u H2 s2 v2=>q u H2 (s1.trans s2) (v2.later s1 (Same.refl _) fun _ z=>z))
 | false=>cases hr; exact iteF (q _ H1 s1 ⟨zbl, fun z=>by cases z⟩)
end L2
namespace L2
open PySem PySem.Spec PyProof.Rows
noncomputable def aNil : AF:=fun _=>some []
noncomputable def zab (a : EF) (r : AF) : AF:=fun env=>(a env).bind fun x=>(r env).map fun xs=>x :: xs
theorem zal : SA tNil aNil:=by
 intro fx H0 env σ H h rs hr Q q
 cases hr
 exact q [] H (Same.refl _) .nil
theorem zae {te : TE} {ta : TA} {f : EF} {g : AF} (h1 : SE te f) (h2 : SA ta g) : SA (tCons te ta) (zab f g):=by
 intro fx H0 env σ H h rs hr Q q
 unfold zab at hr
 obtain ⟨x, ex, hr⟩:=Option.bind_eq_some_iff.mp hr
 obtain ⟨xs, exs, rfl⟩:=Option.map_eq_some_iff.mp hr
 exact h1 fx H0 env σ H h x ex _ fun v H1 s1 v1=>h2 fx H0 env σ H1 (h.up s1) xs exs _ fun vs H2 s2 vs2=>q (v :: vs) H2 (s1.trans s2)
  (.cons (v1.later (Same.refl _) s2 fun _ z=>z) (Paired.mapP vs2 fun _ _ z=>z.later s1 (Same.refl _) fun _ y=>y))
noncomputable def zmq (rs : List Val) : List PyData:=rs.map (·.d)
noncomputable def bss (rs : List Val) : List Nat:=rs.flatMap (·.bs)
theorem znl {fx : Addr → Prop} {env : DEnv} {σ : St} {H H' : Hp} : ∀ {rs : List Val} {vs : List V} {cs : List Nat}, (∀ i ∈ bss rs, i ∈ cs) → Paired (fun r v=>ValOk (lim fx env σ r.bs) H H' r v) rs vs → Rps (Offs (lim fx env σ cs) H') (zmq rs) vs
 | _, _, _, _, .nil=>zfo
 | r :: rs, v :: vs, cs, hc, .cons h t=>zfg (Rp.same (Offs.sub (zrf fun i hi=>hc i (List.mem_flatMap.mpr ⟨r, List.mem_cons_self, hi⟩))) _ h.rp)
   (znl (fun i hi=>hc i (by obtain ⟨x, h1, h2⟩:=List.mem_flatMap.mp hi; exact List.mem_flatMap.mpr ⟨x, List.mem_cons_of_mem _ h1, h2⟩)) t)
noncomputable def eTup (f : AF) : EF:=fun env=>(f env).bind fun rs=>if rs.length ≤ 100000 then some ⟨.tuple (zmq rs), false, bss rs⟩ else none
noncomputable def eLst (f : AF) : EF:=fun env=>(f env).bind fun rs=>if rs.length ≤ 100000 then some ⟨.list (zmq rs), true, bss rs⟩ else none
theorem zrk (rs : List Val) : (zmq rs).length = rs.length:=by unfold zmq; rw [List.length_map]
theorem zia {ta : TA} {f : AF} (ha : SA ta f) : SE (tTup ta) (eTup f):=by
 intro fx H0 env σ H h rr hr Q q
 unfold eTup at hr
 obtain ⟨rs, er, hr⟩:=Option.bind_eq_some_iff.mp hr
 split at hr
 ·rename_i hl
  cases hr
  refine ha fx H0 env σ H h rs er _ fun vs H1 s1 v1=>?_
  have r:=znl (fun i hi=>hi) v1
  have hA:=(h.up s1).lims (bss rs)
  refine ⟨zjn (by rw [← r.length, zrk]; exact hl), fun p hp=>q _ _ (s1.trans (Same.new hp)) ⟨zri hp (zgs hA hp) r, fun z=>by cases z⟩⟩
 ·cases hr
theorem zgc {ta : TA} {f : AF} (ha : SA ta f) : SE (tLst ta) (eLst f):=by
 intro fx H0 env σ H h rr hr Q q
 unfold eLst at hr
 obtain ⟨rs, er, hr⟩:=Option.bind_eq_some_iff.mp hr
 split at hr
 ·rename_i hl
  cases hr
  refine ha fx H0 env σ H h rs er _ fun vs H1 s1 v1=>?_
  have r:=znl (fun i hi=>hi) v1
  have hA:=(h.up s1).lims (bss rs)
  refine ⟨zjn (by rw [← r.length, zrk]; exact hl), fun p hp=>q _ _ (s1.trans (Same.new hp)) ⟨zacf hp (zgs hA hp) r, fun _=>⟨p, rfl, s1.free hp, zvd hp r⟩⟩⟩
 ·cases hr
noncomputable def zaeh : EF:=fun _=>some ⟨.dict [], true, []⟩
theorem zrl : SE tDNewK zaeh:=by
 intro fx H0 env σ H h rr hr Q q
 cases hr
 intro p hp
 have hA:=h.lims []
 exact q _ _ (Same.new hp) ⟨zlt (by rw [Offs.get (zgs hA hp)]; exact zbn) zku, fun _=>⟨p, rfl, hp, ⟨[], zbn, zku⟩⟩⟩
noncomputable def eD1 (k v : EF) : EF:=fun env=>(k env).bind fun x=>(v env).bind fun y=>(keyD x.d).bind fun _=>some ⟨.dict [(x.d, y.d)], true, y.bs⟩
theorem zarm {tk tv : TE} {f g : EF} (h1 : SE tk f) (h2 : SE tv g) : SE (tDisp [(tk, tv)]) (eD1 f g):=by
 intro fx H0 env σ H h rr hr Q q
 unfold eD1 at hr
 obtain ⟨x, ex, hr⟩:=Option.bind_eq_some_iff.mp hr
 obtain ⟨y, ey, hr⟩:=Option.bind_eq_some_iff.mp hr
 obtain ⟨k, ek, hr⟩:=Option.bind_eq_some_iff.mp hr
 cases hr
 intro p hp
 have hp0 : Same H (upd H p (.dK [])):=Same.new hp
 have npf : ¬ fx p:=zgs h.fxs hp
 have hE : EnvOk (fun b=>fx b ∨ b = p) H0 env σ (upd H p (.dK [])):=h.grow hp0 (fun b o e n z=>z.elim n fun y=>by rw [y, hp] at e; cases e) fun b z=>by
  rcases z with z | z
  ·obtain ⟨o, e⟩:=h.fxs b z; exact ⟨o, hp0 b o e⟩
  ·rw [z]; exact ⟨_, zbn⟩
 refine h1 _ H0 env σ _ hE x ex _ fun v H1 s1 v1=>h2 _ H0 env σ H1 (hE.up s1) y ey _ fun u H2 s2 v2=>?_
 have ep : H2 p = some (.dK []):=(s1.trans s2) _ _ zbn
 refine ⟨ep, [(k, u)], by rw [zaeg v1.rp ek]; rfl, (by show 1 ≤ 15; decide), ?_⟩
 have em : zje [] [(k, u)] = [(k, u)]:=rfl
 rw [em]
 have rp2 : Rp (Offs (fun b=>lim fx env σ y.bs b ∨ b = p) (upd H2 p (.dK [(k, u)]))) y.d u:=by
  rw [Offs.upd (.inr rfl)]
  exact Rp.same (Offs.sub fun b z=>by
   rcases z with (z | z) | z
   ·exact .inl (.inl z)
   ·exact .inr z
   ·exact .inl (.inr z)) _ v2.rp
 have hs : Same H (upd H2 p (.dK [(k, u)])):=fun b o e=>by
  rw [zcj (zce e hp)]
  exact s2 _ _ (s1 _ _ (hp0 _ _ e))
 have hnp : ¬ lim fx env σ y.bs p:=zgs (h.lims y.bs) hp
 refine q _ _ hs ⟨zlt (by rw [Offs.get hnp]; exact zbn) (zkb ek (Rp.same (Offs.sub fun b z=>.inl z) _ rp2) zku), fun _=>⟨p, rfl, hp, ⟨_, zbn, zkb ek rp2 zku⟩⟩⟩
noncomputable abbrev GF:=List PyData → Option (PyData × Bool)
noncomputable def SC (r : List V → Hp → VK → Prop) (g : GF) : Prop:=∀ (A : Addr → Prop) (H : Hp) (vs : List V) (ds : List PyData), (∀ b, A b → ∃ o, H b = some o) → Rps (Offs A H) ds vs → ∀ d fr, g ds = some (d, fr) → ∀ Q : VK,
 (∀ v H', Same H H' → Rp (Offs A H') d v → (fr = true → ∃ a, v = .ref a ∧ H a = none ∧ zjs (Offs (fun b=>A b ∨ b = a) H') H' a d) → Q v H') → r vs H Q
noncomputable def eCB (g : GF) (f : AF) : EF:=fun env=>(f env).bind fun rs=>(g (zmq rs)).bind fun z=>some ⟨z.1, z.2, bsOf z.1 (bss rs)⟩
theorem zfq {r : List V → Hp → VK → Prop} {g : GF} {ta : TA} {f : AF} (hc : SC r g) (ha : SA ta f) : SE (tCB r ta) (eCB g f):=by
 intro fx H0 env σ H h rr hr Q q
 unfold eCB at hr
 obtain ⟨rs, er, hr⟩:=Option.bind_eq_some_iff.mp hr
 obtain ⟨⟨d, fr⟩, ez, hr⟩:=Option.bind_eq_some_iff.mp hr
 cases hr
 refine ha fx H0 env σ H h rs er _ fun vs H1 s1 v1=>hc (lim fx env σ (bss rs)) H1 vs (zmq rs) ((h.up s1).lims _) (znl (fun i hi=>hi) v1) d fr ez _ fun w H3 s3 rp fr3=>q w H3 (s1.trans s3) ⟨zvc rp, fun e=>?_⟩
 obtain ⟨a, g1, g2, g3⟩:=fr3 e
 refine ⟨a, g1, s1.free g2, ?_⟩
 have nf : zht d = false:=by cases d <;> first | rfl | exact g3.elim
 show zjs (Offs (fun b=>lim fx env σ (bsOf d (bss rs)) b ∨ b = a) H3) H3 a d
 rw [show bsOf d (bss rs) = bss rs by unfold bsOf; rw [if_neg (by rw [nf]; decide)]]
 exact g3
theorem rps1 {H : Hp} {d : PyData} {vs : List V} (h : Rps H [d] vs) : ∃ v, vs = [v] ∧ Rp H d v:=by
 unfold Rps at h
 obtain ⟨v, ws, rfl, h1, h2⟩:=h
 unfold Rps at h2
 subst h2
 exact ⟨v, rfl, h1⟩
theorem rps2 {H : Hp} {d e : PyData} {vs : List V} (h : Rps H [d, e] vs) : ∃ v u, vs = [v, u] ∧ Rp H d v ∧ Rp H e u:=by
 unfold Rps at h
 obtain ⟨v, ws, rfl, h1, h2⟩:=h
 obtain ⟨u, rfl, h3⟩:=rps1 h2
 exact ⟨v, u, rfl, h1, h3⟩
noncomputable def lenD : GF
 | [.str x]=>if x.length ≤ 100000 then some (.int x.length, false) else none
 | [.list ds]=>some (.int ds.length, false)
 | [.tuple ds]=>some (.int ds.length, false)
 | _=>none
theorem zjf {K : PySem.W.Frag} : SC (fun xs H Q=>∃ x n, xs = [x] ∧ LenV K x H n ∧ Q (.int n) H) lenD:=by
 intro A H vs ds hA rv d fr e Q q
 unfold lenD at e
 split at e
 ·split at e
  ·rename_i hl
   cases e
   obtain ⟨v, rfl, r⟩:=rps1 rv
   cases zpl r
   exact ⟨_, _, rfl, ⟨zjn hl, rfl⟩, q _ H (Same.refl _) zag (fun z=>by cases z)⟩
  ·cases e
 ·cases e
  obtain ⟨v, rfl, r⟩:=rps1 rv
  obtain ⟨a, xs, rfl, h1, h2⟩:=zgr r
  exact ⟨_, _, rfl, .inl ⟨xs, SqL.of (zeq h1), rfl⟩, by rw [← h2.length]; exact q _ H (Same.refl _) zag (fun z=>by cases z)⟩
 ·cases e
  obtain ⟨v, rfl, r⟩:=rps1 rv
  obtain ⟨a, xs, rfl, h1, h2⟩:=zff r
  exact ⟨_, _, rfl, .inr ⟨xs, SqT.of (zeq h1), rfl⟩, by rw [← h2.length]; exact q _ H (Same.refl _) zag (fun z=>by cases z)⟩
 ·cases e
noncomputable def minD : GF
 | [.int i, .int j]=>some (.int (if j < i then j else i), false)
 | _=>none
theorem zaqg : SC (fun xs H Q=>∃ i j, xs = [.int i, .int j] ∧ Q (.int (if j < i then j else i)) H) minD:=by
 intro A H vs ds hA rv d fr e Q q
 unfold minD at e
 split at e
 ·cases e
  obtain ⟨v, u, rfl, r1, r2⟩:=rps2 rv
  cases zgb r1; cases zgb r2
  exact ⟨_, _, rfl, q _ H (Same.refl _) zag (fun z=>by cases z)⟩
 ·cases e
noncomputable def zme : GF
 | [c]=>(zhv c).map fun ds=>(.list ds, true)
 | _=>none
theorem zot {K : PySem.W.Frag} : SC (fun xs H Q=>∃ p ys, xs = [.ref p] ∧ (SqL K H p ys ∨ SqT K H p ys) ∧ ∀ l, H l = none → Q (.ref l) (upd H l (.lst ys))) zme:=by
 intro A H vs ds hA rv d fr e Q q
 unfold zme at e
 split at e
 ·obtain ⟨es, he, e⟩:=Option.map_eq_some_iff.mp e
  cases e
  obtain ⟨v, rfl, r1⟩:=rps1 rv
  obtain ⟨p, xs, rfl, hq, r⟩:=zacg (K:=K) r1 he
  refine ⟨p, xs, rfl, hq.imp (Offs.same A H).seq (SqT.same (Offs.same A H)), fun l hl=>?_⟩
  exact q _ _ (Same.new hl) (zacf hl (zgs hA hl) r) fun _=>⟨l, rfl, hl, zvd hl r⟩
 ·cases e
noncomputable def zib : GF
 | [c]=>(zhv c).map fun ds=>(.tuple ds, false)
 | _=>none
theorem znm {K : PySem.W.Frag} : SC (fun xs H Q=>∃ p ys, xs = [.ref p] ∧ ((SqL K H p ys ∧ ∀ l, H l = none → Q (.ref l) (upd H l (.tup ys))) ∨ (SqT K H p ys ∧ Q (.ref p) H))) zib:=by
 intro A H vs ds hA rv d fr e Q q
 unfold zib at e
 split at e
 ·obtain ⟨es, he, e⟩:=Option.map_eq_some_iff.mp e
  cases e
  obtain ⟨v, rfl, r1⟩:=rps1 rv
  rename_i c
  cases c with
  | list ds =>
   cases he
   obtain ⟨p, xs, rfl, h1, r⟩:=zgr r1
   exact ⟨p, xs, rfl, .inl ⟨SqL.of (zeq h1), fun l hl=>q _ _ (Same.new hl) (zri hl (zgs hA hl) r) (fun z=>by cases z)⟩⟩
  | tuple ds =>
   cases he
   obtain ⟨p, xs, rfl, h1, r⟩:=zff r1
   exact ⟨p, xs, rfl, .inr ⟨SqT.of (zeq h1), q _ H (Same.refl _) r1 (fun z=>by cases z)⟩⟩
  | _=>cases he
 ·cases e
noncomputable def zrm : List PyData → Option (List Bool)
 | []=>some []
 | .bool b :: r=>(zrm r).map fun bs=>b :: bs
 | _=>none
theorem zxl {H : Hp} : ∀ {ds : List PyData} {vs : List V} {bs : List Bool}, Rps H ds vs → zrm ds = some bs → vs = bs.map V.bl
 | [], vs, bs, h, e=>by unfold Rps at h; cases e; exact h
 | d :: ds, vs, bs, h, e=>by
  unfold Rps at h
  obtain ⟨v, ws, rfl, h1, h2⟩:=h
  cases d with
  | bool b =>
   obtain ⟨cs, ec, rfl⟩:=Option.map_eq_some_iff.mp e
   rw [zos h1, zxl h2 ec]; rfl
  | _=>cases e
noncomputable def anyD (f : List Bool → Bool) : GF
 | [.list ds]=>(zrm ds).map fun bs=>(.bool (f bs), false)
 | _=>none
theorem zud {K : PySem.W.Frag} {f : List Bool → Bool} : SC (rAny K f) (anyD f):=by
 intro A H vs ds hA rv d fr e Q q
 unfold anyD at e
 split at e
 ·obtain ⟨bs, he, e⟩:=Option.map_eq_some_iff.mp e
  cases e
  obtain ⟨v, rfl, r1⟩:=rps1 rv
  obtain ⟨p, xs, rfl, h1, r⟩:=zgr r1
  cases zxl r he
  exact ⟨p, bs, rfl, SqL.of (zeq h1), q _ H (Same.refl _) zbl (fun z=>by cases z)⟩
 ·cases e
noncomputable def zxm : PyData → String
 | .none=>"NoneType" | .bool _=>"bool" | .int _=>"int" | .str _=>"str" | .list _=>"list" | .tuple _=>"tuple" | .dict _=>"dict"
theorem zarn {K : PySem.W.Frag} {H : Hp} {d : PyData} {v : V} (h : Rp H d v) : TyOf K H v (.type (zxm d)):=by
 cases d with
 | list ds=>obtain ⟨a, xs, rfl, h1, _⟩:=zgr h; exact .lst h1
 | tuple ds=>obtain ⟨a, xs, rfl, h1, _⟩:=zff h; exact .tup h1
 | dict ds=>obtain ⟨a, xs, rfl, h1, _⟩:=zor h; exact .dK h1
 | none=>cases zagi h; exact .non
 | bool b=>cases zos h; exact .bl _
 | int b=>cases zgb h; exact .int _
 | str b=>cases zpl h; exact .str _
noncomputable def isiB (n : String) (d : PyData) : Bool:=zxm d == n || (zxm d == "bool" && n == "int")
noncomputable def eIsi (n : String) (a : EF) : EF:=fun env=>(a env).map fun x=>⟨.bool (isiB n x.d), false, []⟩
theorem zalz {K : PySem.W.Frag} {n : String} {te : TE} {f : EF} (h1 : SE te f) (hk : ∀ d, PySem.W.kitOne K (.type (zxm d)) (.type n) = some (isiB n d)) :
  SE (tCB (fun xs H Q=>∃ x n t b, xs = [x, .ty n] ∧ TyOf K H x t ∧ PySem.W.kitOne K t (.type n) = some b ∧ Q (.bl b) H) (tCons te (tCons (tC (.ty n)) tNil))) (eIsi n f):=by
 intro fx H0 env σ H h rr hr Q q
 unfold eIsi at hr
 obtain ⟨x, ex, rfl⟩:=Option.map_eq_some_iff.mp hr
 refine h1 fx H0 env σ H h _ ex _ fun v H1 s1 v1=>?_
 exact ⟨v, n, _, _, rfl, zarn (Rp.same (Offs.same _ _) _ v1.rp), hk _, q _ H1 s1 ⟨zbl, fun z=>by cases z⟩⟩
theorem zxn {K : PySem.W.Frag} : ∀ d, PySem.W.kitOne K (.type (zxm d)) (.type "tuple") = some (isiB "tuple" d):=by intro d; cases d <;> rfl
noncomputable abbrev PF':=DEnv → Option (Option Int)
noncomputable def SPt (t : TO) (f : PF') : Prop:=∀ (fx : Addr → Prop) (H0 : Hp) (env : DEnv) (σ : St) (H : Hp), EnvOk fx H0 env σ H → ∀ r, f env = some r → ∀ Q : Option Int → Hp → Prop, (∀ H', Same H H' → Q r H') → t σ H Q
noncomputable def zeb : PF':=fun _=>some none
noncomputable def zbs (a : EF) : PF':=fun env=>(a env).bind fun x=>match x.d with | .int i=>some (some i) | _=>none
theorem zhx : SPt tNoPart zeb:=by
 intro fx H0 env σ H h r hr Q q
 cases hr
 exact q H (Same.refl _)
theorem zec {te : TE} {f : EF} (h1 : SE te f) : SPt (tPart te) (zbs f):=by
 intro fx H0 env σ H h r hr Q q
 unfold zbs at hr
 obtain ⟨⟨d, fr, bs⟩, ex, hr⟩:=Option.bind_eq_some_iff.mp hr
 cases d with
 | int i =>
  cases hr
  exact h1 fx H0 env σ H h _ ex _ fun v H1 s1 v1=>⟨i, zgb v1.rp, q H1 s1⟩
 | _=>cases hr
noncomputable def cutD (xs : List PyData) (lo hi : Option Int) : List PyData:=(xs.drop (HT.sIx xs.length 0 lo)).take (HT.sIx xs.length xs.length hi - HT.sIx xs.length 0 lo)
theorem Rps.drop {H : Hp} {ds : List PyData} {vs : List V} (h : Rps H ds vs) (n : Nat) : Rps H (ds.drop n) (vs.drop n):=by
 induction n generalizing ds vs with
 | zero=>exact h
 | succ n ih =>
  cases ds with
  | nil=>unfold Rps at h; subst h; exact zfo
  | cons d ds=>unfold Rps at h; obtain ⟨v, ws, rfl, h1, h2⟩:=h; exact ih h2
theorem Rps.take {H : Hp} {ds : List PyData} {vs : List V} (h : Rps H ds vs) (n : Nat) : Rps H (ds.take n) (vs.take n):=by
 induction n generalizing ds vs with
 | zero=>exact zfo
 | succ n ih =>
  cases ds with
  | nil=>unfold Rps at h; subst h; exact zfo
  | cons d ds=>unfold Rps at h; obtain ⟨v, ws, rfl, h1, h2⟩:=h; exact zfg h1 (ih h2)
theorem Rps.cut {H : Hp} {ds : List PyData} {vs : List V} (h : Rps H ds vs) (lo hi : Option Int) : Rps H (cutD ds lo hi) (cutV vs lo hi):=by
 unfold cutD cutV
 rw [← h.length]
 exact (h.drop _).take _
noncomputable def slD (d : PyData) (lo hi : Option Int) : Option (PyData × Bool):=match d with
 | .str z=>if z.length ≤ 100000 then some (.str (Txt.slice z lo hi), false) else none
 | .list ds=>some (.list (cutD ds lo hi), true)
 | _=>none
noncomputable def eSl (a : EF) (l h : PF') : EF:=fun env=>(a env).bind fun x=>(l env).bind fun lo=>(h env).bind fun hi=>(slD x.d lo hi).bind fun z=>some ⟨z.1, z.2, bsOf z.1 x.bs⟩
theorem zmf {K : PySem.W.Frag} {te : TE} {tl th : TO} {f : EF} {fl fh : PF'} (h1 : SE te f) (h2 : SPt tl fl) (h3 : SPt th fh) : SE (tSl (rSlU K) te tl th) (eSl f fl fh):=by
 intro fx H0 env σ H h rr hr Q q
 unfold eSl at hr
 obtain ⟨⟨d, frd, bs⟩, ex, hr⟩:=Option.bind_eq_some_iff.mp hr
 obtain ⟨lo, el, hr⟩:=Option.bind_eq_some_iff.mp hr
 obtain ⟨hi, eh, hr⟩:=Option.bind_eq_some_iff.mp hr
 obtain ⟨⟨d', fr'⟩, ez, hr⟩:=Option.bind_eq_some_iff.mp hr
 cases hr
 refine h1 fx H0 env σ H h _ ex _ fun v H1 s1 v1=>h2 fx H0 env σ H1 (h.up s1) _ el _ fun H2 s2=>h3 fx H0 env σ H2 (h.up (s1.trans s2)) _ eh _ fun H3 s3=>?_
 have v3:=(v1.later (Same.refl _) (s2.trans s3) fun _ z=>z).rp
 have t3:=(s1.trans s2).trans s3
 cases d with
 | str z =>
  have ez : (if z.length ≤ 100000 then some (PyData.str (Txt.slice z lo hi), false) else none) = some (d', fr'):=ez
  split at ez
  ·rename_i hl
   cases ez
   cases zpl v3
   exact ⟨zjn hl, q _ H3 t3 ⟨zcl, fun z=>by cases z⟩⟩
  ·cases ez
 | list ds =>
  cases ez
  obtain ⟨p, xs, rfl, hp, r⟩:=zgr v3
  refine ⟨p, xs, rfl, SqL.of (zeq hp), fun l hl=>q _ _ (t3.trans (Same.new hl)) ?_⟩
  have hA:=(h.up t3).lims bs
  exact ⟨zacf hl (zgs hA hl) (r.cut lo hi), fun _=>⟨l, rfl, t3.free hl, zvd hl (r.cut lo hi)⟩⟩
 | _=>cases ez
noncomputable def zago (fx : Addr → Prop) (H0 : Hp) (d : PyData) (fr : Bool) (v : V) (H : Hp) : Prop:=Rp (Offs fx H) d v ∧ (fr = true → ∃ a, v = .ref a ∧ H0 a = none ∧ zjs (Offs (fun b=>fx b ∨ b = a) H) H a d)
noncomputable def spD (n : Nat) (g : GF) : Sp:=fun vs H Q _=>∃ (fx : Addr → Prop) (ds : List PyData) (d : PyData) (fr : Bool), ds.length = n ∧ (∀ b, fx b → ∃ o, H b = some o) ∧ Rps (Offs fx H) ds vs ∧ g ds = some (d, fr) ∧ ∀ v H', Same H H' → zago fx H d fr v H' → Q v H'
noncomputable def zav (n : Nat) (g : GF) (f : AF) : EF:=fun env=>(f env).bind fun rs=>if rs.length = n then (g (zmq rs)).bind fun z=>some ⟨z.1, z.2, bsOf z.1 (bss rs)⟩ else none
theorem zbb {n : Nat} {g : GF} {ta : TA} {f : AF} (ha : SA ta f) : SE (tCall (spD n g) [] E0 ta) (zav n g f):=by
 intro fx H0 env σ H h rr hr Q q
 unfold zav at hr
 obtain ⟨rs, er, hr⟩:=Option.bind_eq_some_iff.mp hr
 split at hr
 ·rename_i hn
  obtain ⟨⟨d, fr⟩, ez, hr⟩:=Option.bind_eq_some_iff.mp hr
  cases hr
  refine ha fx H0 env σ H h rs er _ fun vs H1 s1 v1=>?_
  rw [List.append_nil]
  refine ⟨lim fx env σ (bss rs), zmq rs, d, fr, by rw [zrk]; exact hn, (h.up s1).lims _, znl (fun i hi=>hi) v1, ez, fun w H3 s3 ⟨rp, fr3⟩=>q w H3 (s1.trans s3) ⟨zvc rp, fun e=>?_⟩⟩
  obtain ⟨a, g1, g2, g3⟩:=fr3 e
  refine ⟨a, g1, s1.free g2, ?_⟩
  have nf : zht d = false:=by cases d <;> first | rfl | exact g3.elim
  show zjs (Offs (fun b=>lim fx env σ (bsOf d (bss rs)) b ∨ b = a) H3) H3 a d
  rw [show bsOf d (bss rs) = bss rs by unfold bsOf; rw [if_neg (by rw [nf]; decide)]]
  exact g3
 ·cases hr
end L2
namespace L2
open PySem PySem.Spec PyProof.Rows
inductive Out where
 | nx (env : DEnv)
 | bk (env : DEnv)
 | ct (env : DEnv)
 | rt (d : PyData) (fr : Bool)
noncomputable def Sat (fx : Addr → Prop) (H0 : Hp) (D : Ends) : Out → Prop
 | .nx env=>∀ σ H, EnvOk fx H0 env σ H → D.nx σ H
 | .bk env=>∀ σ H, EnvOk fx H0 env σ H → D.bk σ H
 | .ct env=>∀ σ H, EnvOk fx H0 env σ H → D.ct σ H
 | .rt d fr=>∀ v H, Same H0 H → zago fx H0 d fr v H → D.rt v H
noncomputable abbrev SF:=DEnv → Option Out
noncomputable def SS (ts : TS) (F : SF) : Prop:=∀ (fx : Addr → Prop) (H0 : Hp) (env : DEnv) (σ : St) (H : Hp) (D : Ends), EnvOk fx H0 env σ H → ∀ o, F env = some o → Sat fx H0 D o → ts D σ H
noncomputable def frz1 (env : DEnv) (i : Nat) : DEnv:=match env[i]? with
 | some (.ac d)=>env.set i (.pl d)
 | _=>env
noncomputable def frzs (env : DEnv) (bs : List Nat) : DEnv:=bs.foldl frz1 env
theorem zakf (env : DEnv) (i : Nat) : (frz1 env i).length = env.length:=by
 unfold frz1; split
 ·rw [List.length_set]
 ·rfl
theorem zev {α : Type} {l : List α} {i j : Nat} {x y : α} (h : (l.set i x)[j]? = some y) : (j = i ∧ y = x) ∨ (j ≠ i ∧ l[j]? = some y):=by
 rw [List.getElem?_set] at h
 by_cases e : i = j
 ·subst e
  rw [if_pos rfl] at h
  split at h
  ·exact .inl ⟨rfl, (Option.some.inj h).symm⟩
  ·cases h
 ·rw [if_neg e] at h
  exact .inr ⟨fun z=>e z.symm, h⟩
theorem zou {env : DEnv} {i j : Nat} {d : PyData} (h : (frz1 env i)[j]? = some (.ac d)) : env[j]? = some (.ac d) ∧ j ≠ i:=by
 unfold frz1 at h
 split at h
 ·rcases zev h with ⟨_, e⟩ | ⟨e, h⟩
  ·cases e
  ·exact ⟨h, e⟩
 ·rename_i hn
  refine ⟨h, fun e=>?_⟩
  subst e
  exact hn d h
theorem zanu {env : DEnv} {i j : Nat} {d : PyData} (h : (frz1 env i)[j]? = some (.pl d)) : env[j]? = some (.pl d) ∨ (j = i ∧ env[i]? = some (.ac d)):=by
 unfold frz1 at h
 split at h
 ·rename_i d' hd
  rcases zev h with ⟨e1, e⟩ | ⟨e, h⟩
  ·cases e; exact .inr ⟨e1, hd⟩
  ·exact .inl h
 ·exact .inl h
theorem zakg {env : DEnv} {σ : St} {i : Nat} : ∀ a, own (frz1 env i) σ a → own env σ a:=by
 rintro a ⟨j, d, h1, h2⟩
 exact ⟨j, d, (zou h1).1, h2⟩
theorem EnvOk.frz1 {fx : Addr → Prop} {H0 : Hp} {env : DEnv} {σ : St} {H : Hp} (h : EnvOk fx H0 env σ H) (i : Nat) : EnvOk fx H0 (frz1 env i) σ H:=by
 have so : Same (Offs (fun a=>fx a ∨ own env σ a) H) (Offs (fun a=>fx a ∨ own (L2.frz1 env i) σ a) H):=Offs.sub fun b z=>z.imp (fun y=>y) (zakg b)
 refine ⟨by rw [zakf]; exact h.len, fun j d e=>?_, fun j d e=>?_, fun j k d d' a h1 h2 h3 h4=>h.inj j k d d' a (zou h1).1 (zou h2).1 h3 h4, h.base, h.fxs⟩
 ·rcases zanu e with e | ⟨rfl, e⟩
  ·obtain ⟨v, h1, h2⟩:=h.pl j d e
   exact ⟨v, h1, Rp.same so _ h2⟩
  ·obtain ⟨a, h1, h2, h3, h4⟩:=h.ac j d e
   refine ⟨_, h1, h4.rp so fun o eo=>?_⟩
   rw [Offs.get]
   ·exact eo
   ·rintro (z | ⟨k, d', z1, z2⟩)
    ·exact h3 z
    ·obtain ⟨z1, z3⟩:=zou z1
     exact z3 (h.inj k j d' d a z1 e z2 h1)
 ·obtain ⟨a, h1, h2, h3, h4⟩:=h.ac j d (zou e).1
  exact ⟨a, h1, h2, h3, h4.same so fun o z=>z⟩
theorem EnvOk.frzs {fx : Addr → Prop} {H0 : Hp} {σ : St} {H : Hp} : ∀ (bs : List Nat) {env : DEnv}, EnvOk fx H0 env σ H → EnvOk fx H0 (frzs env bs) σ H
 | [], _, h=>h
 | i :: bs, _, h=>EnvOk.frzs bs (h.frz1 i)
theorem zagp : ∀ {bs : List Nat} {env : DEnv} {j : Nat} {d : PyData}, (frzs env bs)[j]? = some (.ac d) → env[j]? = some (.ac d) ∧ j ∉ bs
 | [], _, _, _, h=>⟨h, by simp⟩
 | i :: bs, env, j, d, h=>by
  obtain ⟨h1, h2⟩:=zagp (bs:=bs) h
  obtain ⟨h3, h4⟩:=zou h1
  exact ⟨h3, by simp [h4, h2]⟩
theorem zhp {fx : Addr → Prop} {env : DEnv} {σ : St} {bs : List Nat} : ∀ a, fx a ∨ own (frzs env bs) σ a → lim fx env σ bs a:=by
 rintro a (z | ⟨i, d, h1, h2⟩)
 ·exact .inl z
 ·obtain ⟨h3, h4⟩:=zagp h1
  exact .inr ⟨i, d, h4, h3, h2⟩
theorem zagq {env : DEnv} {σ : St} {i : Nat} {d : PyData} {v : V} : ∀ a, own (env.set i (.pl d)) (σ.set i (some v)) a → own env σ a:=by
 rintro a ⟨j, e, h1, h2⟩
 rcases zev h1 with ⟨_, z⟩ | ⟨ne, h1⟩
 ·cases z
 ·rcases zev h2 with ⟨z, _⟩ | ⟨_, h2⟩
  ·exact absurd z ne
  ·exact ⟨j, e, h1, h2⟩
theorem EnvOk.setPl {fx : Addr → Prop} {H0 : Hp} {env : DEnv} {σ : St} {H : Hp} (h : EnvOk fx H0 env σ H) (i : Nat) {d : PyData} {v : V} (r : Rp (Offs (fun a=>fx a ∨ own env σ a) H) d v) : EnvOk fx H0 (env.set i (.pl d)) (σ.set i (some v)) H:=by
 have so : Same (Offs (fun a=>fx a ∨ own env σ a) H) (Offs (fun a=>fx a ∨ own (env.set i (.pl d)) (σ.set i (some v)) a) H):=Offs.sub fun b z=>z.imp (fun y=>y) (zagq b)
 have kept : ∀ {j : Nat}, j ≠ i → (σ.set i (some v))[j]? = σ[j]?:=fun {j} n=>List.getElem?_set_ne fun z=>n z.symm
 refine ⟨by rw [List.length_set, List.length_set]; exact h.len, fun j e hj=>?_, fun j e hj=>?_, fun j k d1 d2 a h1 h2 h3 h4=>?_, h.base, h.fxs⟩
 ·rcases zev hj with ⟨rfl, z⟩ | ⟨ne, hj'⟩
  ·cases z
   have hl : j < env.length:=by have:=(List.getElem?_eq_some_iff.mp hj).1; rwa [List.length_set] at this
   exact ⟨v, by rw [List.getElem?_set_self (by rw [← h.len]; exact hl)], Rp.same so _ r⟩
  ·obtain ⟨u, h1, h2⟩:=h.pl j e hj'
   exact ⟨u, by rw [kept ne]; exact h1, Rp.same so _ h2⟩
 ·rcases zev hj with ⟨_, z⟩ | ⟨ne, hj'⟩
  ·cases z
  ·obtain ⟨a, h1, h2, h3, h4⟩:=h.ac j e hj'
   exact ⟨a, by rw [kept ne]; exact h1, h2, h3, h4.same so fun o z=>z⟩
 ·rcases zev h1 with ⟨_, z⟩ | ⟨n1, h1⟩
  ·cases z
  rcases zev h2 with ⟨_, z⟩ | ⟨n2, h2⟩
  ·cases z
  rw [kept n1] at h3
  rw [kept n2] at h4
  exact h.inj j k d1 d2 a h1 h2 h3 h4
theorem EnvOk.setAc {fx : Addr → Prop} {H0 : Hp} {env : DEnv} {σ : St} {H : Hp} {a : Addr} (h : EnvOk (fun b=>fx b ∨ b = a) H0 env σ H) (i : Nat) {d : PyData} (r : zjs (Offs (fun b=>(fx b ∨ own env σ b) ∨ b = a) H) H a d) (h0 : H0 a = none) (hf : ¬ fx a) :
  EnvOk fx H0 (env.set i (.ac d)) (σ.set i (some (.ref a))) H:=by
 have kept : ∀ {j : Nat}, j ≠ i → (σ.set i (some (V.ref a)))[j]? = σ[j]?:=fun {j} n=>List.getElem?_set_ne fun z=>n z.symm
 have sub : ∀ b, fx b ∨ own (env.set i (.ac d)) (σ.set i (some (.ref a))) b → (fx b ∨ b = a) ∨ own env σ b:=by
  rintro b (z | ⟨j, e, h1, h2⟩)
  ·exact .inl (.inl z)
  ·rcases zev h1 with ⟨rfl, z⟩ | ⟨ne, h1⟩
   ·have hl : j < env.length:=by have:=(List.getElem?_eq_some_iff.mp ‹(env.set j (.ac d))[j]? = _›).1; rwa [List.length_set] at this
    rw [List.getElem?_set_self (by rw [← h.len]; exact hl)] at h2
    cases h2
    exact .inl (.inr rfl)
   ·rw [kept ne] at h2
    exact .inr ⟨j, e, h1, h2⟩
 have so : Same (Offs (fun b=>(fx b ∨ b = a) ∨ own env σ b) H) (Offs (fun b=>fx b ∨ own (env.set i (.ac d)) (σ.set i (some (.ref a))) b) H):=Offs.sub sub
 have so2 : Same (Offs (fun b=>(fx b ∨ own env σ b) ∨ b = a) H) (Offs (fun b=>fx b ∨ own (env.set i (.ac d)) (σ.set i (some (.ref a))) b) H):=Offs.sub fun b z=>by
  rcases sub b z with (y | y) | y
  ·exact .inl (.inl y)
  ·exact .inr y
  ·exact .inl (.inr y)
 refine ⟨by rw [List.length_set, List.length_set]; exact h.len, fun j e hj=>?_, fun j e hj=>?_, fun j k d1 d2 b h1 h2 h3 h4=>?_, h.base, fun b z=>h.fxs b (.inl z)⟩
 ·rcases zev hj with ⟨_, z⟩ | ⟨ne, hj'⟩
  ·cases z
  ·obtain ⟨u, h1, h2⟩:=h.pl j e hj'
   exact ⟨u, by rw [kept ne]; exact h1, Rp.same so _ h2⟩
 ·rcases zev hj with ⟨rfl, z⟩ | ⟨ne, hj'⟩
  ·cases z
   have hl : j < env.length:=by have:=(List.getElem?_eq_some_iff.mp hj).1; rwa [List.length_set] at this
   exact ⟨a, by rw [List.getElem?_set_self (by rw [← h.len]; exact hl)], h0, hf, r.same so2 fun o z=>z⟩
  ·obtain ⟨b, h1, h2, h3, h4⟩:=h.ac j e hj'
   exact ⟨b, by rw [kept ne]; exact h1, h2, fun z=>h3 (.inl z), h4.same so fun o z=>z⟩
 ·rcases zev h1 with ⟨e1, z1⟩ | ⟨n1, h1'⟩ <;> rcases zev h2 with ⟨e2, z2⟩ | ⟨n2, h2'⟩
  ·rw [e1, e2]
  ·subst e1
   have hl : j < env.length:=by have:=(List.getElem?_eq_some_iff.mp h1).1; rwa [List.length_set] at this
   rw [List.getElem?_set_self (by rw [← h.len]; exact hl)] at h3
   rw [kept n2] at h4
   cases h3
   obtain ⟨b, g1, g2, g3, g4⟩:=h.ac k d2 h2'
   rw [h4] at g1
   cases g1
   exact absurd (.inr rfl) g3
  ·subst e2
   have hl : k < env.length:=by have:=(List.getElem?_eq_some_iff.mp h2).1; rwa [List.length_set] at this
   rw [List.getElem?_set_self (by rw [← h.len]; exact hl)] at h4
   rw [kept n1] at h3
   cases h4
   obtain ⟨b, g1, g2, g3, g4⟩:=h.ac j d1 h1'
   rw [h3] at g1
   cases g1
   exact absurd (.inr rfl) g3
  ·rw [kept n1] at h3
   rw [kept n2] at h4
   exact h.inj j k d1 d2 b h1' h2' h3 h4
noncomputable def slOf (r : Val) : Sl:=if r.fr = true then .ac r.d else .pl r.d
noncomputable def putV (env : DEnv) (i : Nat) (r : Val) : DEnv:=(frzs env r.bs).set i (slOf r)
theorem EnvOk.put {fx : Addr → Prop} {H0 : Hp} {env : DEnv} {σ : St} {H H' : Hp} (h : EnvOk fx H0 env σ H) (s : Same H H') {r : Val} {v : V} (hv : ValOk (lim fx env σ r.bs) H H' r v) (i : Nat) : EnvOk fx H0 (putV env i r) (σ.set i (some v)) H':=by
 unfold putV slOf
 cases e : r.fr with
 | false =>
  rw [if_neg Bool.false_ne_true]
  exact ((h.up s).frzs r.bs).setPl i (Rp.same (Offs.sub zhp) _ hv.rp)
 | true =>
  rw [if_pos rfl]
  obtain ⟨a, rfl, ha, hacc⟩:=hv.fr e
  have nfx : ¬ fx a:=zgs h.fxs ha
  have g : EnvOk (fun b=>fx b ∨ b = a) H0 env σ H':=h.grow s (fun b o eo n z=>z.elim n fun y=>by rw [y, ha] at eo; cases eo) fun b z=>by
   rcases z with z | z
   ·obtain ⟨o, eo⟩:=h.fxs b z; exact ⟨o, s b o eo⟩
   ·rw [z]; exact hacc.ex
  refine (g.frzs r.bs).setAc i (hacc.same (Offs.sub fun b z=>?_) fun o z=>z) (h.base.free ha) nfx
  rcases z with z | z
  ·exact .inl (zhp b z)
  ·exact .inr z
noncomputable def sNil : SF:=fun env=>some (.nx env)
noncomputable def sSeq (f g : SF) : SF:=fun env=>(f env).bind fun o=>match o with
 | .nx env'=>g env'
 | o=>some o
theorem zem : SS tNext sNil:=by
 intro fx H0 env σ H D h o e q
 cases e
 exact q σ H h
theorem zar {t u : TS} {f g : SF} (h1 : SS t f) (h2 : SS u g) : SS (tSeq t u) (sSeq f g):=by
 intro fx H0 env σ H D h o e q
 unfold sSeq at e
 obtain ⟨o1, e1, e⟩:=Option.bind_eq_some_iff.mp e
 refine h1 fx H0 env σ H _ h o1 e1 ?_
 cases o1 with
 | nx env'=>exact fun σ' H' h'=>h2 fx H0 env' σ' H' D h' o e q
 | bk env'=>cases e; exact q
 | ct env'=>cases e; exact q
 | rt d fr=>cases e; exact q
noncomputable def zue : SF:=fun _=>none
theorem zqr : SS tNever zue:=by
 intro fx H0 env σ H D h o e q
 cases e
noncomputable def zaei (f : EF) : SF:=fun env=>(f env).map fun _=>.nx env
theorem zagr {te : TE} {f : EF} (h1 : SE te f) : SS (tDrop te) (zaei f):=by
 intro fx H0 env σ H D h o e q
 unfold zaei at e
 obtain ⟨r, er, rfl⟩:=Option.map_eq_some_iff.mp e
 exact h1 fx H0 env σ H h r er _ fun v H' s _=>q σ H' (h.up s)
noncomputable def sRet (f : EF) : SF:=fun env=>(f env).map fun r=>.rt r.d r.fr
theorem zcm {te : TE} {f : EF} (h1 : SE te f) : SS (tRet te) (sRet f):=by
 intro fx H0 env σ H D h o e q
 unfold sRet at e
 obtain ⟨r, er, rfl⟩:=Option.map_eq_some_iff.mp e
 refine h1 fx H0 env σ H h r er _ fun v H' s hv=>q v H' (h.base.trans s) ⟨Rp.same (Offs.sub fun b z=>.inl z) _ hv.rp, fun z=>?_⟩
 obtain ⟨a, g1, g2, g3⟩:=hv.fr z
 exact ⟨a, g1, h.base.free g2, g3.same (Offs.sub fun b y=>y.imp .inl id) fun o z=>z⟩
noncomputable def ztf (i : Nat) : SF:=fun env=>match env[i]? with
 | some (.pl d)=>some (.rt d false)
 | some (.ac d)=>some (.rt d true)
 | _=>none
theorem zmr {i : Nat} : SS (tRet (tVar i)) (ztf i):=by
 intro fx H0 env σ H D h o e q
 unfold ztf at e
 cases ei : env[i]? with
 | none=>rw [ei] at e; cases e
 | some sl =>
  rw [ei] at e
  cases sl with
  | no=>cases e
  | pl d =>
   cases e
   obtain ⟨v, h1, h2⟩:=h.pl i d ei
   exact ⟨v, h1, q v H h.base ⟨Rp.same (Offs.sub fun b z=>.inl z) _ h2, fun z=>by cases z⟩⟩
  | ac d =>
   cases e
   obtain ⟨a, h1, h2, h3, h4⟩:=h.ac i d ei
   refine ⟨_, h1, q _ H h.base ⟨h4.rp (Offs.sub fun b z=>.inl z) fun o eo=>by rw [Offs.get h3]; exact eo, fun _=>⟨a, rfl, h2, h4.same (Offs.sub fun b z=>?_) fun o z=>z⟩⟩⟩
   rcases z with z | z
   ·exact .inl z
   ·rw [z]; exact .inr ⟨i, d, ei, h1⟩
noncomputable def sIf (c : TF) (f g : SF) : SF:=fun env=>(c env).bind fun b=>if b = true then f env else g env
theorem zgo {tc : TT} {t u : TS} {c : TF} {f g : SF} (hc : ST tc c) (h1 : SS t f) (h2 : SS u g) : SS (tIfS tc t u) (sIf c f g):=by
 intro fx H0 env σ H D h o e q
 unfold sIf at e
 obtain ⟨b, eb, e⟩:=Option.bind_eq_some_iff.mp e
 refine hc fx H0 env σ H h b eb _ fun H' s=>?_
 cases b with
 | true=>exact iteT (h1 fx H0 env σ H' D (h.up s) o e q)
 | false=>exact iteF (h2 fx H0 env σ H' D (h.up s) o e q)
noncomputable def sSet (i : Nat) (f : EF) : SF:=fun env=>(f env).map fun r=>.nx (putV env i r)
theorem zbg {te : TE} {f : EF} {i : Nat} (h1 : SE te f) : SS (tAsg te (gName i)) (sSet i f):=by
 intro fx H0 env σ H D h o e q
 unfold sSet at e
 obtain ⟨r, er, rfl⟩:=Option.map_eq_some_iff.mp e
 exact h1 fx H0 env σ H h r er _ fun v H' s hv=>q _ H' (h.put s hv i)
noncomputable abbrev GT:=PyData → DEnv → Option DEnv
noncomputable def SG (g : TG) (f : GT) : Prop:=∀ (fx : Addr → Prop) (H0 : Hp) (env : DEnv) (σ : St) (H : Hp) (d : PyData) (v : V), EnvOk fx H0 env σ H → Rp (Offs (fun a=>fx a ∨ own env σ a) H) d v → ∀ env', f d env = some env' → ∀ Q : St → Hp → Prop,
 (∀ σ', EnvOk fx H0 env' σ' H → Q σ' H) → g v σ H Q
noncomputable abbrev GTs:=List PyData → DEnv → Option DEnv
noncomputable def SGs (g : TGs) (f : GTs) : Prop:=∀ (fx : Addr → Prop) (H0 : Hp) (env : DEnv) (σ : St) (H : Hp) (ds : List PyData) (vs : List V), EnvOk fx H0 env σ H → Rps (Offs (fun a=>fx a ∨ own env σ a) H) ds vs → ∀ env', f ds env = some env' → ∀ Q : St → Hp → Prop,
 (∀ σ', EnvOk fx H0 env' σ' H → Q σ' H) → g vs σ H Q
noncomputable def gN (i : Nat) : GT:=fun d env=>some (env.set i (.pl d))
theorem zcr {i : Nat} : SG (gName i) (gN i):=by
 intro fx H0 env σ H d v h r env' e Q q
 cases e
 exact q _ (h.setPl i r)
noncomputable def zds : GTs:=fun ds env=>match ds with | []=>some env | _=>none
noncomputable def zay (i : Nat) (g : GTs) : GTs:=fun ds env=>match ds with | d :: r=>g r (env.set i (.pl d)) | []=>none
theorem zed : SGs gNil zds:=by
 intro fx H0 env σ H ds vs h r env' e Q q
 cases ds with
 | nil=>cases e; unfold Rps at r; exact ⟨r, q _ h⟩
 | cons _ _=>cases e
theorem zbf {i : Nat} {t : TGs} {g : GTs} (h1 : SGs t g) : SGs (gCons (gName i) t) (zay i g):=by
 intro fx H0 env σ H ds vs h r env' e Q q
 cases ds with
 | nil=>cases e
 | cons d ds =>
  unfold Rps at r
  obtain ⟨v, ws, rfl, r1, r2⟩:=r
  refine ⟨v, ws, rfl, h1 fx H0 (env.set i (.pl d)) _ H ds ws (h.setPl i r1) (Rps.same (Offs.sub fun b z=>z.imp (fun y=>y) (zagq b)) _ r2) env' e Q q⟩
noncomputable def gT (n : Nat) (g : GTs) : GT:=fun d env=>match d with | .tuple ds=>if ds.length = n then g ds env else none | _=>none
theorem zgd {K : PySem.W.Frag} {n : Nat} {t : TGs} {g : GTs} (h1 : SGs t g) : SG (gTup K n t) (gT n g):=by
 intro fx H0 env σ H d v h r env' e Q q
 unfold gT at e
 cases d with
 | tuple ds =>
  have e : (if ds.length = n then g ds env else none) = some env':=e
  split at e
  ·rename_i hn
   obtain ⟨a, xs, rfl, ha, rs⟩:=zff r
   exact ⟨a, xs, rfl, SqT.of (zeq ha), by rw [← rs.length]; exact hn, h1 fx H0 env σ H ds xs h rs env' e Q q⟩
  ·cases e
 | _=>cases e
noncomputable def sAsg (f : EF) (g : GT) : SF:=fun env=>(f env).bind fun r=>(g r.d (frzs env r.bs)).map .nx
theorem zaci {te : TE} {f : EF} {g : TG} {gf : GT} (h1 : SE te f) (h2 : SG g gf) : SS (tAsg te g) (sAsg f gf):=by
 intro fx H0 env σ H D h o e q
 unfold sAsg at e
 obtain ⟨r, er, e⟩:=Option.bind_eq_some_iff.mp e
 obtain ⟨env', e', rfl⟩:=Option.map_eq_some_iff.mp e
 exact h1 fx H0 env σ H h r er _ fun v H' s hv=>h2 fx H0 _ σ H' r.d v ((h.up s).frzs r.bs) (Rp.same (Offs.sub zhp) _ hv.rp) env' e' _ fun σ' h'=>q σ' H' h'
theorem EnvOk.mut {fx : Addr → Prop} {H0 : Hp} {env : DEnv} {σ : St} {H : Hp} (h : EnvOk fx H0 env σ H) {i : Nat} {d d' : PyData} {a : Addr} {o : HO} (e : env[i]? = some (.ac d)) (ea : σ[i]? = some (some (.ref a)))
  (r : zjs (Offs (fun b=>fx b ∨ own env σ b) H) (upd H a o) a d') : EnvOk fx H0 (env.set i (.ac d')) σ (upd H a o):=by
 have hl : i < env.length:=(List.getElem?_eq_some_iff.mp e).1
 have oa : own env σ a:=⟨i, d, e, ea⟩
 have ow : ∀ b, own (env.set i (.ac d')) σ b ↔ own env σ b:=by
  intro b
  constructor
  ·rintro ⟨j, d1, h1, h2⟩
   rcases zev h1 with ⟨rfl, z⟩ | ⟨ne, h1⟩
   ·exact ⟨j, d, e, h2⟩
   ·exact ⟨j, d1, h1, h2⟩
  ·rintro ⟨j, d1, h1, h2⟩
   by_cases hj : j = i
   ·subst hj; exact ⟨j, d', by rw [List.getElem?_set_self hl], h2⟩
   ·exact ⟨j, d1, by rw [List.getElem?_set_ne fun z=>hj z.symm]; exact h1, h2⟩
 have so : Same (Offs (fun b=>fx b ∨ own env σ b) H) (Offs (fun b=>fx b ∨ own (env.set i (.ac d')) σ b) (upd H a o)):=by
  have : Same (Offs (fun b=>fx b ∨ own env σ b) (upd H a o)) (Offs (fun b=>fx b ∨ own (env.set i (.ac d')) σ b) (upd H a o)):=Offs.sub fun b z=>z.imp (fun y=>y) (ow b).mp
  rw [Offs.upd (.inr oa)] at this
  exact this
 obtain ⟨a', g1, g2, g3, g4⟩:=h.ac i d e
 rw [ea] at g1
 cases g1
 refine ⟨by rw [List.length_set]; exact h.len, fun j d1 hj=>?_, fun j d1 hj=>?_, fun j k d1 d2 b h1 h2 h3 h4=>?_, fun b u eb=>by rw [zcj (zce eb g2)]; exact h.base b u eb, fun b z=>?_⟩
 ·rcases zev hj with ⟨_, z⟩ | ⟨ne, hj'⟩
  ·cases z
  ·obtain ⟨u, h1, h2⟩:=h.pl j d1 hj'
   exact ⟨u, h1, Rp.same so _ h2⟩
 ·rcases zev hj with ⟨rfl, z⟩ | ⟨ne, hj'⟩
  ·cases z
   exact ⟨a, ea, g2, g3, r.same so fun o z=>z⟩
  ·obtain ⟨b, h1, h2, h3, h4⟩:=h.ac j d1 hj'
   refine ⟨b, h1, h2, h3, h4.same so fun o' z=>?_⟩
   rw [zcj fun y=>ne (h.inj j i d1 d a hj' e (by rw [← y]; exact h1) ea)]
   exact z
 ·have f : ∀ {j : Nat} {d1 : PyData}, (env.set i (.ac d'))[j]? = some (.ac d1) → ∃ d2, env[j]? = some (.ac d2):=fun {j d1} hj=>by
   rcases zev hj with ⟨rfl, z⟩ | ⟨ne, hj'⟩
   ·exact ⟨d, e⟩
   ·exact ⟨d1, hj'⟩
  obtain ⟨e1, h1⟩:=f h1
  obtain ⟨e2, h2⟩:=f h2
  exact h.inj j k e1 e2 b h1 h2 h3 h4
 ·obtain ⟨u, eu⟩:=h.fxs b z
  exact ⟨u, by rw [zcj fun y=>g3 (by rw [← y]; exact z)]; exact eu⟩
noncomputable def sApp (i : Nat) (f : EF) : SF:=fun env=>match env[i]? with
 | some (.ac (.list ds))=>(f env).bind fun r=>if ds.length < 100000 ∧ i ∉ r.bs then some (.nx ((frzs env r.bs).set i (.ac (.list (ds ++ [r.d]))))) else none
 | _=>none
theorem znn {env : DEnv} {i : Nat} {d : PyData} : ∀ {bs : List Nat}, i ∉ bs → env[i]? = some (.ac d) → (frzs env bs)[i]? = some (.ac d):=by
 intro bs
 induction bs generalizing env with
 | nil=>intro _ e; exact e
 | cons j bs ih =>
  intro hn e
  have hj : i ≠ j:=fun z=>hn (by simp [z])
  refine ih (fun z=>hn (List.mem_cons_of_mem _ z)) ?_
  unfold frz1
  split
  ·rw [List.getElem?_set_ne fun z=>hj z.symm]; exact e
  ·exact e
theorem zkk {K : PySem.W.Frag} {i : Nat} {te : TE} {f : EF} (h1 : SE te f) : SS (tDrop (tBM K "list" zaak (tVar i) (tCons te tNil))) (sApp i f):=by
 intro fx H0 env σ H D h o e q
 unfold sApp at e
 split at e
 ·rename_i ds ei
  obtain ⟨r, er, e⟩:=Option.bind_eq_some_iff.mp e
  split at e
  ·rename_i hl
   cases e
   obtain ⟨a, g1, g2, g3, g4⟩:=h.ac i _ ei
   obtain ⟨xs, hx, rx⟩:=g4
   refine ⟨_, g1, .inl ⟨rfl, _, SqL.of hx⟩, h1 fx H0 env σ H h r er _ fun v H' s hv=>?_⟩
   have h':=(h.up s).frzs r.bs
   have ei':=znn hl.2 ei
   have hx':=s _ _ hx
   have rx' : Rps (Offs (fun b=>fx b ∨ own (frzs env r.bs) σ b) H') ds xs:=by
    obtain ⟨a', z1, _, _, z4⟩:=h'.ac i _ ei'
    rw [g1] at z1
    cases z1
    obtain ⟨ys, y1, y2⟩:=z4
    rw [hx'] at y1
    cases y1
    exact y2
   refine ⟨a, xs, v, rfl, rfl, hx', zrh (by rw [← rx.length]; exact hl.1), ?_⟩
   refine q σ _ (h'.mut ei' g1 ⟨_, zbn, rx'.append (zfg (Rp.same (Offs.sub zhp) _ hv.rp) zfo)⟩)
  ·cases e
 ·cases e
noncomputable def sPut (i : Nat) (fk fv : EF) : SF:=fun env=>match env[i]? with
 | some (.ac (.dict kvs))=>(fv env).bind fun r=>(fk env).bind fun k=>(keyD k.d).bind fun _=>if kvs.length < 100000 ∧ i ∉ r.bs then some (.nx ((frzs env r.bs).set i (.ac (.dict (zqf kvs k.d r.d))))) else none
 | _=>none
theorem zacj {i : Nat} {tk tv : TE} {fk fv : EF} (h1 : SE tk fk) (h2 : SE tv fv) : SS (sDPut (tVar i) tk tv) (sPut i fk fv):=by
 intro fx H0 env σ H D h o e q
 unfold sPut at e
 split at e
 ·rename_i kvs ei
  obtain ⟨r, er, e⟩:=Option.bind_eq_some_iff.mp e
  obtain ⟨k, ek, e⟩:=Option.bind_eq_some_iff.mp e
  obtain ⟨kk, ekk, e⟩:=Option.bind_eq_some_iff.mp e
  split at e
  ·rename_i hl
   cases e
   obtain ⟨a, g1, g2, g3, g4⟩:=h.ac i _ ei
   obtain ⟨ps, hx, rx⟩:=g4
   refine h2 fx H0 env σ H h r er _ fun v H' s hv=>⟨_, g1, h1 fx H0 env σ H' (h.up s) k ek _ fun u H2 s2 hk=>?_⟩
   have t2:=s.trans s2
   have h':=(h.up t2).frzs r.bs
   have ei':=znn hl.2 ei
   have hx':=t2 _ _ hx
   have rx' : Rpd (Offs (fun b=>fx b ∨ own (frzs env r.bs) σ b) H2) kvs ps:=by
    obtain ⟨a', z1, _, _, z4⟩:=h'.ac i _ ei'
    rw [g1] at z1
    cases z1
    obtain ⟨ys, y1, y2⟩:=z4
    rw [hx'] at y1
    cases y1
    exact y2
   rw [zaeg hk.rp ekk]
   refine ⟨a, _, rfl, DPut.k hx' (zrh (by rw [← rx.length]; exact hl.1)), ?_⟩
   refine q σ _ (h'.mut ei' g1 ⟨_, zbn, rx'.put ekk (Rp.same (Offs.sub zhp) _ (hv.later (Same.refl _) s2 fun _ z=>z).rp)⟩)
  ·cases e
 ·cases e
noncomputable def sUpd (i : Nat) (f : EF) : SF:=fun env=>match env[i]? with
 | some (.ac (.dict kvs))=>(f env).bind fun r=>match r.d with
  | .dict more=>if kvs.length + more.length ≤ 100000 ∧ i ∉ r.bs then some (.nx ((frzs env r.bs).set i (.ac (.dict (zjo kvs more))))) else none
  | _=>none
 | _=>none
theorem zama {K : PySem.W.Frag} {i : Nat} {te : TE} {f : EF} (h1 : SE te f) : SS (tDrop (tBM K "dict" zaga (tVar i) (tCons te tNil))) (sUpd i f):=by
 intro fx H0 env σ H D h o e q
 unfold sUpd at e
 split at e
 ·rename_i kvs ei
  obtain ⟨⟨rd, rfr, rbs⟩, er, e⟩:=Option.bind_eq_some_iff.mp e
  cases rd with
  | dict more =>
   have e : (if kvs.length + more.length ≤ 100000 ∧ i ∉ rbs then some (Out.nx ((frzs env rbs).set i (.ac (.dict (zjo kvs more))))) else none) = some o:=e
   split at e
   ·rename_i hl
    cases e
    obtain ⟨a, g1, g2, g3, g4⟩:=h.ac i _ ei
    obtain ⟨ps, hx, rx⟩:=g4
    refine ⟨_, g1, .inr (.inr (.inl ⟨rfl, .inl ⟨_, hx⟩⟩)), h1 fx H0 env σ H h _ er _ fun v H' s hv=>?_⟩
    have h':=(h.up s).frzs rbs
    have ei':=znn hl.2 ei
    have hx':=s _ _ hx
    have rx' : Rpd (Offs (fun b=>fx b ∨ own (frzs env rbs) σ b) H') kvs ps:=by
     obtain ⟨a', z1, _, _, z4⟩:=h'.ac i _ ei'
     rw [g1] at z1
     cases z1
     obtain ⟨ys, y1, y2⟩:=z4
     rw [hx'] at y1
     cases y1
     exact y2
    obtain ⟨b, qs, rfl, hb, rb⟩:=zor (Rp.same (Offs.sub zhp) _ hv.rp)
    have hab : a ≠ b:=fun z=>by
     subst z
     exact (Offs.of hb).1 (.inr ⟨i, _, ei', g1⟩)
    refine ⟨a, b, ps, qs, rfl, rfl, hab, hx', zeq hb, zjn (by rw [← rx.length, ← rb.length]; exact hl.1), ?_⟩
    exact q σ _ (h'.mut ei' g1 ⟨_, zbn, rx'.merge rb⟩)
   ·cases e
  | _=>cases e
 ·cases e
end L2
namespace L2
open PySem PySem.Spec PyProof.Rows
theorem EnvOk.rebase {fx : Addr → Prop} {H0 : Hp} {env : DEnv} {σ : St} {H : Hp} (h : EnvOk fx H0 env σ H) : EnvOk fx (Offs (own env σ) H) env σ H:=by
 refine ⟨h.len, h.pl, fun i d e=>?_, h.inj, Offs.same _ _, h.fxs⟩
 obtain ⟨a, h1, h2, h3, h4⟩:=h.ac i d e
 exact ⟨a, h1, Offs.out ⟨i, d, e, h1⟩, h3, h4⟩
theorem EnvOk.floor {fx : Addr → Prop} {H0 : Hp} {env : DEnv} {σ : St} {H : Hp} (h : EnvOk fx H0 env σ H) : Same H0 (Offs (own env σ) H):=fun b o e=>by
 rw [Offs.get]
 ·exact h.base b o e
 ·rintro ⟨i, d, h1, h2⟩
  obtain ⟨a, g1, g2, _⟩:=h.ac i d h1
  rw [h2] at g1
  cases g1
  rw [g2] at e
  cases e
theorem EnvOk.unbase {fx : Addr → Prop} {H0 F : Hp} {env : DEnv} {σ : St} {H : Hp} (h : EnvOk fx F env σ H) (s : Same H0 F) : EnvOk fx H0 env σ H:=by
 refine ⟨h.len, h.pl, fun i d e=>?_, h.inj, s.trans h.base, h.fxs⟩
 obtain ⟨a, h1, h2, h3, h4⟩:=h.ac i d e
 exact ⟨a, h1, s.free h2, h3, h4⟩
theorem zago.unbase {fx : Addr → Prop} {H0 F : Hp} {d : PyData} {fr : Bool} {v : V} {H : Hp} (h : zago fx F d fr v H) (s : Same H0 F) : zago fx H0 d fr v H :=
 ⟨h.1, fun e=>let ⟨a, h1, h2, h3⟩:=h.2 e; ⟨a, h1, s.free h2, h3⟩⟩
theorem EnvOk.seen {fx : Addr → Prop} {env env' : DEnv} {σ σ' : St} {H H' : Hp} (h : EnvOk fx (Offs (own env σ) H) env' σ' H') : Same (Offs (fun b=>fx b ∨ own env σ b) H) (Offs (fun b=>fx b ∨ own env' σ' b) H'):=fun b o e=>by
 obtain ⟨h1, h2⟩:=Offs.of e
 have hF : Offs (own env σ) H b = some o:=by rw [Offs.get fun z=>h1 (.inr z)]; exact h2
 rw [Offs.get]
 ·exact h.base b o hF
 ·rintro (z | ⟨i, d, g1, g2⟩)
  ·exact h1 (.inl z)
  ·obtain ⟨a, k1, k2, _⟩:=h.ac i d g1
   rw [g2] at k1
   cases k1
   rw [k2] at hF
   cases hF
theorem EnvOk.all {fx : Addr → Prop} {H0 : Hp} {env : DEnv} {σ : St} {H : Hp} (h : EnvOk fx H0 env σ H) : ∀ b, fx b ∨ own env σ b → ∃ o, H b = some o:=fun b z=>h.lims [] b (zanl b z)
noncomputable def Yl (A0 : Addr → Prop) (H1 : Hp) (J : It) (ds : List PyData) : Prop:=∀ (A : Addr → Prop) (H' : Hp), (∀ b, A b → ∃ o, H' b = some o) → Same (Offs A0 H1) (Offs A H') →
 (∀ i d, ds[i]? = some d → J.go i H' ∧ ∀ x H'', J.yld i H' x H'' → Same H' H'' ∧ Rp (Offs A H'') d x) ∧ J.stop ds.length H'
noncomputable abbrev IF':=DEnv → Option (List PyData × List Nat)
noncomputable def SI (wi : TI) (f : IF') : Prop:=∀ (fx : Addr → Prop) (H0 : Hp) (env : DEnv) (σ : St) (H : Hp), EnvOk fx H0 env σ H → ∀ ds bs, f env = some (ds, bs) → ∀ R : It → Hp → Prop,
 (∀ J H1, Same H H1 → Yl (fun b=>fx b ∨ own (frzs env bs) σ b) H1 J ds → R J H1) → wi σ H R
noncomputable def iSeq (K : PySem.W.Frag) (te : TE) : TI:=fun σ H R=>te σ H fun x H1=>∃ a, x = .ref a ∧ ((∃ xs, SqL K H1 a xs) ∧ R (Itl K a) H1 ∨ (∃ xs, SqT K H1 a xs) ∧ R (Itt K a) H1)
theorem zaqh {X : Cx} {tg l : Expr} {tl : TE} (hl : PE X l tl) : PI X tg l (iSeq X.K tl):=by
 intro pins s σ H R I h
 refine thn (hl pins s σ H _ I h) fun v s1 ⟨x, H1, I1, r1, q1⟩=>?_
 obtain ⟨a, e, q⟩:=q1
 subst e
 cases r1
 rcases q with ⟨⟨xs, hq⟩, q⟩ | ⟨⟨xs, hq⟩, q⟩
 ·obtain ⟨its, rv, p, hz⟩:=I1.list hq
  refine wpAny_pyIter_list p.isList ?_
  refine ⟨s1.heap.objs.size, [s1.heap.objs.size], _, _, H1, rfl, I1.kept (t':=s1.toks) fun b o e=>Heap.get?_push_of_some _ e, zwu a _, ⟨_, Heap.get?_push_size _ rfl, rfl, rfl⟩, fun b hb=>?_, q⟩
  have e : b = s1.heap.objs.size:=by simpa using hb
  subst e
  exact I1.fpOk (Nat.le_refl _) (I1.hok.fresh (Nat.le_refl _))
 ·obtain ⟨its, rv, p, hz⟩:=I1.tuple hq
  refine wpAny_pyIter_tuple (show s1.heap.IsTuple a its.toArray from p) ?_
  refine ⟨s1.heap.objs.size, [s1.heap.objs.size], _, _, H1, rfl, I1.kept (t':=s1.toks) fun b o e=>Heap.get?_push_of_some _ e, zadx a _, ⟨_, Heap.get?_push_size _ rfl, rfl, rfl⟩, fun b hb=>?_, q⟩
  have e : b = s1.heap.objs.size:=by simpa using hb
  subst e
  exact I1.fpOk (Nat.le_refl _) (I1.hok.fresh (Nat.le_refl _))
theorem zanv {X : Cx} {K : PySem.W.Frag} (hK : X.K = K) {tg l : Expr} {tl : TE} (hl : PE X l tl) : PI X tg l (iSeq K tl):=by subst hK; exact zaqh hl
noncomputable def zaw (f : EF) : IF':=fun env=>(f env).bind fun r=>(zhv r.d).map fun ds=>(ds, r.bs)
theorem zanw {K : PySem.W.Frag} {A0 : Addr → Prop} {H1 : Hp} {a : Addr} {ds : List PyData} {xs : List V} (h : Offs A0 H1 a = some (.lst xs)) (r : Rps (Offs A0 H1) ds xs) : Yl A0 H1 (Itl K a) ds:=by
 intro A H' hA s
 have ha:=zeq (s _ _ h)
 have r':=Rps.same s _ r
 refine ⟨fun i d e=>?_, ⟨xs, SqL.of ha, by rw [r.length]; exact Nat.le_refl _⟩⟩
 obtain ⟨v, hv, rv⟩:=r'.get2 e
 refine ⟨⟨xs, v, SqL.of ha, hv⟩, fun x H'' y=>?_⟩
 obtain ⟨rfl, y⟩:=y
 have:=y xs (SqL.of ha)
 rw [hv] at this
 cases this
 exact ⟨Same.refl _, rv⟩
theorem zaqi {K : PySem.W.Frag} {A0 : Addr → Prop} {H1 : Hp} {a : Addr} {ds : List PyData} {xs : List V} (h : Offs A0 H1 a = some (.tup xs)) (r : Rps (Offs A0 H1) ds xs) : Yl A0 H1 (Itt K a) ds:=by
 intro A H' hA s
 have ha:=zeq (s _ _ h)
 have r':=Rps.same s _ r
 refine ⟨fun i d e=>?_, ⟨xs, SqT.of ha, by rw [r.length]; exact Nat.le_refl _⟩⟩
 obtain ⟨v, hv, rv⟩:=r'.get2 e
 refine ⟨⟨xs, v, SqT.of ha, hv⟩, fun x H'' y=>?_⟩
 obtain ⟨rfl, y⟩:=y
 have:=y xs (SqT.of ha)
 rw [hv] at this
 cases this
 exact ⟨Same.refl _, rv⟩
theorem zda {K : PySem.W.Frag} {te : TE} {f : EF} (h1 : SE te f) : SI (iSeq K te) (zaw f):=by
 intro fx H0 env σ H h ds bs e R q
 unfold zaw at e
 obtain ⟨⟨d, fr, bs'⟩, er, e⟩:=Option.bind_eq_some_iff.mp e
 obtain ⟨es, he, e⟩:=Option.map_eq_some_iff.mp e
 cases e
 refine h1 fx H0 env σ H h _ er _ fun v H1 s hv=>?_
 have rp:=Rp.same (Offs.sub (zhp (bs:=bs'))) _ hv.rp
 cases d with
 | list ds =>
  cases he
  obtain ⟨a, xs, rfl, ha, r⟩:=zgr rp
  exact ⟨a, rfl, .inl ⟨⟨xs, SqL.of (zeq ha)⟩, q _ H1 s (zanw ha r)⟩⟩
 | tuple ds =>
  cases he
  obtain ⟨a, xs, rfl, ha, r⟩:=zff rp
  exact ⟨a, rfl, .inr ⟨⟨xs, SqT.of (zeq ha)⟩, q _ H1 s (zaqi ha r)⟩⟩
 | _=>cases he
noncomputable def zqg (ds : List PyData) : List PyData:=ds.zipIdx.map fun p=>.tuple [.int p.2, p.1]
noncomputable def zmh (f : AF) : IF':=fun env=>(f env).bind fun rs=>match rs with
 | [r]=>match r.d with
  | .list ds=>some (zqg ds, r.bs)
  | _=>none
 | _=>none
noncomputable def zrn (lo : Int) (n : Nat) : List PyData:=(List.range n).map fun (k : Nat)=>.int (lo + (k : Int))
theorem zakh {A0 : Addr → Prop} {H1 : Hp} {lo : Int} {n : Nat} : Yl A0 H1 (Itr lo n) (zrn lo n):=by
 intro A H' hA s
 have hl : (zrn lo n).length = n:=by unfold zrn; simp
 refine ⟨fun i d e=>?_, by rw [hl]; exact Nat.le_refl _⟩
 unfold zrn at e
 rw [List.getElem?_map] at e
 by_cases hi : i < n
 ·rw [List.getElem?_range hi] at e
  cases e
  exact ⟨hi, fun x H'' ⟨e1, e2⟩=>by subst e1; subst e2; exact ⟨Same.refl _, zag⟩⟩
 ·rw [List.getElem?_eq_none (by simpa using hi)] at e
  cases e
noncomputable def zhy (f : AF) : IF':=fun env=>(f env).bind fun rs=>match rs with
 | [⟨.int j, _, _⟩]=>if -(2 ^ 62) ≤ j ∧ j < 2 ^ 62 then some (zrn 0 j.toNat, []) else none
 | _=>none
theorem zro {ta : TA} {f : AF} (h1 : SA ta f) : SI (iRng1 ta) (zhy f):=by
 intro fx H0 env σ H h ds bs e R q
 unfold zhy at e
 obtain ⟨rs, er, e⟩:=Option.bind_eq_some_iff.mp e
 split at e
 ·split at e
  ·rename_i hj
   cases e
   refine h1 fx H0 env σ H h _ er _ fun vs H1 s hv=>?_
   cases hv with
   | cons hv t =>
    cases t
    cases zgb hv.rp
    exact ⟨_, rfl, hj.1, hj.2, q _ H1 s zakh⟩
  ·cases e
 ·cases e
noncomputable def forL (g : GT) (body : SF) : List PyData → DEnv → Option Out
 | [], env=>some (.nx env)
 | d :: ds, env=>(g d env).bind fun e1=>(body e1).bind fun o=>match o with
  | .nx e2=>forL g body ds e2
  | .ct e2=>forL g body ds e2
  | .bk e2=>some (.nx e2)
  | .rt d fr=>some (.rt d fr)
noncomputable def sFor (f : IF') (g : GT) (body : SF) : SF:=fun env=>(f env).bind fun z=>forL g body z.1 (frzs env z.2)
theorem zfu {wi : TI} {g : TG} {tb : TS} {f : IF'} {gf : GT} {body : SF} (h1 : SI wi f) (h2 : SG g gf) (h3 : SS tb body) : SS (tFor wi g tb) (sFor f gf body):=by
 intro fx H0 env σ H D h o e q
 unfold sFor at e
 obtain ⟨⟨ds, bs⟩, er, e⟩:=Option.bind_eq_some_iff.mp e
 refine h1 fx H0 env σ H h ds bs er _ fun J H1 s yl=>?_
 have hE:=(h.up s).frzs bs
 have fl:=hE.floor
 refine ⟨fun i m σ' H'=>m = ds.length - i ∧ i ≤ ds.length ∧ ∃ env', forL gf body (ds.drop i) env' = some o ∧ EnvOk fx (Offs (own (frzs env bs) σ) H1) env' σ' H', ⟨ds.length, rfl, Nat.zero_le _, _, e, hE.rebase⟩, ?_⟩
 rintro i m σ' H' ⟨rfl, hi, env', e', h'⟩
 obtain ⟨yi, ys⟩:=yl _ H' h'.all h'.seen
 by_cases hlt : i < ds.length
 ·obtain ⟨yg, yy⟩:=yi i ds[i] (List.getElem?_eq_getElem hlt)
  refine .inr ⟨yg, fun σ'' H''=>i + 1 ≤ ds.length ∧ ∃ env'', forL gf body (ds.drop (i + 1)) env'' = some o ∧ EnvOk fx (Offs (own (frzs env bs) σ) H1) env'' σ'' H'', ?_, ?_⟩
  ·rintro σ'' H'' ⟨hle, env'', e'', h''⟩
   exact ⟨ds.length - (i + 1), by omega, rfl, hle, env'', e'', h''⟩
  ·intro x H'' hy
   obtain ⟨sy, ry⟩:=yy x H'' hy
   rw [List.drop_eq_getElem_cons hlt] at e'
   obtain ⟨e1, ee1, e'⟩:=Option.bind_eq_some_iff.mp e'
   obtain ⟨o1, eo1, e'⟩:=Option.bind_eq_some_iff.mp e'
   refine h2 fx _ env' σ' H'' _ x (h'.up sy) ry e1 ee1 _ fun σ2 h2'=>h3 fx _ e1 σ2 H'' _ h2' o1 eo1 ?_
   cases o1 with
   | nx e2=>exact fun σ3 H3 hh=>⟨hlt, e2, e', hh⟩
   | ct e2=>exact fun σ3 H3 hh=>⟨hlt, e2, e', hh⟩
   | bk e2=>cases e'; exact fun σ3 H3 hh=>q σ3 H3 (hh.unbase fl)
   | rt d fr=>cases e'; exact fun v H3 sh rt=>q v H3 (fl.trans sh) (rt.unbase fl)
 ·have hi' : i = ds.length:=by omega
  subst hi'
  rw [List.drop_length] at e'
  cases e'
  exact .inl ⟨ys, q σ' H' (h'.unbase fl)⟩
noncomputable def zis (c : TF) (body : SF) : Nat → DEnv → Option Out
 | 0, _=>none
 | n + 1, env=>(c env).bind fun b=>if b = true then (body env).bind fun o=>match o with
  | .nx e2=>zis c body n e2
  | .ct e2=>zis c body n e2
  | .bk e2=>some (.nx e2)
  | .rt d fr=>some (.rt d fr)
  else some (.nx env)
theorem zack {tc : TT} {tb : TS} {c : TF} {body : SF} (n : Nat) (h1 : ST tc c) (h2 : SS tb body) : SS (tWhile tc tb) (zis c body n):=by
 intro fx H0 env σ H D h o e q
 refine ⟨fun m σ' H'=>∃ env', zis c body m env' = some o ∧ EnvOk fx H0 env' σ' H', ⟨n, env, e, h⟩, ?_⟩
 rintro m σ' H' ⟨env', e', h'⟩
 cases m with
 | zero=>cases e'
 | succ m =>
  obtain ⟨b, eb, e'⟩:=Option.bind_eq_some_iff.mp e'
  refine h1 fx H0 env' σ' H' h' b eb _ fun H1 s1=>?_
  cases b with
  | false=>cases e'; exact iteF (q σ' H1 (h'.up s1))
  | true =>
   have e' : ((body env').bind fun o=>match o with
    | .nx e2=>zis c body m e2
    | .ct e2=>zis c body m e2
    | .bk e2=>some (.nx e2)
    | .rt d fr=>some (.rt d fr)) = some o:=e'
   obtain ⟨o1, eo1, e'⟩:=Option.bind_eq_some_iff.mp e'
   refine iteT ⟨fun σ'' H''=>∃ env'', zis c body m env'' = some o ∧ EnvOk fx H0 env'' σ'' H'', fun σ'' H'' hh=>⟨m, Nat.lt_succ_self _, hh⟩, ?_⟩
   refine h2 fx H0 env' σ' H1 _ (h'.up s1) o1 eo1 ?_
   cases o1 with
   | nx e2=>exact fun σ3 H3 hh=>⟨e2, e', hh⟩
   | ct e2=>exact fun σ3 H3 hh=>⟨e2, e', hh⟩
   | bk e2=>cases e'; exact fun σ3 H3 hh=>q σ3 H3 hh
   | rt d fr=>cases e'; exact fun v H3 sh rt=>q v H3 sh rt
noncomputable def zpn (n : Nat) (ds : List PyData) : DEnv:=ds.map .pl ++ List.replicate (n - ds.length) .no
noncomputable def fnD (n : Nat) (f : SF) : GF:=fun ds=>match f (zpn n ds) with
 | some (.rt d fr)=>some (d, fr)
 | some (.nx _)=>some (.none, false)
 | _=>none
theorem zxo {ds : List PyData} {n i : Nat} {sl : Sl} (e : (zpn n ds)[i]? = some sl) : (∃ d, ds[i]? = some d ∧ sl = .pl d) ∨ sl = .no:=by
 unfold zpn at e
 by_cases hi : i < ds.length
 ·rw [List.getElem?_append_left (by simpa using hi), List.getElem?_map, List.getElem?_eq_getElem hi] at e
  cases e
  exact .inl ⟨_, List.getElem?_eq_getElem hi, rfl⟩
 ·rw [List.getElem?_append_right (by simpa using hi), List.getElem?_replicate] at e
  split at e
  ·cases e; exact .inr rfl
  ·cases e
theorem zxp {fx : Addr → Prop} {H : Hp} {N : List Str} {ds : List PyData} {vs : List V} (hf : ∀ b, fx b → ∃ o, H b = some o) (r : Rps (Offs fx H) ds vs) : EnvOk fx H (zpn N.length ds) (zqe N vs) H:=by
 have no : ∀ (i : Nat) (d : PyData), (zpn N.length ds)[i]? ≠ some (Sl.ac d):=fun i d e=>by
  rcases zxo e with ⟨d', _, z⟩ | z <;> cases z
 refine ⟨?_, fun i d e=>?_, fun i d e=>absurd e (no i d), fun i j d e a h1=>absurd h1 (no i d), Same.refl _, hf⟩
 ·unfold zpn zqe
  rw [List.length_append, List.length_append, List.length_map, List.length_map, List.length_replicate, List.length_replicate, r.length]
 ·rcases zxo e with ⟨d', hd, z⟩ | z
  ·cases z
   obtain ⟨v, hv, rv⟩:=r.get2 hd
   refine ⟨v, ?_, Rp.same (Offs.sub fun b z=>?_) _ rv⟩
   ·unfold zqe
    have hi : i < vs.length:=(List.getElem?_eq_some_iff.mp hv).1
    rw [List.getElem?_append_left (by simpa using hi), List.getElem?_map, hv]; rfl
   ·rcases z with z | ⟨j, d', z, _⟩
    ·exact z
    ·exact absurd z (no j d')
  ·cases z
theorem fn_d {N : List Str} {n : Nat} {f : SF} {t : TS} (hs : SS t f) {vs : List V} {H : Hp} {Q : VK} {E : XK} (h : spD n (fnD N.length f) vs H Q E) : t { nx:=fun _ H'=>Q .non H', rt:=Q } (zqe N vs) H:=by
 obtain ⟨fx, ds, d, fr, hn, hf, r, g, k⟩:=h
 unfold fnD at g
 split at g
 ·rename_i d' fr' eo
  cases g
  exact hs fx H _ _ H _ (zxp hf r) _ eo fun v H' s rt=>k v H' s rt
 ·rename_i e' eo
  cases g
  exact hs fx H _ _ H _ (zxp hf r) _ eo fun σ H' hE=>k .non H' hE.base ⟨zaef, fun z=>by cases z⟩
 ·cases g
theorem zcf {n : Nat} {g : GF} {vs : List V} {H : Hp} {Q : VK} {E : XK} (h : spD n g vs H Q E) : vs.length = n:=by
 obtain ⟨fx, ds, d, fr, hn, hf, r, _⟩:=h
 rw [← r.length]; exact hn
end L2
namespace L2
open PySem PySem.Spec PyProof.Rows
noncomputable def zanx : Sl → Sl
 | .ac d=>.pl d
 | s=>s
noncomputable def envB (own : List Str) (fr : List Nat) (env : DEnv) : DEnv:=own.map (fun _=>Sl.no) ++ fr.map (fun j=>zanx (env.getD j .no))
noncomputable def isAc : Option Sl → Bool
 | some (.ac _)=>true
 | _=>false
noncomputable def capA (fr : List Nat) (env : DEnv) : List Nat:=fr.filter fun j=>isAc env[j]?
theorem zvg {own : List Str} {fr : List Nat} {env : DEnv} {i : Nat} {d : PyData} (e : (envB own fr env)[i]? = some (.pl d)) : ∃ j k, i = own.length + k ∧ fr[k]? = some j ∧ (env[j]? = some (.pl d) ∨ env[j]? = some (.ac d)):=by
 unfold envB at e
 by_cases hi : i < own.length
 ·rw [List.getElem?_append_left (by simpa using hi), List.getElem?_map, List.getElem?_eq_getElem hi] at e
  cases e
 ·rw [List.getElem?_append_right (by simpa using hi), List.length_map, List.getElem?_map] at e
  cases ej : fr[i - own.length]? with
  | none=>rw [ej] at e; cases e
  | some j =>
   rw [ej] at e
   refine ⟨j, i - own.length, by omega, ej, ?_⟩
   have e : zanx (env.getD j .no) = .pl d:=Option.some.inj e
   rw [List.getD_eq_getElem?_getD] at e
   cases ev : env[j]? with
   | none=>rw [ev] at e; cases e
   | some s =>
    rw [ev] at e
    cases s with
    | no=>cases e
    | pl d'=>cases e; exact .inl rfl
    | ac d'=>cases e; exact .inr rfl
theorem zkc {own : List Str} {fr : List Nat} {env : DEnv} {i : Nat} {d : PyData} : (envB own fr env)[i]? ≠ some (.ac d):=by
 intro e
 unfold envB at e
 by_cases hi : i < own.length
 ·rw [List.getElem?_append_left (by simpa using hi), List.getElem?_map, List.getElem?_eq_getElem hi] at e
  cases e
 ·rw [List.getElem?_append_right (by simpa using hi), List.length_map, List.getElem?_map] at e
  cases ej : fr[i - own.length]? with
  | none=>rw [ej] at e; cases e
  | some j =>
   rw [ej] at e
   have e : zanx (env.getD j .no) = .ac d:=Option.some.inj e
   cases ev : env.getD j .no with
   | no=>rw [ev] at e; cases e
   | pl d'=>rw [ev] at e; cases e
   | ac d'=>rw [ev] at e; cases e
theorem zags {own : List Str} {fr : List Nat} {σ : St} {k j : Nat} {v : V} (hk : fr[k]? = some j) (hv : σ[j]? = some (some v)) : (tau own fr σ)[own.length + k]? = some (some v):=by
 unfold tau
 rw [List.getElem?_append_right (by simp), List.length_map, Nat.add_sub_cancel_left, List.getElem?_map, hk]
 show some (σ.getD j none) = _
 rw [List.getD_eq_getElem?_getD, hv]; rfl
theorem zxq {fx : Addr → Prop} {H0 : Hp} {env : DEnv} {σ : St} {H H1 : Hp} {p : Addr} (h : EnvOk fx H0 env σ H) (s : Same H H1) (hp : H1 p = none) (own : List Str) (fr : List Nat) (bs : List Nat) :
  EnvOk (fun b=>lim fx env σ (bs ++ capA fr env) b ∨ b = p) H1 (envB own fr env) (tau own fr σ) (upd H1 p (.lst [])):=by
 have h1:=h.up s
 have sp : Same H1 (upd H1 p (.lst [])):=Same.new hp
 have so : Same (Offs (fun b=>fx b ∨ L2.own env σ b) H1) (Offs (fun b=>(lim fx env σ (bs ++ capA fr env) b ∨ b = p) ∨ L2.own (envB own fr env) (tau own fr σ) b) (upd H1 p (.lst []))):=Offs.mono sp fun b o e n z=>by
  rcases z with (z | z) | ⟨i, d, z, _⟩
  ·exact n (zrg b z)
  ·rw [z, hp] at e; cases e
  ·exact absurd z zkc
 refine ⟨?_, fun i d e=>?_, fun i d e=>absurd e zkc, fun i j d e a z=>absurd z zkc, sp, fun b z=>?_⟩
 ·unfold envB tau; simp
 ·obtain ⟨j, k, rfl, hk, hj⟩:=zvg e
  rcases hj with hj | hj
  ·obtain ⟨v, h2, h3⟩:=h1.pl j d hj
   exact ⟨v, zags hk h2, Rp.same so _ h3⟩
  ·obtain ⟨a, h2, h3, h4, h5⟩:=h1.ac j d hj
   refine ⟨_, zags hk h2, h5.rp so fun o eo=>?_⟩
   rw [Offs.get]
   ·exact sp _ _ eo
   ·rintro ((z | ⟨i', d', z1, z2, z3⟩) | ⟨i', d', z, _⟩)
    ·rcases z with z | ⟨i', d', z1, z2, z3⟩
     ·exact h4 z
     ·have e2:=h1.inj i' j d' d a z2 hj z3 h2
      subst e2
      refine z1 (List.mem_append_right _ (List.mem_filter.mpr ⟨List.mem_of_getElem? hk, ?_⟩))
      rw [hj]; rfl
    ·rw [hp] at eo; cases eo
    ·exact absurd z zkc
 ·rcases z with z | z
  ·obtain ⟨o, e⟩:=h1.lims _ b z; exact ⟨o, sp b o e⟩
  ·rw [z]; exact ⟨_, zbn⟩
theorem EnvOk.weaken {fx : Addr → Prop} {H0 : Hp} {env e1 : DEnv} {σ : St} {H : Hp} (h : EnvOk fx H0 e1 σ H) (hl : env.length = e1.length) (hp : ∀ (i : Nat) (d : PyData), env[i]? = some (.pl d) → e1[i]? = some (.pl d)) (ha : ∀ (i : Nat) (d : PyData), env[i]? ≠ some (.ac d)) : EnvOk fx H0 env σ H:=by
 refine ⟨hl.trans h.len, fun i d e=>?_, fun i d e=>absurd e (ha i d), fun i j d e a z=>absurd z (ha i d), h.base, h.fxs⟩
 obtain ⟨v, h1, h2⟩:=h.pl i d (hp i d e)
 exact ⟨v, h1, Rp.same (Offs.sub fun b z=>z.imp (fun y=>y) fun ⟨j, d', z, _⟩=>absurd z (ha j d')) _ h2⟩
theorem EnvOk.updFx {fx : Addr → Prop} {H0 : Hp} {env : DEnv} {σ : St} {H : Hp} {p : Addr} {o : HO} (h : EnvOk fx H0 env σ H) (hp : fx p) (h0 : H0 p = none) : EnvOk fx H0 env σ (upd H p o):=by
 have so : Offs (fun b=>fx b ∨ own env σ b) (upd H p o) = Offs (fun b=>fx b ∨ own env σ b) H:=Offs.upd (.inl hp)
 refine ⟨h.len, fun i d e=>?_, fun i d e=>?_, h.inj, fun b u e=>by rw [zcj (zce e h0)]; exact h.base b u e, fun b z=>?_⟩
 ·rw [so]; exact h.pl i d e
 ·obtain ⟨a, h1, h2, h3, h4⟩:=h.ac i d e
  rw [so]
  exact ⟨a, h1, h2, h3, h4.same (Same.refl _) fun u z=>by rw [zcj fun y=>h3 (by rw [y]; exact hp)]; exact z⟩
 ·by_cases e : b = p
  ·rw [e]; exact ⟨_, zbn⟩
  ·obtain ⟨u, hu⟩:=h.fxs b z
   exact ⟨u, by rw [zcj e]; exact hu⟩
noncomputable def GX (n : Nat) (g : GT) : Prop:=∀ d env e1, g d env = some e1 → e1.length = env.length ∧ ∀ i, n ≤ i → e1[i]? = env[i]?
noncomputable def GXs (n : Nat) (g : GTs) : Prop:=∀ ds env e1, g ds env = some e1 → e1.length = env.length ∧ ∀ i, n ≤ i → e1[i]? = env[i]?
theorem zhc {n i : Nat} (h : i < n) : GX n (gN i):=by
 intro d env e1 e
 cases e
 exact ⟨List.length_set, fun j hj=>List.getElem?_set_ne (by omega)⟩
theorem zms {n : Nat} : GXs n zds:=by
 intro ds env e1 e
 cases ds with
 | nil=>cases e; exact ⟨rfl, fun _ _=>rfl⟩
 | cons _ _=>cases e
theorem zew {n i : Nat} {g : GTs} (h : i < n) (hg : GXs n g) : GXs n (zay i g):=by
 intro ds env e1 e
 cases ds with
 | nil=>cases e
 | cons d ds =>
  obtain ⟨h1, h2⟩:=hg ds _ e1 e
  rw [List.length_set] at h1
  exact ⟨h1, fun j hj=>(h2 j hj).trans (List.getElem?_set_ne (by omega))⟩
theorem zrp {n m : Nat} {g : GTs} (hg : GXs n g) : GX n (gT m g):=by
 intro d env e1 e
 unfold gT at e
 cases d with
 | tuple ds =>
  have e : (if ds.length = m then g ds env else none) = some e1:=e
  split at e
  ·exact hg ds env e1 e
  ·cases e
 | _=>cases e
noncomputable def zee (g : GT) (t : TF) (e : EF) (env : DEnv) : List PyData → Option (List PyData)
 | []=>some []
 | d :: ds=>(g d env).bind fun e1=>(t e1).bind fun b=>if b = true then (e e1).bind fun r=>(zee g t e env ds).map fun rs=>r.d :: rs else zee g t e env ds
noncomputable def zdl (own : List Str) (fr : List Nat) (fi : IF') (g : GT) (t : TF) (e : EF) : EF:=fun env=>(fi env).bind fun z=>if z.1.length < 100000 then
 (zee g t e (envB own fr env) z.1).map fun rs=>⟨.list rs, true, if zft rs = true then [] else z.2 ++ capA fr env⟩ else none
theorem zno {H H' : Hp} {ds : List PyData} {vs : List V} (f : zft ds = true) (h : Rps H ds vs) : Rps H' ds vs:=by
 replace h:=zes.mp h
 induction h with
 | nil=>exact zfo
 | cons h _ ih =>
  unfold zft at f
  rw [List.all_cons, Bool.and_eq_true] at f
  exact zfg (zagj f.1 h) (ih f.2)
theorem zef {own : List Str} {fr : List Nat} {wi : TI} {g : TG} {tt : TT} {te : TE} {fi : IF'} {gf : GT} {t : TF} {e : EF} (h1 : SI wi fi) (h2 : SG g gf) (hx : GX own.length gf) (h3 : ST tt t) (h4 : SE te e) :
  SE (tComp1 wi g tt te own fr) (zdl own fr fi gf t e):=by
 intro fx H0 env σ H h rr hr Q q
 unfold zdl at hr
 obtain ⟨⟨ds, bs⟩, ei, hr⟩:=Option.bind_eq_some_iff.mp hr
 split at hr
 ·rename_i hlen
  have hlen : ds.length < 100000:=hlen
  obtain ⟨rs, ers, rfl⟩:=Option.map_eq_some_iff.mp hr
  refine h1 fx H0 env σ H h ds bs ei _ fun J H1 s yl=>fun p hp=>?_
  have hB:=zxq h s hp own fr bs
  generalize hA : (fun b=>lim fx env σ (bs ++ capA fr env) b) = A
  have hA' : ∀ b, lim fx env σ (bs ++ capA fr env) b ↔ A b:=fun b=>by rw [← hA]
  have eA : (fun b=>lim fx env σ (bs ++ capA fr env) b ∨ b = p) = fun b=>A b ∨ b = p:=by rw [← hA]
  rw [eA] at hB
  have nA : ¬ A p:=fun z=>by
   obtain ⟨o, eo⟩:=(h.up s).lims _ p ((hA' p).mpr z)
   rw [hp] at eo; cases eo
  have seen : ∀ {σ' : St} {H' : Hp}, EnvOk (fun b=>A b ∨ b = p) H1 (envB own fr env) σ' H' → Same (Offs (fun b=>fx b ∨ L2.own (frzs env bs) σ b) H1) (Offs (fun b=>A b ∨ b = p) H'):=fun {σ' H'} hE=>Offs.mono hE.base fun b o eo n z=>by
   rcases z with z | z
   ·rcases (hA' b).mpr z with z | ⟨i, d, z1, z2, z3⟩
    ·exact n (.inl z)
    ·exact n (.inr ⟨i, d, znn (fun y=>z1 (List.mem_append_left _ y)) z2, z3⟩)
   ·rw [z, hp] at eo; cases eo
  refine ⟨fun i m σ' H'=>m = ds.length - i ∧ i ≤ ds.length ∧ ∃ vs done rest, H' p = some (.lst vs) ∧ Rps (Offs (fun b=>A b ∨ b = p) H') done vs ∧ done.length ≤ i ∧ zee gf t e (envB own fr env) (ds.drop i) = some rest ∧ done ++ rest = rs ∧ EnvOk (fun b=>A b ∨ b = p) H1 (envB own fr env) σ' H',
   ⟨ds.length, rfl, Nat.zero_le _, [], [], rs, zbn, zfo, Nat.zero_le _, ers, rfl, hB⟩, ?_⟩
  rintro i m σ' H' ⟨rfl, hi, vs, done, rest, ep, rd, dl, ec, edr, hE⟩
  obtain ⟨yi, ys⟩:=yl _ H' hE.fxs (seen hE)
  by_cases hlt : i < ds.length
  ·obtain ⟨yg, yy⟩:=yi i ds[i] (List.getElem?_eq_getElem hlt)
   refine .inr ⟨yg, fun σ'' H''=>i + 1 ≤ ds.length ∧ ∃ vs done rest, H'' p = some (.lst vs) ∧ Rps (Offs (fun b=>A b ∨ b = p) H'') done vs ∧ done.length ≤ i + 1 ∧ zee gf t e (envB own fr env) (ds.drop (i + 1)) = some rest ∧ done ++ rest = rs ∧ EnvOk (fun b=>A b ∨ b = p) H1 (envB own fr env) σ'' H'', ?_, ?_⟩
   ·rintro σ'' H'' ⟨hle, hh⟩
    exact ⟨ds.length - (i + 1), by omega, rfl, hle, hh⟩
   ·intro x H'' hy
    obtain ⟨sy, ry⟩:=yy x H'' hy
    rw [List.drop_eq_getElem_cons hlt] at ec
    obtain ⟨e1, ee1, ec⟩:=Option.bind_eq_some_iff.mp ec
    obtain ⟨b, eb, ec⟩:=Option.bind_eq_some_iff.mp ec
    have ry' : Rp (Offs (fun a=>(A a ∨ a = p) ∨ L2.own (envB own fr env) σ' a) H'') ds[i] x:=Rp.same (Offs.sub fun b z=>z.elim (fun y=>y) fun ⟨j, d', z, _⟩=>absurd z zkc) _ ry
    refine h2 _ H1 (envB own fr env) σ' H'' _ x (hE.up sy) ry' e1 ee1 _ fun σ2 hE2=>?_
    refine h3 _ H1 e1 σ2 H'' hE2 b eb _ fun H3 s3=>?_
    have hE3:=hE2.up s3
    obtain ⟨gl, gk⟩:=hx _ _ _ ee1
    have back : ∀ {H4 : Hp}, EnvOk (fun b=>A b ∨ b = p) H1 e1 σ2 H4 → EnvOk (fun b=>A b ∨ b = p) H1 (envB own fr env) σ2 H4:=fun {H4} hh=>hh.weaken gl.symm (fun j d' ej=>by
     by_cases hj : own.length ≤ j
     ·rw [gk j hj]; exact ej
     ·obtain ⟨_, k, rfl, _⟩:=zvg ej; omega) fun j d'=>zkc
    cases b with
    | false =>
     have ec : zee gf t e (envB own fr env) (ds.drop (i + 1)) = some rest:=ec
     exact iteF ⟨hlt, vs, done, rest, s3 _ _ (sy _ _ ep), Rps.same (Offs.grow (sy.trans s3)) _ rd, Nat.le_succ_of_le dl, ec, edr, back hE3⟩
    | true =>
     have ec : ((e e1).bind fun r=>(zee gf t e (envB own fr env) (ds.drop (i + 1))).map fun rs=>r.d :: rs) = some rest:=ec
     obtain ⟨r, er, ec⟩:=Option.bind_eq_some_iff.mp ec
     obtain ⟨rest', er', rfl⟩:=Option.map_eq_some_iff.mp ec
     refine iteT (h4 _ H1 e1 σ2 H3 hE3 r er _ fun v H4 s4 hv=>?_)
     have t4:=(sy.trans s3).trans s4
     refine ⟨vs, t4 _ _ ep, zrh (by rw [← rd.length]; omega), hlt, vs ++ [v], done ++ [r.d], rest', zbn, ?_, by rw [List.length_append]; simp; omega, er', by rw [← edr]; simp, (back (hE3.up s4)).updFx (.inr rfl) hp⟩
     rw [Offs.upd (.inr rfl)]
     exact (Rps.same (Offs.grow t4) _ rd).append (zfg (Rp.same (Offs.sub fun b z=>.inl z) _ hv.rp) zfo)
  ·have hi' : i = ds.length:=by omega
   subst hi'
   rw [List.drop_length] at ec
   cases ec
   rw [List.append_nil] at edr
   subst edr
   refine .inl ⟨ys, q _ H' (s.trans hE.base) ⟨?_, fun _=>⟨p, rfl, s.free hp, ?_⟩⟩⟩
   ·show Rp (Offs (lim fx env σ (if zft done = true then [] else bs ++ capA fr env)) H') (.list done) (.ref p)
    have nl : ∀ cs, ¬ lim fx env σ cs p:=fun cs z=>by
     obtain ⟨o, eo⟩:=(h.up s).lims _ p z
     rw [hp] at eo; cases eo
    refine zjr (by rw [Offs.get (nl _)]; exact ep) ?_
    split
    ·rename_i f; exact zno f rd
    ·exact Rps.same (Offs.sub fun b z=>.inl ((hA' b).mp z)) _ rd
   ·show zjs (Offs (fun b=>lim fx env σ (if zft done = true then [] else bs ++ capA fr env) b ∨ b = p) H') H' p (.list done)
    refine ⟨vs, ep, ?_⟩
    split
    ·rename_i f; exact zno f rd
    ·exact Rps.same (Offs.sub fun b z=>z.imp (hA' b).mp id) _ rd
 ·cases hr
end L2
namespace L2
open PySem PySem.Spec PyProof.Rows
section
variable {X : Cx} {K : PySem.W.Frag}
theorem zagt (hK : X.K = K) {a : Expr} {ta : TE} (ha : PE X a ta) (he : ∀ whole, isTrue a X.env whole = (do let v ← whole; standAt a.pos; holding [v] (truthy v))) :
  PT X a (fun σ H Q=>ta σ H fun x H'=>∃ k, TruV K x H' k ∧ Q k H'):=by subst hK; exact zajk ha he
theorem zit (hK : X.K = K) : CallR X (.type "tuple") (fun xs H Q=>∃ p ys, xs = [.ref p] ∧ ((SqL K H p ys ∧ ∀ l, H l = none → Q (.ref l) (upd H l (.tup ys))) ∨ (SqT K H p ys ∧ Q (.ref p) H))):=by subst hK; exact zux
theorem zjg (hK : X.K = K) (hu : X.A.units + 64 < cLine) : OpR X (compareOp .Eq) (fun x y H Q=>rEq x y H Q ∨ rEqD K false x y H Q):=by subst hK; exact zarc.or (zaqd hu)
theorem zmi (hK : X.K = K) (hu : X.A.units + 64 < cLine) : OpR X (compareOp .NotEq) (fun x y H Q=>rNe x y H Q ∨ rEqD K true x y H Q):=by subst hK; exact zard.or (zaqe hu)
noncomputable def zdh : TF:=fun _=>some true
theorem ziu : ST tAll zdh:=by
 intro fx H0 env σ H hE b hb Q q
 cases hb
 exact q H (Same.refl _)
end
end L2
namespace PySem
open Sem (wp)
theorem zagu : typeLookup (.type "list") "keys" = pure none:=by rw [typeLookup_type, builtinLookup_eq_fast]; kernel_rfl
theorem ztg {prog : Program} {w : World} {A : Around} {E : Value → Shared → Prop} {s : Shared} {a : Addr} {o : Obj} {xs : Array Value} {k : Nat} {u : Tok} {Q : Value → Shared → Prop}
  (hx : s.heap.get? a = some o) (hc : o.cls = .type "list") (hdat : o.data = .seq xs k) (hd : o.dict = none) (hA : A.handled = none)
  (h : ∀ h' tk e, Heap.NewExcOf s.heap h' e "AttributeError" → E (.ref e) { s with heap:=h', toks:=tk }) :
  wpAny (model prog w) A (getAttrBy (.ref a) (.str "keys" u) false) Q E s:=by
 obtain ⟨c, dct, dat, sl⟩:=o
 simp only at hc hdat hd
 subst hc hdat hd
 obtain ⟨hp, g, d, tk, os⟩:=s
 have hT : ∀ tk', (⟨hp, g, d, tk', os⟩ : Shared).TypeIs (.ref a) "list":=fun _=>⟨_, hx, rfl⟩
 have f1:=sub_AttributeError
 have f3:=F.slot_list_getattribute.lookup
 have f4:=F.slot_list_getattribute.bind (.ref a)
 have f5:=am_list_getattr_none
 unfold getAttrBy
 repeat (any_goals (first | assumption | exact hT _ | ((with_reducible show wpAny _ _ (call (Value.builtin "list.__getattribute__") _ _) _ _ _); refine call_meets F.slot_list_getattribute (hT _) am_entry_list_getattribute (F.args_list_getattribute_2 _ _) (meets_getattribute_miss_list a xs k sl "keys" _ zagu (by decide) (by size_fits)) ⟨hx, hA, fun h' tk' e hx'=>?_⟩) | wp_step))
 obtain ⟨t', u', he⟩:=hx'.there
 show wpAny _ _ (getattributeRaised _ _ _ _ _ _ _) _ _ _
 unfold getattributeRaised
 repeat (any_goals (first | assumption | wp_step))
 exact h _ _ _ hx'.of
theorem zvh {prog : Program} {w : World} {A : Around} {E : Value → Shared → Prop} {s : Shared} {a : Addr} {o : Obj} {xs : Array Value} {k : Nat} {Q : Option Value → Shared → Prop}
  (hx : s.heap.get? a = some o) (hc : o.cls = .type "list") (hdat : o.data = .seq xs k) (hd : o.dict = none) (hA : A.handled = none)
  (h : ∀ h' tk, (∀ b o, s.heap.get? b = some o → h'.get? b = some o) → Q none { s with heap:=h', toks:=tk }) :
  wpAny (model prog w) A (getAttr? (.ref a) "keys") Q E s:=by
 unfold getAttr? getAttrBy?
 refine wpAny_bind (wpAny_mkText (wpAny_bind (wpAny_attempt (ztg (s:={ s with toks:=s.toks + 1 }) hx hc hdat hd hA fun h' tk e x=>?_))))
 obtain ⟨ob, vs, he, hcl, _, _⟩:=x.there
 show wpAny _ _ (do if ← isInstance (.ref e) (.type "AttributeError") then pure none else throw (.ref e)) _ _ _
 refine wpAny_bind (wpAny_isInstance (T:="AttributeError") ⟨ob, he, hcl⟩ sub_AttributeError ?_)
 exact wpAny_pure (h h' tk x.keeps)
theorem zgt : plainId "dict.update.loop" = true:=by decide +kernel
theorem zkw : entryFor table "dict.update.loop" = some Builtin.«dict.update.loop»:=entryFor_of_fast (by kernel_rfl)
end PySem
namespace L2
open PySem PySem.Spec PyProof.Rows
theorem zpo {α β : Type} {F : α → β → Prop} : ∀ {l : List α} {r : List β} {i : Nat} {x : α}, Paired F l r → l[i]? = some x → ∃ y, r[i]? = some y ∧ F x y
 | _, _, _, _, .nil, e=>by simp at e
 | _, _, 0, _, .cons h _, e=>by simp at e; subst e; exact ⟨_, rfl, h⟩
 | _, _, i + 1, x, .cons _ t, e=>by
  obtain ⟨y, h1, h2⟩:=zpo (i:=i) (x:=x) t (by simpa using e)
  exact ⟨y, by simpa using h1, h2⟩
theorem zaej (kvs : List (Key × Value)) (k : Key) (v : Value) : (stored kvs k v).length ≤ kvs.length + 1:=by
 unfold stored
 split
 ·rw [List.length_map]; omega
 ·rw [List.length_append]; simp
noncomputable def _root_.PySem.Heap.IsList0 (h : Heap) (l : Addr) (items : Array Value) : Prop:=∃ o, h.get? l = some o ∧ o.cls = .type "list" ∧ ∃ n, o.data = .seq items n ∧ o.dict = none
noncomputable def zaki (ps : List (Key × Value)) (kvs : List (Key × Value)) : List (Key × Value):=ps.foldl (fun acc p=>stored acc p.1 p.2) kvs
theorem zagv {prog : Program} {w : World} {A : Around} {R : Result → Shared → Prop} {d it l : Addr} {h0 : Heap} {items : List Value} {ps : List (Key × Value)} (hA : A.in1.handled = none)
  (pr : Paired (fun (v : Value) (p : Key × Value)=>∃ t kv, v = .ref t ∧ IsTup h0 t #[kv, p.2] ∧ ztc p.1 kv = true) items ps) (hl : h0.IsList l items.toArray) (hd : h0.get? d = none) (hi : h0.get? it = none) (hdi : d ≠ it) (hz : items.length ≤ sizeLine) :
  ∀ (k i : Nat) (s : Shared) (kvs : List (Key × Value)) (tk : Tok), items.length - i = k → i ≤ items.length → s.heap.IsListIter it l i → s.heap.DictOf (zdd prog w) d kvs → (∀ b o, h0.get? b = some o → s.heap.get? b = some o) → kvs.length ≤ i →
  (∀ h' tk', h'.DictOf (zdd prog w) d (zaki (ps.drop i) kvs) → (∀ b o, h0.get? b = some o → h'.get? b = some o) → R (.ok (.ret .none)) { s with heap:=h', toks:=tk' }) →
  codeAny (model prog w) A (.builtin "dict.update.loop" ⟨[.ref d, .ref it, .int i tk, .none], []⟩) R s:=by
 have hlen:=pr.length
 have keepL : ∀ {h : Heap}, (∀ b o, h0.get? b = some o → h.get? b = some o) → h.IsList l items.toArray:=fun {h} kp=>Heap.IsList.at hl fun o e=>kp _ o e
 intro k
 induction k with
 | zero =>
  intro i s kvs tk hk hile hit hdo kp hkl hR
  have hin : i = items.length:=by omega
  subst hin
  refine codeAny_builtin zkw ?_
  rw [Around.under_plainId zgt _]
  show wpAny _ A.in1 (pyNext (.ref it) >>= _) _ _ s
  refine wpAny_bind (wpAny_pyNext_list_end hA hit (keepL kp) (by simp) fun h' eb=>?_)
  show wpAny _ _ (Builtin.Dict.addKeywords d [] >>= _) _ _ _
  refine wpAny_bind (wpAny_pure (wpAny_pure ?_))
  refine hR h' s.toks ?_ fun b o e=>eb b o (fun z=>by rw [z, hi] at e; cases e) (kp b o e)
  rw [List.drop_of_length_le (by omega)]
  exact hdo.extBut eb hdi
 | succ k ih =>
  intro i s kvs tk hk hile hit hdo kp hkl hR
  have hlt : i < items.length:=by omega
  obtain ⟨p, hp, t, kv, ev, ht, hkey⟩ : ∃ p, ps[i]? = some p ∧ ∃ t kv, items[i] = .ref t ∧ IsTup h0 t #[kv, p.2] ∧ ztc p.1 kv = true:=by
   have:=pr
   obtain ⟨p, h1, h2⟩:=zpo pr (List.getElem?_eq_getElem hlt)
   exact ⟨p, h1, h2⟩
  refine codeAny_builtin zkw ?_
  rw [Around.under_plainId zgt _]
  show wpAny _ A.in1 (pyNext (.ref it) >>= _) _ _ s
  refine wpAny_bind (wpAny_pyNext_list_item hit (keepL kp) (x:=.ref t) (by rw [← ev]; simp [hlt]) fun h1 hit1 sb1=>?_)
  have kp1 : ∀ b o, h0.get? b = some o → h1.get? b = some o:=fun b o e=>(sb1.2 b (fun z=>by rw [z, hi] at e; cases e)).trans (kp b o e)
  have hd1 : h1.DictOf (zdd prog w) d kvs:=hdo.sameBut sb1 hdi
  obtain ⟨ot, g1, g2, n3, g3⟩:=ht
  refine wpAny_bind (wpAny_holding (wpAny_bind (wpAny_tryCatch ?_)))
  unfold Builtin.Dict.pairItems
  refine wpAny_bind (wpAny_typeOf (T:="tuple") ⟨ot, kp1 _ _ g1, g2⟩ ?_)
  rw [if_pos (by decide)]
  refine wpAny_bind (wpAny_seqItems (kp1 _ _ g1) g3 (wpAny_pure ?_))
  show wpAny _ _ (holding [kv, p.2] (dictSet d kv p.2)) _ _ _
  refine wpAny_holding (wpAny_dictSet_pairs (knd:=zdd prog w) (k:=p.1) hkey hd1 (fun h2 hd2 sb2=>?_) (by omega))
  have hit2 : h2.IsListIter it l (i + 1):=by obtain ⟨o, q1, q2, q3⟩:=hit1; exact ⟨o, (sb2.2 _ (Ne.symm hdi)).trans q1, q2, q3⟩
  refine wpAny_pure ⟨plainId_quiet zgt _, ?_⟩
  have kp2 : ∀ b o, h0.get? b = some o → h2.get? b = some o:=fun b o e=>(sb2.2 b (fun z=>by rw [z, hd] at e; cases e)).trans (kp1 b o e)
  refine ih (i + 1) { s with heap:=h2, toks:=s.toks + 1 } (stored kvs p.1 p.2) _ (by omega) hlt hit2 hd2 kp2 ?_ fun h' tk' hd' kp'=>?_
  ·have:=zaej kvs p.1 p.2; omega
  ·refine hR h' tk' ?_ kp'
   have e : ps.drop i = p :: ps.drop (i + 1):=by
    obtain ⟨hh, e⟩:=List.getElem?_eq_some_iff.mp hp
    rw [← e]; exact List.drop_eq_getElem_cons hh
   rw [e]
   exact hd'
theorem zth {prog : Program} {w : World} {A : Around} {E : Value → Shared → Prop} {s : Shared} {l : Addr} {items : List Value} {ps : List (Key × Value)} {Q : Value → Shared → Prop} (hA : A.handled = none)
  (pr : Paired (fun (v : Value) (p : Key × Value)=>∃ t kv, v = .ref t ∧ IsTup s.heap t #[kv, p.2] ∧ ztc p.1 kv = true) items ps) (hl : Heap.IsList0 s.heap l items.toArray) (hz : items.length ≤ sizeLine)
  (h : ∀ h' tk, h'.DictOf (zdd prog w) s.heap.objs.size (zaki ps []) → (∀ b o, s.heap.get? b = some o → h'.get? b = some o) → Q (.ref s.heap.objs.size) { s with heap:=h', toks:=tk }) :
  wpAny (model prog w) A (call (.type "dict") [.ref l]) Q E s:=by
 refine callType_codes (Q₁:=fun obj s₁=>obj = .ref s.heap.objs.size ∧ s₁ = { s with heap:=s.heap.push { cls:=.type "dict", data:=.dict #[] } }) F.kt_called_dict (F.kt_typeCall_dict_1 _) F.entry_dict_init (kt_code_dict_new _ ⟨rfl, rfl⟩) ?_
 rintro obj s₁ ⟨rfl, rfl⟩
 have hnew : (s.heap.push { cls:=.type "dict", data:=.dict #[] }).DictOf (zdd prog w) s.heap.objs.size []:=Heap.DictOf.new s.heap
 obtain ⟨ol, g1, g2, n3, g3, g4⟩:=id hl
 have hl' : (s.heap.push { cls:=.type "dict", data:=.dict #[] }).get? l = some ol:=Heap.get?_push_of_some _ g1
 refine ⟨hnew.typeIs, F.args_dict_init_2 _ _, ?_⟩
 unfold Builtin.«dict.__init__»
 refine wpAny_bind ?_
 unfold Builtin.Dict.selfAndRest
 refine wpAny_bind (wpAny_notOrdered_dict hnew.typeIs ?_)
 show wpAny _ _ (pure (s.heap.objs.size, [Value.ref l])) _ _ _
 refine wpAny_pure ?_
 show wpAny _ _ (Builtin.Dict.updateFrom "dict.__init__" s.heap.objs.size (.ref l) [] .none) _ _ _
 unfold Builtin.Dict.updateFrom
 refine wpAny_bind (wpAny_typeOf (T:="list") ⟨ol, hl', g2⟩ ?_)
 rw [if_pos (by decide)]
 refine wpAny_bind (zvh (s:={ s with heap:=s.heap.push { cls:=.type "dict", data:=.dict #[] } }) hl' g2 g3 g4 hA fun h1 tk1 kp1=>?_)
 rw [if_pos (by rfl)]
 refine wpAny_bind (wpAny_rule ?_)
 have k1 : ∀ b o, s.heap.get? b = some o → h1.get? b = some o:=fun b o e=>kp1 b o (Heap.get?_push_of_some _ e)
 have hd1 : h1.DictOf (zdd prog w) s.heap.objs.size []:=by
  obtain ⟨o, es, ep, q1, q2⟩:=hnew
  exact ⟨o, es, ep, kp1 _ _ q1, q2⟩
 refine wpAny_bind (wpAny_pyIter_list (items:=items.toArray) ⟨ol, k1 _ _ g1, g2, n3, g3⟩ ?_)
 refine wpAny_pure ⟨plainId_quiet zgt _, ?_⟩
 have hsz : s.heap.objs.size < h1.objs.size:=by obtain ⟨o, es, ep, q1, q2⟩:=hd1; exact Heap.lt_size q1
 refine zagv (h0:=s.heap) (by exact hA) pr ⟨ol, g1, g2, n3, g3⟩ (Heap.get?_none_of_le (Nat.le_refl _)) (Heap.get?_none_of_le (Nat.le_of_lt hsz)) (Nat.ne_of_lt hsz) hz items.length 0 _ [] _ rfl (Nat.zero_le _) ⟨_, Heap.get?_push_size _ rfl, rfl, rfl⟩ (hd1.push _) (fun b o e=>Heap.get?_push_of_some _ (k1 b o e)) (Nat.zero_le _) fun h' tk' hd' kp'=>?_
 exact ⟨rfl, h h' tk' hd' kp'⟩
end L2
namespace L2
open PySem PySem.Spec PyProof.Rows
noncomputable def zaqj : List V → Hp → VK → Prop:=fun xs H Q=>∃ p rows kvs, xs = [.ref p] ∧ H p = some (.lst rows) ∧ Paired (fun (v : V) (kv : Key × V)=>∃ t, v = .ref t ∧ H t = some (.tup [kV kv.1, kv.2])) rows kvs ∧ ∀ d, H d = none → Q (.ref d) (upd H d (.dK (zje [] kvs)))
theorem zagw : ∀ {more : List (Key × V)} {ms : List (Key × Value)} {kvs : List (Key × V)} {vs : List (Key × Value)}, KV kvs vs → KV more ms → KV (zje kvs more) (zaki ms vs)
 | _, _, _, _, h, .nil=>h
 | p :: r, q :: s, kvs, vs, h, .cons e t=>by
  obtain ⟨e1, e2⟩:=e
  show KV (zje (putK kvs p.1 p.2) r) (zaki s (stored vs q.1 q.2))
  rw [← e1]
  exact zagw (h.put p.1 e2) t
theorem zagx {X : Cx} {pins : List (Addr × Obj)} {σ : St} {H : Hp} {s : Shared} (I : Inv X pins σ H s) : ∀ {rows : List V} {kvs : List (Key × V)} {its : List Value}, Paired (fun (v : V) (kv : Key × V)=>∃ t, v = .ref t ∧ H t = some (.tup [kV kv.1, kv.2])) rows kvs → Vals rows its →
  ∃ ms : List (Key × Value), KV kvs ms ∧ Paired (fun (v : Value) (p : Key × Value)=>∃ t kv, v = .ref t ∧ IsTup s.heap t #[kv, p.2] ∧ ztc p.1 kv = true) its ms
 | _, _, _, .nil, .nil=>⟨[], .nil, .nil⟩
 | v :: rows, kv :: kvs, u :: its, .cons h t, .cons r rr=>by
  obtain ⟨ms, h1, h2⟩:=zagx I t rr
  obtain ⟨a, rfl, ha⟩:=h
  cases (show u = Value.ref a from r)
  obtain ⟨_, its', rv, ht⟩:=(show zgq X.prog X.w H s.heap a (.tup [kV kv.1, kv.2]) from I.hok a _ ha)
  obtain ⟨k', v', rfl, rk, rv'⟩:=zajl rv
  exact ⟨(kv.1, v') :: ms, .cons ⟨rfl, rv'⟩ h1, .cons ⟨a, k', rfl, ht, zaec (P:=X.prog) (w:=X.w) rk⟩ h2⟩
theorem zaek {X : Cx} (hc : X.calm = true) : CallR X (.type "dict") zaqj:=by
 intro pins s σ H xs us Q I r h
 obtain ⟨p, rows, kvs, rfl, hp, pr, q⟩:=h
 obtain ⟨u, rfl, ru⟩:=zaah r
 cases ru
 obtain ⟨hz, its, n, rv, hg⟩:=(show zgq X.prog X.w H s.heap p (.lst rows) from I.hok p _ hp)
 obtain ⟨ms, h1, h2⟩:=zagx I pr rv
 refine zth (I.ok.hd hc) h2 ⟨_, hg, rfl, n, rfl, rfl⟩ (by rw [← rv.length]; exact hz) fun h' tk hd kp=>?_
 refine ⟨.ref s.heap.objs.size, _, I.laid (t':=tk) kp (Nat.le_refl _) ?_, rfl, q _ (I.hok.fresh (Nat.le_refl _))⟩
 refine zacc ?_ ?_ (zagw .nil h1) hd
 ·refine Nat.le_trans (zid kvs []) ?_
  rw [List.length_nil, Nat.zero_add, ← pr.length]; exact hz
 ·have:=I.big
  exact beq_eq_false_iff_ne.mpr (Nat.ne_of_gt this)
noncomputable def zuf : List PyData → Option (List (PyData × PyData))
 | []=>some []
 | .tuple [k, v] :: r=>(keyD k).bind fun _=>(zuf r).map fun ps=>(k, v) :: ps
 | _=>none
noncomputable def zxr : GF
 | [.list rows]=>(zuf rows).map fun ps=>(.dict (zjo [] ps), true)
 | _=>none
theorem zxs {A : Addr → Prop} {H : Hp} : ∀ {rows : List PyData} {vs : List V} {ps : List (PyData × PyData)}, Rps (Offs A H) rows vs → zuf rows = some ps →
  ∃ kvs : List (Key × V), Rpd (Offs A H) ps kvs ∧ Paired (fun (v : V) (kv : Key × V)=>∃ t, v = .ref t ∧ H t = some (.tup [kV kv.1, kv.2])) vs kvs
 | [], vs, ps, h, e=>by unfold Rps at h; cases e; subst h; exact ⟨[], zku, .nil⟩
 | d :: rows, vs, ps, h, e=>by
  unfold Rps at h
  obtain ⟨v, ws, rfl, h1, h2⟩:=h
  unfold zuf at e
  split at e
  ·rename_i heq; cases heq
  ·rename_i k d' r heq
   cases heq
   obtain ⟨kk, ek, e⟩:=Option.bind_eq_some_iff.mp e
   obtain ⟨ps', ep, rfl⟩:=Option.map_eq_some_iff.mp e
   obtain ⟨kvs, g1, g2⟩:=zxs h2 ep
   obtain ⟨a, xs, rfl, ha, r⟩:=zff h1
   obtain ⟨x, y, rfl, r1, r2⟩:=rps2 r
   rw [zaeg r1 ek] at ha
   exact ⟨(kk, y) :: kvs, zkb ek r2 g1, .cons ⟨a, rfl, zeq ha⟩ g2⟩
  ·cases e
theorem zany : SC zaqj zxr:=by
 intro A H vs ds hA rv d fr e Q q
 unfold zxr at e
 split at e
 ·obtain ⟨ps, he, e⟩:=Option.map_eq_some_iff.mp e
  cases e
  obtain ⟨v, rfl, r1⟩:=rps1 rv
  obtain ⟨p, xs, rfl, h1, r⟩:=zgr r1
  obtain ⟨kvs, g1, g2⟩:=zxs r he
  refine ⟨p, xs, kvs, rfl, zeq h1, g2, fun d hd=>?_⟩
  have m : ∀ {B : Addr → Prop}, (∀ b, B b → A b ∨ b = d) → Rpd (Offs B (upd H d (.dK (zje [] kvs)))) (zjo [] ps) (zje [] kvs):=fun {B} hB=>Rpd.merge zku (Rpd.same (Offs.mono (Same.new hd) fun b o eo n z=>(hB b z).elim n fun y=>by rw [y, hd] at eo; cases eo) _ g1)
  exact q _ _ (Same.new hd) (zlt (by rw [Offs.get (zgs hA hd)]; exact zbn) (m fun b z=>.inl z)) fun _=>⟨d, rfl, hd, ⟨_, zbn, m fun b z=>z⟩⟩
 ·cases e
noncomputable def zmt (i j : Nat) (f : EF) : SF:=fun env=>match env[i]?, env[j]? with
 | some (.ac (.list ds)), some (.ac (.list es))=>(f env).bind fun r=>match r.d with
  | .int k=>if 0 ≤ k ∧ k < 100000 ∧ ds.length < 100000 ∧ i ≠ j then (es[k.toNat]?).bind fun d=>some (.nx ((env.set j (.ac (.list (es.eraseIdx k.toNat)))).set i (.ac (.list (ds ++ [d]))))) else none
  | _=>none
 | _, _=>none
theorem Rps.erase {H : Hp} {ds : List PyData} {vs : List V} (h : Rps H ds vs) (n : Nat) : Rps H (ds.eraseIdx n) (vs.eraseIdx n):=by
 induction n generalizing ds vs with
 | zero =>
  cases ds with
  | nil=>unfold Rps at h; subst h; exact zfo
  | cons d ds=>unfold Rps at h; obtain ⟨v, ws, rfl, h1, h2⟩:=h; exact h2
 | succ n ih =>
  cases ds with
  | nil=>unfold Rps at h; subst h; exact zfo
  | cons d ds=>unfold Rps at h; obtain ⟨v, ws, rfl, h1, h2⟩:=h; exact zfg h1 (ih h2)
theorem zagy {K : PySem.W.Frag} {i j : Nat} {te : TE} {f : EF} (h1 : SE te f) : SS (tDrop (tBM K "list" zaak (tVar i) (tCons (tBM K "list" zalv (tVar j) (tCons te tNil)) tNil))) (zmt i j f):=by
 intro fx H0 env σ H D h o e q
 unfold zmt at e
 split at e
 ·rename_i ds es ei ej
  obtain ⟨⟨rd, rfr, rbs⟩, er, e⟩:=Option.bind_eq_some_iff.mp e
  cases rd with
  | int k =>
   have e : (if 0 ≤ k ∧ k < 100000 ∧ ds.length < 100000 ∧ i ≠ j then (es[k.toNat]?).bind fun d=>some (Out.nx ((env.set j (.ac (.list (es.eraseIdx k.toNat)))).set i (.ac (.list (ds ++ [d]))))) else none) = some o:=e
   split at e
   ·rename_i hl
    obtain ⟨d, ed, e⟩:=Option.bind_eq_some_iff.mp e
    cases e
    obtain ⟨a, g1, g2, g3, g4⟩:=h.ac i _ ei
    obtain ⟨xs, hx, rx⟩:=g4
    obtain ⟨b, k1, k2, k3, k4⟩:=h.ac j _ ej
    obtain ⟨ys, hy, ry⟩:=k4
    have hab : a ≠ b:=fun z=>hl.2.2.2 (h.inj i j _ _ a ei ej g1 (by rw [z]; exact k1))
    refine ⟨_, g1, .inl ⟨rfl, _, SqL.of hx⟩, _, k1, .inl ⟨rfl, _, SqL.of hy⟩, h1 fx H0 env σ H h _ er _ fun v H' s hv=>?_⟩
    cases zgb hv.rp
    have h':=h.up s
    have hy':=s _ _ hy
    have hx':=s _ _ hx
    have ry' : Rps (Offs (fun b=>fx b ∨ own env σ b) H') es ys:=Rps.same (Offs.grow s) _ ry
    have rx' : Rps (Offs (fun b=>fx b ∨ own env σ b) H') ds xs:=Rps.same (Offs.grow s) _ rx
    obtain ⟨u, hu, ru⟩:=ry'.get2 ed
    have hlt : k.toNat < ys.length:=(List.getElem?_eq_some_iff.mp hu).1
    have hsq : seqIndex? k ys.length = some k.toNat:=seqIndex_of hl.1 (by omega)
    refine ⟨b, ys, k, k.toNat, u, rfl, rfl, hy', by omega, by omega, hsq, hu, ?_⟩
    have h2:=h'.mut ej k1 (d':=.list (es.eraseIdx k.toNat)) (o:=.lst (ys.eraseIdx k.toNat)) ⟨_, zbn, ry'.erase _⟩
    have ei2 : (env.set j (.ac (.list (es.eraseIdx k.toNat))))[i]? = some (.ac (.list ds)):=by rw [List.getElem?_set_ne (Ne.symm hl.2.2.2)]; exact ei
    have hx2 : (upd H' b (.lst (ys.eraseIdx k.toNat))) a = some (.lst xs):=by rw [zcj hab]; exact hx'
    obtain ⟨a', z1, _, _, z4⟩:=h2.ac i _ ei2
    rw [g1] at z1
    cases z1
    obtain ⟨zs, y1, y2⟩:=z4
    rw [hx2] at y1
    cases y1
    have ow : Same (Offs (fun b=>fx b ∨ own env σ b) H') (Offs (fun c=>fx c ∨ own (env.set j (.ac (.list (es.eraseIdx k.toNat)))) σ c) (upd H' b (.lst (ys.eraseIdx k.toNat)))):=by
     have t : Same (Offs (fun b=>fx b ∨ own env σ b) (upd H' b (.lst (ys.eraseIdx k.toNat)))) (Offs (fun c=>fx c ∨ own (env.set j (.ac (.list (es.eraseIdx k.toNat)))) σ c) (upd H' b (.lst (ys.eraseIdx k.toNat)))):=Offs.sub fun c z=>z.imp (fun y=>y) fun ⟨m, d1, w1, w2⟩=>by
      rcases zev w1 with ⟨rfl, _⟩ | ⟨_, w1⟩
      ·exact ⟨m, _, ej, w2⟩
      ·exact ⟨m, d1, w1, w2⟩
     rw [Offs.upd (.inr ⟨j, _, ej, k1⟩)] at t
     exact t
    refine ⟨a, xs, u, rfl, rfl, hx2, zrh (by rw [← rx.length]; exact hl.2.2.1), ?_⟩
    exact q σ _ (h2.mut ei2 g1 ⟨_, zbn, y2.append (zfg (Rp.same ow _ ru) zfo)⟩)
   ·cases e
  | _=>cases e
 ·cases e
end L2
namespace L2
open PySem PySem.Spec PyProof.Rows
noncomputable def zbq (i : Nat) (b : EF) : EF:=fun env=>match env[i]? with
 | some (.pl (.dict kvs))=>(b env).bind fun y=>(keyD y.d).bind fun k=>(zmd kvs k).bind fun d=>some ⟨d, false, []⟩
 | some (.ac (.dict kvs))=>(b env).bind fun y=>(keyD y.d).bind fun k=>(zmd kvs k).bind fun d=>some ⟨d, false, []⟩
 | _=>none
theorem zfh {i : Nat} {ty : TE} {fb : EF} (hb : SE ty fb) : SE (tDGet (tVar i) ty) (zbq i fb):=by
 intro fx H0 env σ H h rr hr Q q
 unfold zbq at hr
 have key : ∀ (a : Addr) (ps : List (Key × V)) (kvs : List (PyData × PyData)), σ[i]? = some (some (.ref a)) → H a = some (.dK ps) → Rpd (Offs (fun b=>fx b ∨ own env σ b) H) kvs ps → ((fb env).bind fun y=>(keyD y.d).bind fun k=>(zmd kvs k).bind fun d=>some (⟨d, false, []⟩ : Val)) = some rr → tDGet (tVar i) ty σ H Q:=by
  intro a ps kvs hs ha r hr
  obtain ⟨y, ey, hr⟩:=Option.bind_eq_some_iff.mp hr
  obtain ⟨k, ek, hr⟩:=Option.bind_eq_some_iff.mp hr
  obtain ⟨d, ed, hr⟩:=Option.bind_eq_some_iff.mp hr
  cases hr
  refine ⟨_, hs, hb fx H0 env σ H h _ ey _ fun u H2 s2 v2=>?_⟩
  have g:=(Rpd.same (Offs.grow s2) _ r).get (j:=k)
  rw [ed] at g
  obtain ⟨w, e1, e2⟩:=g
  rw [zaeg v2.rp ek]
  have dg:=DGet.k (k:=k) (s2 _ _ ha)
  rw [e1] at dg
  exact ⟨a, w, rfl, dg, q w H2 s2 ⟨Rp.same (Offs.sub zrg) _ e2, fun z=>by cases z⟩⟩
 split at hr
 ·rename_i kvs ei
  obtain ⟨v, h1, h2⟩:=h.pl i _ ei
  obtain ⟨a, ps, rfl, ha, r⟩:=zor h2
  exact key a ps kvs h1 (zeq ha) r hr
 ·rename_i kvs ei
  obtain ⟨a, h1, h2, h3, ps, ha, r⟩:=h.ac i _ ei
  exact key a ps kvs h1 ha r hr
 ·cases hr
noncomputable def eIxV (i : Nat) (b : EF) : EF:=fun env=>match env[i]? with
 | some (.ac (.list ds))=>(b env).bind fun y=>match y.d with
  | .int k=>(atI ds k).map fun d=>⟨d, false, []⟩
  | _=>none
 | _=>eOp ixD (eVar i) b env
theorem zcg {K : PySem.W.Frag} {i : Nat} {tb : TE} {fb : EF} (hb : SE tb fb) : SE (tOp (rIxU K) (tVar i) tb) (eIxV i fb):=by
 intro fx H0 env σ H h rr hr Q q
 unfold eIxV at hr
 split at hr
 ·rename_i ds ei
  obtain ⟨⟨dy, fy, bys⟩, ey, hr⟩:=Option.bind_eq_some_iff.mp hr
  cases dy with
  | int k =>
   obtain ⟨d, ed, rfl⟩:=Option.map_eq_some_iff.mp hr
   obtain ⟨a, h1, h2, h3, xs, ha, r⟩:=h.ac i _ ei
   refine ⟨_, h1, hb fx H0 env σ H h _ ey _ fun u H2 s2 v2=>?_⟩
   cases zgb v2.rp
   obtain ⟨v, hv, rv⟩:=(Rps.same (Offs.grow s2) _ r).atI ed
   exact ⟨xs, v, .inl (SqL.of (s2 _ _ ha)), hv, q _ H2 s2 ⟨Rp.same (Offs.sub zrg) _ rv, fun z=>by cases z⟩⟩
  | _=>cases hr
 ·exact zbd zanq (zad i) hb fx H0 env σ H h rr hr Q q
end L2
namespace Bc
open PySem L2
noncomputable def zjt : SF:=(sRet (zdl ["name", "elders"] [] (zaw (eVar 0)) (gT 2 (zay 0 (zay 1 zds))) zdh (eVar 0)))
noncomputable def zlu : GF:=fnD 1 zjt
noncomputable def zgu : SF:=(sSeq (sSet 2 (zav 1 zlu (zab (eVar 0) aNil)))
  (sFor (zaw (eVar 1)) (gN 3)
  (sIf (zbh (eOp (inD true) (eVar 3) (eVar 2))) zue sNil)))
noncomputable def zgv : GF:=fnD 4 zgu
noncomputable def zug : SF:=(sSeq (sSet 1 zaeh)
  (sSeq (sFor (zaw (eVar 0)) (gT 2 (zay 2 (zay 3 zds)))
  (sSeq (sSet 4 (eD1 (eVar 2) (eC (.bool true))))
  (sSeq (sFor (zaw (eVar 3)) (gN 5)
  (sUpd 4 (zbq 1 (eVar 5))))
  (sPut 1 (eVar 2) (eVar 4)))))
  (ztf 1)))
noncomputable def zdp : GF:=fnD 6 zug
noncomputable def zxt : SF:=(sSeq (sSet 2 (eLst aNil))
  (sSeq (sFor (zmh (zab (eVar 1) aNil)) (gT 2 (zay 3 (zay 4 zds)))
  (sSeq (sSet 5 (eSl (eVar 1) zeb (zbs (eVar 3))))
  (sSeq (sSet 6 (eOp zde (eIxV 0 (eVar 3)) (eC (.int 5))))
  (sSeq (sSet 7 (eLst aNil))
  (sSeq (sFor (zhy (zab (eCB minD (zab (eOp modD (eIxV 0 (eVar 3)) (eC (.int 5))) (zab (eVar 3) aNil))) aNil)) (gN 8)
  (sSeq (sSet 9 (eOp modD (eVar 6) (eCB lenD (zab (eVar 5) aNil))))
  (sSeq (sSet 6 (eOp zde (eVar 6) (eCB lenD (zab (eVar 5) aNil))))
  (zmt 7 5 (eVar 9)))))
  (sApp 2 (eTup (zab (eVar 4) (zab (eVar 7) aNil)))))))))
  (ztf 2)))
noncomputable def zkx : GF:=fnD 10 zxt
noncomputable def zacl : SF:=(sSeq (sSet 1 zaeh)
  (sSeq (sFor (zaw (eVar 0)) (gT 2 (zay 2 (zay 3 zds)))
  (sSeq (sSet 4 (eLst (zab (eVar 2) aNil)))
  (sSeq (sFor (zaw (eVar 3)) (gN 5)
  (sFor (zaw (zbq 1 (eVar 5))) (gN 6)
  (sIf (zbh (eOp (inD true) (eVar 6) (eVar 4))) (sApp 4 (eVar 6)) sNil)))
  (sPut 1 (eVar 2) (eVar 4)))))
  (ztf 1)))
noncomputable def znp : GF:=fnD 7 zacl
end Bc
namespace Bc
open PySem L2
theorem zdt {α : Type} {enc out : α → PyData} {g : GT} {t : TF} {e : EF} {env : DEnv} (p : α → Bool) : ∀ {l : List α}, (∀ x ∈ l, ∃ e1, g (enc x) env = some e1 ∧ t e1 = some (p x) ∧ (p x = true → ∃ r, e e1 = some r ∧ r.d = out x)) →
  zee g t e env (l.map enc) = some ((l.filter p).map out)
 | [], _=>rfl
 | x :: l, h=>by
  obtain ⟨e1, h1, h2, h3⟩:=h x List.mem_cons_self
  have ih:=zdt (l:=l) p fun y hy=>h y (List.mem_cons_of_mem _ hy)
  rw [List.map_cons]
  unfold zee
  rw [h1, Option.bind_some, h2, Option.bind_some]
  cases hp : p x with
  | false =>
   rw [if_neg Bool.false_ne_true, ih, List.filter_cons, hp]; rfl
  | true =>
   obtain ⟨r, h4, h5⟩:=h3 hp
   rw [if_pos rfl, h4, Option.bind_some, ih, List.filter_cons, hp]
   simp [h5]
theorem zdu {α : Type} {enc out : α → PyData} {g : GT} {t : TF} {e : EF} {env : DEnv} {l : List α} (h : ∀ x ∈ l, ∃ e1, g (enc x) env = some e1 ∧ t e1 = some true ∧ ∃ r, e e1 = some r ∧ r.d = out x) : zee g t e env (l.map enc) = some (l.map out):=by
 have q:=zdt (enc:=enc) (out:=out) (g:=g) (t:=t) (e:=e) (env:=env) (fun _=>true) (l:=l) fun x hx=>let ⟨e1, h1, h2, h3⟩:=h x hx; ⟨e1, h1, h2, fun _=>h3⟩
 rw [q]
 congr 2
 exact List.filter_eq_self.mpr fun _ _=>rfl
theorem zacm {α : Type} {enc : α → PyData} {g : GT} {body : SF} (I : List α → DEnv → Prop) (all : List α) : ∀ (l pre : List α) (env : DEnv), pre ++ l = all → I pre env →
  (∀ pre x post env, pre ++ x :: post = all → I pre env → ∃ e1 e2, g (enc x) env = some e1 ∧ (body e1 = some (.nx e2) ∨ body e1 = some (.ct e2)) ∧ I (pre ++ [x]) e2) → ∃ env', forL g body (l.map enc) env = some (.nx env') ∧ I all env'
 | [], pre, env, hall, h0, hs=>by
  rw [List.append_nil] at hall
  subst hall
  exact ⟨env, rfl, h0⟩
 | x :: l, pre, env, hall, h0, hs=>by
  obtain ⟨e1, e2, h1, h2, h3⟩:=hs pre x l env hall h0
  obtain ⟨env', h4, h5⟩:=zacm I all l (pre ++ [x]) e2 (by rw [← hall]; simp) h3 hs
  refine ⟨env', ?_, h5⟩
  rw [List.map_cons]
  unfold forL
  rw [h1, Option.bind_some]
  rcases h2 with h2 | h2 <;> rw [h2, Option.bind_some] <;> exact h4
theorem zfv {α : Type} {enc : α → PyData} {g : GT} {body : SF} {l : List α} {env : DEnv} (I : List α → DEnv → Prop) (h0 : I [] env) (hs : ∀ pre x post env, pre ++ x :: post = l → I pre env → ∃ e1 e2, g (enc x) env = some e1 ∧ (body e1 = some (.nx e2) ∨ body e1 = some (.ct e2)) ∧ I (pre ++ [x]) e2) :
  ∃ env', forL g body (l.map enc) env = some (.nx env') ∧ I l env':=zacm I l l [] env rfl h0 hs
theorem zrq {α : Type} {enc : α → PyData} {g : GT} {body : SF} (p : α → Bool) (d : PyData) (fr : Bool) (I : DEnv → Prop) : ∀ (l : List α) (env : DEnv), I env →
  (∀ x ∈ l, ∀ env, I env → ∃ e1, g (enc x) env = some e1 ∧ (p x = true → ∃ e2, body e1 = some (.nx e2) ∧ I e2) ∧ (p x = false → body e1 = some (.rt d fr))) →
  (l.all p = true → ∃ env', forL g body (l.map enc) env = some (.nx env') ∧ I env') ∧ (l.all p = false → forL g body (l.map enc) env = some (.rt d fr))
 | [], env, h0, hs=>⟨fun _=>⟨env, rfl, h0⟩, fun h=>by simp at h⟩
 | x :: l, env, h0, hs=>by
  obtain ⟨e1, h1, h2, h3⟩:=hs x List.mem_cons_self env h0
  rw [List.map_cons, List.all_cons]
  unfold forL
  rw [h1, Option.bind_some]
  cases hp : p x with
  | false =>
   rw [h3 hp, Option.bind_some]
   exact ⟨fun h=>by simp at h, fun _=>rfl⟩
  | true =>
   obtain ⟨e2, h4, h5⟩:=h2 hp
   rw [h4, Option.bind_some]
   exact zrq p d fr I l e2 h5 fun y hy=>hs y (List.mem_cons_of_mem _ hy)
theorem zanz {t : TS} {F : SF} (hs : SS t F) {env : DEnv} {σ : St} {H1 : Hp} {Q : VK} {nx : St → Hp → Prop} (hE : EnvOk (fun _=>False) H1 env σ H1) (e : F env = some (.rt (.bool true) false)) (k : ∀ H', Q (.bl true) H') : t { nx:=nx, rt:=Q } σ H1:=by
 refine hs _ H1 env σ H1 _ hE _ e fun v H s rt=>?_
 rw [show v = .bl true from zos rt.1]
 exact k H
noncomputable def zbw (cs : List Int) : PyData:=.list (cs.map .int)
theorem zacn {H : Hp} : ∀ (cs : List Int), Rps H (cs.map .int) (cs.map .int)
 | []=>zfo
 | c :: cs=>zfg zag (zacn cs)
noncomputable def envL (n : Nat) (cs : List Int) : DEnv:=.no :: .pl (zbw cs) :: List.replicate n .no
theorem zaoa {H1 : Hp} {a pc : Addr} {cs : List Int} {n : Nat} (e : H1 pc = some (.lst (cs.map .int))) : EnvOk (fun _=>False) H1 (envL n cs) (some (.ref a) :: some (.ref pc) :: List.replicate n none) H1:=by
 have no : ∀ (i : Nat) (d : PyData), (envL n cs)[i]? ≠ some (Sl.ac d):=fun i d=>by
  unfold envL
  cases i with
  | zero=>simp
  | succ i=>cases i with
   | zero=>simp
   | succ i=>simp [List.getElem?_replicate]
 refine ⟨by unfold envL; simp, fun i d h=>?_, fun i d h=>absurd h (no i d), fun i j d e a h=>absurd h (no i d), Same.refl _, fun b z=>z.elim⟩
 unfold envL at h
 cases i with
 | zero=>simp at h
 | succ i=>cases i with
  | zero =>
   simp at h
   subst h
   refine ⟨.ref pc, rfl, zjr ?_ (zacn cs)⟩
   rw [Offs.get]
   ·exact e
   ·rintro (z | ⟨j, d', z, _⟩)
    ·exact z
    ·exact no j d' z
  | succ i=>simp [List.getElem?_replicate] at h
theorem zaq {f g : SF} {env e1 : DEnv} {o : Option Out} (h : f env = some (.nx e1)) (k : g e1 = o) : sSeq f g env = o:=by unfold sSeq; rw [h]; exact k
theorem zaqk {f g : SF} {env : DEnv} {d : PyData} {fr : Bool} (h : f env = some (.rt d fr)) : sSeq f g env = some (.rt d fr):=by unfold sSeq; rw [h]; rfl
theorem for_list {f : EF} {g : GT} {b : SF} {env : DEnv} {ds : List PyData} {fr : Bool} {bs : List Nat} {o : Option Out} (h : f env = some ⟨.list ds, fr, bs⟩) (k : forL g b ds (frzs env bs) = o) : sFor (zaw f) g b env = o:=by
 unfold sFor zaw; rw [h]; exact k
theorem zic {f : IF'} {g : GT} {b : SF} {env : DEnv} {ds : List PyData} {bs : List Nat} {o : Option Out} (h : f env = some (ds, bs)) (k : forL g b ds (frzs env bs) = o) : sFor f g b env = o:=by
 unfold sFor; rw [h]; exact k
theorem if_t {c : TF} {f g : SF} {env : DEnv} {o : Option Out} (h : c env = some true) (k : f env = o) : sIf c f g env = o:=by unfold sIf; rw [h]; exact k
theorem if_f {c : TF} {f g : SF} {env : DEnv} {o : Option Out} (h : c env = some false) (k : g env = o) : sIf c f g env = o:=by unfold sIf; rw [h]; exact k
theorem zbv {i : Nat} {f : EF} {env : DEnv} {r : Val} (h : f env = some r) : sSet i f env = some (.nx (putV env i r)):=by unfold sSet; rw [h]; rfl
theorem zagz {f : EF} {env : DEnv} {r : Val} (h : f env = some r) : zaei f env = some (.nx env):=by unfold zaei; rw [h]; rfl
theorem zgw {f : EF} {env : DEnv} {d : PyData} {fr : Bool} {bs : List Nat} (h : f env = some ⟨d, fr, bs⟩) : sRet f env = some (.rt d fr):=by unfold sRet; rw [h]; rfl
theorem zbc {n : Nat} {g : GF} {f : AF} {env : DEnv} {rs : List Val} {d : PyData} {fr : Bool} (h : f env = some rs) (hn : rs.length = n) (k : g (zmq rs) = some (d, fr)) : zav n g f env = some ⟨d, fr, bsOf d (bss rs)⟩:=by
 unfold zav; rw [h, Option.bind_some, if_pos hn, k]; rfl
theorem zeo {own : List Str} {fr : List Nat} {fi : IF'} {g : GT} {t : TF} {e : EF} {env : DEnv} {ds : List PyData} {bs : List Nat} {rs : List PyData} (h : fi env = some (ds, bs)) (hl : ds.length < 100000) (k : zee g t e (envB own fr env) ds = some rs) :
  zdl own fr fi g t e env = some ⟨.list rs, true, if zft rs = true then [] else bs ++ capA fr env⟩:=by
 unfold zdl; rw [h, Option.bind_some, if_pos hl, k]; rfl
theorem zgp {n : Nat} {f : SF} {ds : List PyData} {env : DEnv} {d : PyData} {fr : Bool} (h : zpn n ds = env) (e : f env = some (.rt d fr)) : fnD n f ds = some (d, fr):=by
 unfold fnD; rw [h, e]
theorem zaro {n : Nat} {f : SF} {ds : List PyData} {env env' : DEnv} (h : zpn n ds = env) (e : f env = some (.nx env')) : fnD n f ds = some (.none, false):=by
 unfold fnD; rw [h, e]
theorem zxu (n : Int) : neD (.int n) (.int n) = some (.bool false, false):=by
 have e : PyData.eqv (.int n) (.int n) = true:=by unfold PyData.eqv; exact beq_self_eq_true n
 show some (PyData.bool (!PyData.eqv (.int n) (.int n)), false) = _
 rw [e]; rfl
end Bc
namespace Bc
open PySem L2
noncomputable def zac (xs : List Str) : PyData:=.list (xs.map .str)
noncomputable def rowD (p : Str × List Str) : PyData:=.tuple [.str p.1, zac p.2]
noncomputable def webD (W : Web) : PyData:=.list (W.map rowD)
theorem zlv (xs : List Str) : zft (xs.map .str) = true:=by
 unfold zft
 rw [List.all_map]
 exact List.all_eq_true.mpr fun _ _=>rfl
theorem zaco (xs : List Str) (x : Str) : ((xs.map PyData.str).any fun e=>PyData.eqv e (.str x)) = decide (x ∈ xs):=by
 rw [List.any_map, Bool.eq_iff_iff, List.any_eq_true, decide_eq_true_iff]
 constructor
 ·rintro ⟨y, hy, h⟩
  have : y = x:=by simpa [PyData.eqv] using h
  rw [← this]; exact hy
 ·exact fun h=>⟨x, h, by simp [PyData.eqv]⟩
theorem zvi (b : Bool) (xs : List Str) (x : Str) : inD b (.str x) (zac xs) = some (.bool (if b then !decide (x ∈ xs) else decide (x ∈ xs)), false):=by
 unfold inD zac
 simp only [zhv]
 rw [if_pos ⟨rfl, zlv xs⟩, zaco]
theorem zael {W : Web} (hl : W.length < 100000) : zlu [webD W] = some (zac (nm W), true):=by
 have c : zee (gT 2 (zay 0 (zay 1 zds))) zdh (eVar 0) [.no, .no] (W.map rowD) = some (W.map fun p=>PyData.str p.1):=zdu fun p _=>⟨[.pl (.str p.1), .pl (zac p.2)], rfl, rfl, ⟨.str p.1, false, []⟩, rfl, rfl⟩
 have e : zjt [.pl (webD W)] = some (.rt (zac (nm W)) true):=by
  unfold zjt sRet zdl zaw
  simp only [eVar, List.getElem?_cons_zero, Option.bind_some, webD, zhv, Option.map_some, List.length_map]
  rw [if_pos hl]
  show Option.map _ (Option.map _ (zee _ _ _ [.no, .no] _)) = _
  rw [c]
  unfold zac nm
  simp
 show (match zjt [.pl (webD W)] with | some (.rt d fr)=>some (d, fr) | some (.nx _)=>some (.none, false) | _=>none) = _
 rw [e]
theorem zvj {W : Web} (hl : W.length < 100000) {ns : List Str} (h : ∀ n ∈ ns, n ∈ nm W) : zgv [webD W, zac ns] = some (.none, false):=by
 have l : ∃ env', forL (gN 3) (sIf (zbh (eOp (inD true) (eVar 3) (eVar 2))) zue sNil) (ns.map .str) [.pl (webD W), .pl (zac ns), .ac (zac (nm W)), .no] = some (.nx env') ∧ True:=by
  refine zfv (fun _ env=>∃ s, env = [.pl (webD W), .pl (zac ns), .ac (zac (nm W)), s]) ⟨_, rfl⟩ ?_ |>.imp fun _ q=>⟨q.1, trivial⟩
  rintro pre x post env hx ⟨s, rfl⟩
  have hm:=h x (by rw [← hx]; simp)
  refine ⟨_, [.pl (webD W), .pl (zac ns), .ac (zac (nm W)), .pl (.str x)], rfl, .inl ?_, _, rfl⟩
  simp [sIf, zbh, eOp, eVar, sNil, zvi, hm, bsOf, zht]
 obtain ⟨env', l, _⟩:=l
 have e : zgu [.pl (webD W), .pl (zac ns), .no, .no] = some (.nx env'):=by
  unfold zgu sSeq sSet zav sFor zaw
  simp only [zab, aNil, eVar, List.getElem?_cons_zero, List.getElem?_cons_succ, Option.bind_some, Option.map_some, zmq, List.map_cons, List.map_nil, List.length_cons, List.length_nil, zael hl, if_true]
  simp [putV, frzs, bsOf, zac, zht, bss, slOf, zhv]
  exact l
 show (match zgu [.pl (webD W), .pl (zac ns), .no, .no] with | some (.rt d fr)=>some (d, fr) | some (.nx _)=>some (.none, false) | _=>none) = _
 rw [e]
end Bc
namespace Bc
open PySem L2
noncomputable def insS (ks : List Str) (k : Str) : List Str:=if k ∈ ks then ks else ks ++ [k]
noncomputable def upL (acc : List (Str × List Str)) (e : Str) : List Str:=(acc.lookup e).getD []
noncomputable def zkd (acc : List (Str × List Str)) (p : Str × List Str) : List (Str × List Str):=acc ++ [(p.1, p.2.foldl (fun ks e=>(upL acc e).foldl insS ks) [p.1])]
noncomputable def ups (W : Web) : List (Str × List Str):=W.foldl zkd []
noncomputable def up (W : Web) (n : Str) : List Str:=upL (ups W) n
theorem zke (W : Web) (p : Str × List Str) : ups (W ++ [p]) = zkd (ups W) p:=by unfold ups; rw [List.foldl_append]; rfl
theorem zakj {ks : List Str} {k x : Str} : x ∈ insS ks k ↔ x ∈ ks ∨ x = k:=by
 unfold insS
 split
 ·rename_i h
  exact ⟨.inl, fun z=>z.elim id fun e=>e ▸ h⟩
 ·simp
theorem znq {x : Str} : ∀ {ms ks : List Str}, x ∈ ms.foldl insS ks ↔ x ∈ ks ∨ x ∈ ms
 | [], ks=>by simp
 | m :: ms, ks=>by
  rw [List.foldl_cons, znq, zakj]
  simp [or_assoc]
theorem zaob {ks : List Str} {k : Str} (h : ks.Nodup) : (insS ks k).Nodup:=by
 unfold insS
 split
 ·exact h
 ·rename_i hk; exact zaam h hk
theorem zvk : ∀ {ms ks : List Str}, ks.Nodup → (ms.foldl insS ks).Nodup
 | [], _, h=>h
 | _ :: ms, _, h=>zvk (ms:=ms) (zaob h)
theorem zrr {acc : List (Str × List Str)} {x : Str} : ∀ {es ks : List Str}, x ∈ es.foldl (fun ks e=>(upL acc e).foldl insS ks) ks ↔ x ∈ ks ∨ ∃ e ∈ es, x ∈ upL acc e
 | [], ks=>by simp
 | e :: es, ks=>by
  rw [List.foldl_cons, zrr, znq]
  simp [or_assoc]
theorem zacp {acc : List (Str × List Str)} : ∀ {es ks : List Str}, ks.Nodup → (es.foldl (fun ks e=>(upL acc e).foldl insS ks) ks).Nodup
 | [], _, h=>h
 | _ :: es, _, h=>zacp (es:=es) (zvk h)
theorem zih {l : List (Str × List Str)} {n : Str} {p : Str × List Str} : (l ++ [p]).lookup n = (l.lookup n).or (if n == p.1 then some p.2 else none):=by
 induction l with
 | nil =>
  obtain ⟨a, b⟩:=p
  show List.lookup n [(a, b)] = _
  rw [List.lookup_cons]
  cases n == a <;> rfl
 | cons q l ih =>
  obtain ⟨a, b⟩:=q
  rw [List.cons_append, List.lookup_cons, List.lookup_cons]
  cases n == a with
  | true=>rfl
  | false=>exact ih
theorem zov {α : Type} {P : List α → Prop} (h0 : P []) (hs : ∀ l x, P l → P (l ++ [x])) : ∀ l, P l:=by
 intro l
 have : ∀ n (l : List α), l.length = n → P l:=by
  intro n
  induction n with
  | zero=>intro l e; rw [List.length_eq_zero_iff.mp e]; exact h0
  | succ n ih =>
   intro l e
   have hne : l ≠ []:=fun z=>by rw [z] at e; cases e
   rw [← List.dropLast_concat_getLast hne]
   exact hs _ _ (ih _ (by rw [List.length_dropLast, e]; rfl))
 exact this _ l rfl
theorem zhq : ∀ (W : Web), (ups W).map (·.1) = nm W:=by
 refine zov rfl fun W p ih=>?_
 rw [zke]
 unfold zkd nm
 rw [List.map_append, List.map_append, ih]
 rfl
theorem zmu (W : Web) (p : Str × List Str) : nm (W ++ [p]) = nm W ++ [p.1]:=by unfold nm; rw [List.map_append]; rfl
theorem zhd {W : Web} {p : Str × List Str} (h : WebOk (W ++ [p])) : WebOk W ∧ p.1 ∉ nm W ∧ (∀ e ∈ p.2, e ∈ nm W) ∧ p.2.length ≤ 4:=by
 have hp : (W ++ [p])[W.length]? = some p:=by simp
 refine ⟨⟨?_, fun i n es e=>?_, fun q hq=>h.few q (List.mem_append_left _ hq), ?_⟩, ?_, fun e he=>?_, h.few p (by simp)⟩
 ·have:=h.nd; rw [zmu] at this; exact (List.nodup_append.mp this).1
 ·have hi : i < W.length:=(List.getElem?_eq_some_iff.mp e).1
  have q:=h.el i n es (by rw [List.getElem?_append_left hi]; exact e)
  rw [List.take_append_of_le_length (by omega)] at q
  exact q
 ·have:=h.len; simp at this; omega
 ·have:=h.nd
  rw [zmu] at this
  intro hm
  exact (List.nodup_append.mp this).2.2 p.1 hm p.1 (by simp) rfl
 ·have q:=h.el W.length p.1 p.2 hp e he
  rw [List.take_append_of_le_length (Nat.le_refl _), List.take_length] at q
  exact q
theorem zhe {l : List (Str × List Str)} {n : Str} (h : n ∈ l.map (·.1)) : ∃ ks, l.lookup n = some ks ∧ (n, ks) ∈ l:=by
 induction l with
 | nil=>simp at h
 | cons q l ih =>
  obtain ⟨a, b⟩:=q
  rw [List.lookup_cons]
  cases e : n == a with
  | true=>rw [eq_of_beq e]; exact ⟨b, rfl, List.mem_cons_self⟩
  | false =>
   have hn : n ≠ a:=beq_eq_false_iff_ne.mp e
   rcases List.mem_cons.mp h with z | z
   ·exact absurd z hn
   ·obtain ⟨ks, h1, h2⟩:=ih z
    exact ⟨ks, h1, List.mem_cons_of_mem _ h2⟩
theorem zow {W : Web} {p : Str × List Str} {m : Str} (h : m ∈ nm W) : up (W ++ [p]) m = up W m:=by
 unfold up upL
 rw [zke]
 unfold zkd
 obtain ⟨ks, e, _⟩:=zhe (l:=ups W) (n:=m) (by rw [zhq]; exact h)
 rw [zih, e]
 rfl
theorem zrs {l : List (Str × List Str)} {n : Str} (h : n ∉ l.map (·.1)) : l.lookup n = none:=by
 induction l with
 | nil=>rfl
 | cons q l ih =>
  obtain ⟨a, b⟩:=q
  rw [List.lookup_cons]
  have h1 : n ≠ a:=fun z=>h (by simp [z])
  rw [beq_eq_false_iff_ne.mpr h1]
  exact ih fun z=>h (List.mem_cons_of_mem _ z)
theorem zamb {W : Web} {p : Str × List Str} (h : p.1 ∉ nm W) : up (W ++ [p]) p.1 = p.2.foldl (fun ks e=>(upL (ups W) e).foldl insS ks) [p.1]:=by
 unfold up upL
 rw [zke]
 unfold zkd
 rw [zih, zrs (by rw [zhq]; exact h)]
 simp [upL]
theorem zaql {W : Web} {n : Str} {es : List Str} (h : (n, es) ∈ W) : n ∈ nm W:=List.mem_map.mpr ⟨_, h, rfl⟩
theorem zvl {W : Web} (h : WebOk W) {n : Str} {es : List Str} (hm : (n, es) ∈ W) : ∀ e ∈ es, e ∈ nm W:=fun e he=>by
 obtain ⟨i, hi, e'⟩:=List.getElem_of_mem hm
 have q:=h.el i n es (by rw [List.getElem?_eq_getElem hi, e']) e he
 obtain ⟨p, h1, h2⟩:=List.mem_map.mp q
 exact List.mem_map.mpr ⟨p, List.mem_of_mem_take h1, h2⟩
theorem zamc {x : Str} : ∀ {W : Web}, WebOk W → ∀ {n : Str} {es : List Str}, (n, es) ∈ W → (x ∈ up W n ↔ x = n ∨ ∃ e ∈ es, x ∈ up W e):=by
 intro W
 refine zov (P:=fun W=>WebOk W → ∀ {n : Str} {es : List Str}, (n, es) ∈ W → (x ∈ up W n ↔ x = n ∨ ∃ e ∈ es, x ∈ up W e)) (fun _ n es h=>nomatch h) (fun W p ih h n es hm=>?_) W
 obtain ⟨hW, hp, hel, _⟩:=zhd h
 rcases List.mem_append.mp hm with hm | hm
 ·rw [zow (zaql hm), ih hW hm]
  have : (∃ e ∈ es, x ∈ up W e) ↔ ∃ e ∈ es, x ∈ up (W ++ [p]) e:=by
   constructor
   ·rintro ⟨e, he, hx⟩; exact ⟨e, he, by rw [zow (zvl hW hm e he)]; exact hx⟩
   ·rintro ⟨e, he, hx⟩; exact ⟨e, he, by rw [zow (zvl hW hm e he)] at hx; exact hx⟩
  rw [this]
 ·have e : (n, es) = p:=by simpa using hm
  subst e
  rw [zamb hp, zrr]
  have : (∃ e ∈ es, x ∈ upL (ups W) e) ↔ ∃ e ∈ es, x ∈ up (W ++ [(n, es)]) e:=by
   constructor
   ·rintro ⟨e, he, hx⟩; exact ⟨e, he, by rw [zow (hel e he)]; exact hx⟩
   ·rintro ⟨e, he, hx⟩; exact ⟨e, he, by rw [zow (hel e he)] at hx; exact hx⟩
  rw [this]
  simp
theorem zaoc {W : Web} (h : WebOk W) {n : Str} (hn : n ∈ nm W) : n ∈ up W n:=by
 obtain ⟨⟨m, es⟩, h1, h2⟩:=List.mem_map.mp hn
 cases h2
 exact (zamc h h1).mpr (.inl rfl)
theorem zacq : ∀ {W : Web}, WebOk W → ∀ {n x : Str}, x ∈ up W n → x ∈ nm W:=by
 intro W
 refine zov (P:=fun W=>WebOk W → ∀ {n x : Str}, x ∈ up W n → x ∈ nm W) (fun _ n x h=>by simp [up, ups, upL] at h) (fun W p ih h n x hx=>?_) W
 obtain ⟨hW, hp, hel, _⟩:=zhd h
 rw [zmu]
 by_cases hn : n ∈ nm W
 ·rw [zow hn] at hx
  exact List.mem_append_left _ (ih hW hx)
 ·by_cases e : n = p.1
  ·rw [e, zamb hp, zrr] at hx
   rcases hx with hx | ⟨e', _, hx⟩
   ·exact List.mem_append_right _ (by simpa using hx)
   ·exact List.mem_append_left _ (ih hW hx)
  ·unfold up upL at hx
   rw [zke] at hx
   unfold zkd at hx
   rw [zih, zrs (by rw [zhq]; exact hn), beq_eq_false_iff_ne.mpr e] at hx
   simp at hx
theorem zarp : ∀ {W : Web} {n : Str}, (up W n).Nodup:=by
 intro W
 refine zov (P:=fun W=>∀ {n : Str}, (up W n).Nodup) (fun {n}=>by simp [up, ups, upL]) (fun W p ih n=>?_) W
 unfold up upL
 rw [zke]
 unfold zkd
 rw [zih]
 cases e : (ups W).lookup n with
 | some ks =>
  have q:=ih (n:=n)
  unfold up upL at q
  rw [e] at q
  exact q
 | none =>
  show ((if n == p.1 then some _ else none).getD []).Nodup
  split
  ·exact zacp (by simp)
  ·exact List.nodup_nil
theorem zaha {W : Web} (h : WebOk W) (n : Str) : (up W n).length ≤ 12:=by
 have:=zks _ (nm W) (zarp (W:=W) (n:=n)) fun x hx=>zacq h hx
 have:=zre h
 omega
noncomputable def dS (f : List Str → PyData) (l : List (Str × List Str)) : List (PyData × PyData):=l.map fun p=>(.str p.1, f p.2)
theorem zkf (f : List Str → PyData) (n : Str) : ∀ l : List (Str × List Str), zmd (dS f l) (Sum.inr n) = (l.lookup n).map f
 | []=>rfl
 | (a, b) :: l=>by
  have ih:=zkf f n l
  show (if keyD (.str a) = some (Sum.inr n) then some (f b) else zmd (dS f l) (Sum.inr n)) = _
  rw [List.lookup_cons]
  by_cases e : a = n
  ·subst e; rw [if_pos (show keyD (.str a) = some (Sum.inr a) from rfl), beq_self_eq_true]; rfl
  ·rw [if_neg (show ¬ keyD (.str a) = some (Sum.inr n) from fun z=>e (Sum.inr.inj (Option.some.inj z))), beq_eq_false_iff_ne.mpr (Ne.symm e)]
   exact ih
theorem zrt (f : List Str → PyData) {l : List (Str × List Str)} {n : Str} {ks : List Str} (h : n ∉ l.map (·.1)) : zqf (dS f l) (.str n) (f ks) = dS f (l ++ [(n, ks)]):=by
 unfold zqf dS
 rw [if_neg, List.map_append]
 ·rfl
 ·intro z
  rw [List.any_map, List.any_eq_true] at z
  obtain ⟨p, hp, e⟩:=z
  have e:=of_decide_eq_true e
  exact h (List.mem_map.mpr ⟨p, hp, Sum.inr.inj (Option.some.inj e)⟩)
noncomputable def zjc (ks : List Str) : List (PyData × PyData):=ks.map fun k=>(.str k, .bool true)
noncomputable def zbi (ks : List Str) : PyData:=.dict (zjc ks)
theorem zxv (x : Str) : ∀ ks : List Str, zaap (zjc ks) (Sum.inr x) = decide (x ∈ ks)
 | []=>by simp [zjc, zaap, zmd]
 | k :: ks=>by
  have ih:=zxv x ks
  unfold zaap at ih ⊢
  show (if keyD (.str k) = some (Sum.inr x) then some (PyData.bool true) else zmd (zjc ks) (Sum.inr x)).isSome = _
  by_cases e : k = x
  ·subst e; rw [if_pos (show keyD (.str k) = some (Sum.inr k) from rfl)]; simp
  ·rw [if_neg (show ¬ keyD (.str k) = some (Sum.inr x) from fun z=>e (Sum.inr.inj (Option.some.inj z))), ih]
   have : ¬ x = k:=fun z=>e z.symm
   simp [this]
theorem zahb (ks : List Str) (k : Str) : zqf (zjc ks) (.str k) (.bool true) = zjc (insS ks k):=by
 have ha : ((zjc ks).any fun kv=>decide (keyD kv.1 = keyD (.str k))) = decide (k ∈ ks):=by
  unfold zjc
  rw [List.any_map, Bool.eq_iff_iff, List.any_eq_true, decide_eq_true_iff]
  constructor
  ·rintro ⟨y, hy, h⟩
   have h:=of_decide_eq_true h
   have : y = k:=Sum.inr.inj (Option.some.inj h)
   rw [← this]; exact hy
  ·exact fun h=>⟨k, h, decide_eq_true rfl⟩
 unfold zqf insS
 rw [ha]
 by_cases hk : k ∈ ks
 ·rw [if_pos (decide_eq_true hk), if_pos hk]
  unfold zjc
  rw [List.map_map]
  refine List.map_congr_left fun y _=>?_
  show (if keyD (PyData.str y) = keyD (.str k) then (PyData.str y, PyData.bool true) else (PyData.str y, PyData.bool true)) = _
  split <;> rfl
 ·rw [if_neg (by simpa using hk), if_neg hk]
  unfold zjc
  rw [List.map_append]; rfl
theorem zmv : ∀ (ms ks : List Str), zjo (zjc ks) (zjc ms) = zjc (ms.foldl insS ks)
 | [], _=>rfl
 | m :: ms, ks=>by
  show zjo (zqf (zjc ks) (.str m) (.bool true)) (zjc ms) = _
  rw [zahb, zmv ms]; rfl
theorem zacr {α : Type} {pre post : List α} {x : α} {l : List α} (h : pre ++ x :: post = l) : l = (pre ++ [x]) ++ post:=by rw [← h]; simp
theorem zxw : ∀ {post W : Web}, WebOk (W ++ post) → WebOk W:=by
 intro post
 refine zov (P:=fun post=>∀ {W : Web}, WebOk (W ++ post) → WebOk W) (fun {W} h=>by rwa [List.append_nil] at h) (fun post p ih W h=>?_) post
 rw [← List.append_assoc] at h
 exact ih (zhd h).1
theorem zlw {W : Web} (h : WebOk W) : zdp [webD W] = some (.dict (dS zbi (ups W)), true):=by
 have inner : ∀ (V : Web) (p : Str × List Str) (es pre : List Str) (s5 : Sl), WebOk (V ++ [p]) → pre ++ es = p.2 →
   ∃ s5', forL (gN 5) (sUpd 4 (zbq 1 (eVar 5))) (es.map .str) [.pl (webD W), .ac (.dict (dS zbi (ups V))), .pl (.str p.1), .pl (zac p.2), .ac (zbi (pre.foldl (fun ks e=>(upL (ups V) e).foldl insS ks) [p.1])), s5] =
    some (.nx [.pl (webD W), .ac (.dict (dS zbi (ups V))), .pl (.str p.1), .pl (zac p.2), .ac (zbi (p.2.foldl (fun ks e=>(upL (ups V) e).foldl insS ks) [p.1])), s5']):=by
  intro V p es
  induction es with
  | nil=>intro pre s5 _ e; rw [List.append_nil] at e; subst e; exact ⟨s5, rfl⟩
  | cons e es ih =>
   intro pre s5 hV hp
   obtain ⟨hV', hn, hel, hfew⟩:=zhd hV
   have he : e ∈ nm V:=hel e (by rw [← hp]; simp)
   obtain ⟨ks, lk, _⟩:=zhe (l:=ups V) (n:=e) (by rw [zhq]; exact he)
   have eup : upL (ups V) e = ks:=by unfold upL; rw [lk]; rfl
   have l1 : ks.length ≤ 12:=by rw [← eup]; exact zaha hV' e
   have sub : ∀ x ∈ pre.foldl (fun ks e=>(upL (ups V) e).foldl insS ks) [p.1], x ∈ nm (V ++ [p]):=fun x hx=>by
    rw [zmu]
    rcases zrr.mp hx with z | ⟨e', _, z⟩
    ·exact List.mem_append_right _ (by simpa using z)
    ·exact List.mem_append_left _ (zacq hV' z)
   have l2 : (pre.foldl (fun ks e=>(upL (ups V) e).foldl insS ks) [p.1]).length ≤ 12:=by
    have:=zks _ _ (zacp (acc:=ups V) (es:=pre) (ks:=[p.1]) (by simp)) sub
    have:=zre hV
    omega
   obtain ⟨s5', q⟩:=ih (pre ++ [e]) (.pl (.str e)) hV (by rw [← hp]; simp)
   refine ⟨s5', ?_⟩
   rw [List.map_cons]
   unfold forL
   simp only [gN, Option.bind_some, List.set_cons_succ, List.set_cons_zero]
   have b : sUpd 4 (zbq 1 (eVar 5)) [.pl (webD W), .ac (.dict (dS zbi (ups V))), .pl (.str p.1), .pl (zac p.2), .ac (zbi (pre.foldl (fun ks e=>(upL (ups V) e).foldl insS ks) [p.1])), .pl (.str e)] =
     some (.nx [.pl (webD W), .ac (.dict (dS zbi (ups V))), .pl (.str p.1), .pl (zac p.2), .ac (zbi ((pre ++ [e]).foldl (fun ks e=>(upL (ups V) e).foldl insS ks) [p.1])), .pl (.str e)]):=by
    have lz : (zjc (pre.foldl (fun ks e=>(upL (ups V) e).foldl insS ks) [p.1])).length + (zjc ks).length ≤ 100000:=by unfold zjc; rw [List.length_map, List.length_map]; omega
    simp only [sUpd, zbi, zbq, eVar, List.getElem?_cons_succ, List.getElem?_cons_zero, Option.bind_some, keyD, zkf, lk, Option.map_some]
    rw [if_pos ⟨lz, by simp⟩, zmv]
    simp [frzs, List.foldl_append, eup]
   rw [b, Option.bind_some]
   exact q
 have outer : ∃ env', forL (gT 2 (zay 2 (zay 3 zds))) (sSeq (sSet 4 (eD1 (eVar 2) (eC (.bool true)))) (sSeq (sFor (zaw (eVar 3)) (gN 5) (sUpd 4 (zbq 1 (eVar 5)))) (sPut 1 (eVar 2) (eVar 4)))) (W.map rowD) [.pl (webD W), .ac (.dict []), .no, .no, .no, .no] = some (.nx env') ∧
   ∃ s2 s3 s4 s5, env' = [.pl (webD W), .ac (.dict (dS zbi (ups W))), s2, s3, s4, s5]:=by
  refine zfv (fun pre env=>∃ s2 s3 s4 s5, env = [.pl (webD W), .ac (.dict (dS zbi (ups pre))), s2, s3, s4, s5]) ⟨_, _, _, _, rfl⟩ ?_
  rintro pre p post env hp ⟨s2, s3, s4, s5, rfl⟩
  have hV : WebOk (pre ++ [p]):=zxw (post:=post) (by rw [← zacr hp]; exact h)
  obtain ⟨hV', hn, hel, hfew⟩:=zhd hV
  obtain ⟨s5', q⟩:=inner pre p p.2 [] s5 hV rfl
  refine ⟨[.pl (webD W), .ac (.dict (dS zbi (ups pre))), .pl (.str p.1), .pl (zac p.2), s4, s5], [.pl (webD W), .ac (.dict (dS zbi (ups (pre ++ [p])))), .pl (.str p.1), .pl (zac p.2), .pl (zbi (p.2.foldl (fun ks e=>(upL (ups pre) e).foldl insS ks) [p.1])), s5'], rfl, .inl ?_, _, _, _, _, rfl⟩
  have lz : (dS zbi (ups pre)).length < 100000:=by
   unfold dS
   rw [List.length_map, ← List.length_map (f:=(·.1)), zhq]
   have:=zre hV'
   omega
  have st : sSet 4 (eD1 (eVar 2) (eC (.bool true))) [.pl (webD W), .ac (.dict (dS zbi (ups pre))), .pl (.str p.1), .pl (zac p.2), s4, s5] = some (.nx [.pl (webD W), .ac (.dict (dS zbi (ups pre))), .pl (.str p.1), .pl (zac p.2), .ac (zbi [p.1]), s5]):=by
   simp [sSet, eD1, eVar, eC, keyD, putV, frzs, slOf, zbi, zjc]
  have pt : sPut 1 (eVar 2) (eVar 4) [.pl (webD W), .ac (.dict (dS zbi (ups pre))), .pl (.str p.1), .pl (zac p.2), .ac (zbi (p.2.foldl (fun ks e=>(upL (ups pre) e).foldl insS ks) [p.1])), s5'] =
    some (.nx [.pl (webD W), .ac (.dict (dS zbi (ups (pre ++ [p])))), .pl (.str p.1), .pl (zac p.2), .pl (zbi (p.2.foldl (fun ks e=>(upL (ups pre) e).foldl insS ks) [p.1])), s5']):=by
   simp only [sPut, eVar, List.getElem?_cons_succ, List.getElem?_cons_zero, Option.bind_some, keyD]
   rw [if_pos ⟨lz, by simp⟩, zrt zbi (by rw [zhq]; exact hn), zke]
   simp [frzs, frz1, zkd]
  exact zaq st (zaq (for_list rfl q) pt)
 obtain ⟨env', hl, s2, s3, s4, s5, rfl⟩:=outer
 exact zgp (env:=[.pl (webD W), .no, .no, .no, .no, .no]) rfl (zaq rfl (zaq (for_list rfl hl) rfl))
theorem zahc {W : Web} {A B C : Sl} {D E : Sl} : ∀ (ms ks : List Str) (s6 : Sl), ks.length + ms.length < 100000 → ∃ s6', forL (gN 6) (sIf (zbh (eOp (inD true) (eVar 6) (eVar 4))) (sApp 4 (eVar 6)) sNil) (ms.map .str) [A, B, C, D, .ac (zac ks), E, s6] = some (.nx [A, B, C, D, .ac (zac (ms.foldl insS ks)), E, s6'])
 | [], ks, s6, _=>⟨s6, rfl⟩
 | m :: ms, ks, s6, hl=>by
  have step : sIf (zbh (eOp (inD true) (eVar 6) (eVar 4))) (sApp 4 (eVar 6)) sNil [A, B, C, D, .ac (zac ks), E, .pl (.str m)] = some (.nx [A, B, C, D, .ac (zac (insS ks m)), E, .pl (.str m)]):=by
   by_cases hm : m ∈ ks
   ·refine if_f ?_ ?_
    ·simp [zbh, eOp, eVar, zvi, hm]
    ·rw [show insS ks m = ks from if_pos hm]; rfl
   ·refine if_t ?_ ?_
    ·simp [zbh, eOp, eVar, zvi, hm]
    ·have lz : (ks.map PyData.str).length < 100000:=by rw [List.length_map]; simp at hl; omega
     simp only [sApp, zac, eVar, List.getElem?_cons_succ, List.getElem?_cons_zero, Option.bind_some]
     rw [if_pos ⟨lz, by simp⟩]
     simp [frzs, insS, hm]
  have hl2 : (insS ks m).length + ms.length < 100000:=by
   have : (insS ks m).length ≤ ks.length + 1:=by unfold insS; split <;> simp
   simp at hl; omega
  obtain ⟨s6', q⟩:=zahc (W:=W) ms (insS ks m) (.pl (.str m)) hl2
  refine ⟨s6', ?_⟩
  rw [List.map_cons]
  unfold forL
  simp only [gN, Option.bind_some, List.set_cons_succ, List.set_cons_zero]
  rw [step, Option.bind_some]
  exact q
theorem zakk {W : Web} (h : WebOk W) : znp [webD W] = some (.dict (dS zac (ups W)), true):=by
 have inner : ∀ (V : Web) (p : Str × List Str) (es pre : List Str) (s5 s6 : Sl), WebOk (V ++ [p]) → pre ++ es = p.2 →
   ∃ s5' s6', forL (gN 5) (sFor (zaw (zbq 1 (eVar 5))) (gN 6) (sIf (zbh (eOp (inD true) (eVar 6) (eVar 4))) (sApp 4 (eVar 6)) sNil)) (es.map .str) [.pl (webD W), .ac (.dict (dS zac (ups V))), .pl (.str p.1), .pl (zac p.2), .ac (zac (pre.foldl (fun ks e=>(upL (ups V) e).foldl insS ks) [p.1])), s5, s6] =
    some (.nx [.pl (webD W), .ac (.dict (dS zac (ups V))), .pl (.str p.1), .pl (zac p.2), .ac (zac (p.2.foldl (fun ks e=>(upL (ups V) e).foldl insS ks) [p.1])), s5', s6']):=by
  intro V p es
  induction es with
  | nil=>intro pre s5 s6 _ e; rw [List.append_nil] at e; subst e; exact ⟨s5, s6, rfl⟩
  | cons e es ih =>
   intro pre s5 s6 hV hp
   obtain ⟨hV', hn, hel, hfew⟩:=zhd hV
   have he : e ∈ nm V:=hel e (by rw [← hp]; simp)
   obtain ⟨ks, lk, _⟩:=zhe (l:=ups V) (n:=e) (by rw [zhq]; exact he)
   have eup : upL (ups V) e = ks:=by unfold upL; rw [lk]; rfl
   have l1 : ks.length ≤ 12:=by rw [← eup]; exact zaha hV' e
   have sub : ∀ x ∈ pre.foldl (fun ks e=>(upL (ups V) e).foldl insS ks) [p.1], x ∈ nm (V ++ [p]):=fun x hx=>by
    rw [zmu]
    rcases zrr.mp hx with z | ⟨e', _, z⟩
    ·exact List.mem_append_right _ (by simpa using z)
    ·exact List.mem_append_left _ (zacq hV' z)
   have l2 : (pre.foldl (fun ks e=>(upL (ups V) e).foldl insS ks) [p.1]).length ≤ 12:=by
    have:=zks _ _ (zacp (acc:=ups V) (es:=pre) (ks:=[p.1]) (by simp)) sub
    have:=zre hV
    omega
   obtain ⟨s6', q1⟩:=zahc (W:=W) (A:=.pl (webD W)) (B:=.ac (.dict (dS zac (ups V)))) (C:=.pl (.str p.1)) (D:=.pl (zac p.2)) (E:=.pl (.str e)) ks (pre.foldl (fun ks e=>(upL (ups V) e).foldl insS ks) [p.1]) s6 (by omega)
   obtain ⟨s5', s6'', q⟩:=ih (pre ++ [e]) (.pl (.str e)) s6' hV (by rw [← hp]; simp)
   refine ⟨s5', s6'', ?_⟩
   rw [List.map_cons]
   unfold forL
   simp only [gN, Option.bind_some, List.set_cons_succ, List.set_cons_zero]
   have gd : zbq 1 (eVar 5) [.pl (webD W), .ac (.dict (dS zac (ups V))), .pl (.str p.1), .pl (zac p.2), .ac (zac (pre.foldl (fun ks e=>(upL (ups V) e).foldl insS ks) [p.1])), .pl (.str e), s6] = some ⟨zac ks, false, []⟩:=by
    simp [zbq, eVar, keyD, zkf, lk]
   rw [for_list gd q1, Option.bind_some]
   rw [List.foldl_append, List.foldl_cons, List.foldl_nil, eup] at q
   exact q
 have outer : ∃ env', forL (gT 2 (zay 2 (zay 3 zds))) (sSeq (sSet 4 (eLst (zab (eVar 2) aNil))) (sSeq (sFor (zaw (eVar 3)) (gN 5) (sFor (zaw (zbq 1 (eVar 5))) (gN 6) (sIf (zbh (eOp (inD true) (eVar 6) (eVar 4))) (sApp 4 (eVar 6)) sNil))) (sPut 1 (eVar 2) (eVar 4)))) (W.map rowD) [.pl (webD W), .ac (.dict []), .no, .no, .no, .no, .no] = some (.nx env') ∧
   ∃ s2 s3 s4 s5 s6, env' = [.pl (webD W), .ac (.dict (dS zac (ups W))), s2, s3, s4, s5, s6]:=by
  refine zfv (fun pre env=>∃ s2 s3 s4 s5 s6, env = [.pl (webD W), .ac (.dict (dS zac (ups pre))), s2, s3, s4, s5, s6]) ⟨_, _, _, _, _, rfl⟩ ?_
  rintro pre p post env hp ⟨s2, s3, s4, s5, s6, rfl⟩
  have hV : WebOk (pre ++ [p]):=zxw (post:=post) (by rw [← zacr hp]; exact h)
  obtain ⟨hV', hn, hel, hfew⟩:=zhd hV
  obtain ⟨s5', s6', q⟩:=inner pre p p.2 [] s5 s6 hV rfl
  refine ⟨[.pl (webD W), .ac (.dict (dS zac (ups pre))), .pl (.str p.1), .pl (zac p.2), s4, s5, s6], [.pl (webD W), .ac (.dict (dS zac (ups (pre ++ [p])))), .pl (.str p.1), .pl (zac p.2), .pl (zac (p.2.foldl (fun ks e=>(upL (ups pre) e).foldl insS ks) [p.1])), s5', s6'], rfl, .inl ?_, _, _, _, _, _, rfl⟩
  have lz : (dS zac (ups pre)).length < 100000:=by
   unfold dS
   rw [List.length_map, ← List.length_map (f:=(·.1)), zhq]
   have:=zre hV'
   omega
  have pt : sPut 1 (eVar 2) (eVar 4) [.pl (webD W), .ac (.dict (dS zac (ups pre))), .pl (.str p.1), .pl (zac p.2), .ac (zac (p.2.foldl (fun ks e=>(upL (ups pre) e).foldl insS ks) [p.1])), s5', s6'] =
    some (.nx [.pl (webD W), .ac (.dict (dS zac (ups (pre ++ [p])))), .pl (.str p.1), .pl (zac p.2), .pl (zac (p.2.foldl (fun ks e=>(upL (ups pre) e).foldl insS ks) [p.1])), s5', s6']):=by
   simp only [sPut, eVar, List.getElem?_cons_succ, List.getElem?_cons_zero, Option.bind_some, keyD]
   rw [if_pos ⟨lz, by simp⟩, zrt zac (by rw [zhq]; exact hn), zke]
   simp [frzs, frz1, zkd]
  exact zaq rfl (zaq (for_list rfl q) pt)
 obtain ⟨env', hl, s2, s3, s4, s5, s6, rfl⟩:=outer
 exact zgp (env:=[.pl (webD W), .no, .no, .no, .no, .no, .no]) rfl (zaq rfl (zaq (for_list rfl hl) rfl))
end Bc
namespace Bc
open PySem L2
noncomputable def ltr (i : Int) : Str:=⟨#[97 + i.toNat]⟩
noncomputable def Low (x : Str) : Prop:=∀ c ∈ x.cps.toList, c < 128
theorem znr {x : Str} (h : Low x) : PyData.strOk x = true:=by
 unfold PyData.strOk
 rw [← Array.all_toList, List.all_eq_true]
 intro c hc
 have:=h c hc
 exact decide_eq_true (by omega)
theorem zkg (a b : Str) : (a ++ b).cps.toList = a.cps.toList ++ b.cps.toList:=by
 show (a.cps ++ b.cps).toList = _
 simp
theorem Low.app {a b : Str} (h1 : Low a) (h2 : Low b) : Low (a ++ b):=fun c hc=>by
 rw [zkg] at hc
 exact (List.mem_append.mp hc).elim (h1 c) (h2 c)
theorem Low.slice {x : Str} (h : Low x) (l u : Option Int) : Low (Txt.slice x l u):=fun c hc=>by
 unfold Txt.slice at hc
 split at hc
 ·exact h c hc
 ·have hc : c ∈ (List.filterMap (x.cps[·]?) (Builtin.Str.strSliceIndices l u 1 x.length)):=by simpa using hc
  obtain ⟨i, _, e⟩:=List.mem_filterMap.mp hc
  exact h c (by
   have:=Array.mem_of_getElem? e
   simpa using this)
theorem Low.ltr {i : Int} (h0 : 0 ≤ i) (h1 : i < 26) : Low (ltr i):=fun c hc=>by
 have : c = 97 + i.toNat:=by simpa [Bc.ltr] using hc
 omega
theorem zxx (c : Nat) : ∀ (n : Nat) (acc : Array Nat), ((List.replicate n #[c]).foldl (· ++ ·) acc).toList = acc.toList ++ List.replicate n c
 | 0, acc=>by simp
 | n + 1, acc=>by
  rw [List.replicate_succ, List.foldl_cons, zxx c n, List.replicate_succ]
  simp
theorem zns {c : Nat} {n : Int} (h : 0 ≤ n) : (Txt.mul ⟨#[c]⟩ n).cps.toList = List.replicate n.toNat c:=by
 unfold Txt.mul
 split
 ·have : n.toNat = 0:=by omega
  rw [this]; rfl
 ·split
  ·rename_i h1 h2
   have : n = 1:=by
    rcases Bool.or_eq_true_iff.mp h2 with z | z
    ·exact eq_of_beq z
    ·exact absurd z (by simp [Str.length])
   subst this
   rfl
  ·rw [zxx]; rfl
theorem Low.mul {c : Nat} (hc : c < 128) {n : Int} (h : 0 ≤ n) : Low (Txt.mul ⟨#[c]⟩ n):=fun d hd=>by
 rw [zns h] at hd
 rw [List.eq_of_mem_replicate hd]; exact hc
theorem zaod {c : Nat} {n : Int} (h : 0 ≤ n) : (Txt.mul ⟨#[c]⟩ n).length = n.toNat:=by
 have:=congrArg List.length (zns (c:=c) h)
 rw [List.length_replicate] at this
 simpa [Str.length] using this
noncomputable def zkq (md o st : Int) (stem : Str) (at_ : Int) (k : Nat) : Str :=
 if md = 0 then Txt.slice stem none (some at_) ++ ltr ((o + st * k) % 26) ++ Txt.slice stem (some at_) none
 else if md = 1 then Txt.slice stem none (some (k * st % (stem.length + 1))) ++ ltr ((o + st * k) % 26)
 else Txt.mul (ltr ((o + k / 8) % 26)) (1 + k * st % 8)
theorem zahd {x y : Int} (hx : 0 ≤ x) (hy : 0 ≤ y) (h : 97 + x.toNat = 97 + y.toNat) : x = y:=by
 rw [← Int.toNat_of_nonneg hx, ← Int.toNat_of_nonneg hy, Nat.add_left_cancel h]
theorem zahe {i j : Int} (h0 : 0 ≤ i) (h1 : 0 ≤ j) (h : ltr i = ltr j) : i = j:=by
 unfold ltr at h
 have : #[97 + i.toNat] = #[97 + j.toNat]:=by injection h
 have : [97 + i.toNat] = [97 + j.toNat]:=congrArg Array.toList this
 exact zahd h0 h1 (List.cons.inj this).1
theorem zxy : ∀ st ∈ ([1, 3, 5, 7, 9, 11, 15, 17] : List Nat), ∀ a < 16, ∀ b < 16, st * a % 26 = st * b % 26 → a = b:=by decide +kernel
theorem zacs {o st : Int} (hs : st ∈ ([1, 3, 5, 7, 9, 11, 15, 17] : List Int)) {a b : Nat} (ha : a < 16) (hb : b < 16) (h : (o + st * a) % 26 = (o + st * b) % 26) : a = b:=by
 have h2:=Int.emod_add_cancel_left.mp h
 simp only [List.mem_cons, List.mem_nil_iff, or_false] at hs
 rcases hs with rfl | rfl | rfl | rfl | rfl | rfl | rfl | rfl
 ·exact zxy 1 (by decide) a ha b hb (by exact_mod_cast h2)
 ·exact zxy 3 (by decide) a ha b hb (by exact_mod_cast h2)
 ·exact zxy 5 (by decide) a ha b hb (by exact_mod_cast h2)
 ·exact zxy 7 (by decide) a ha b hb (by exact_mod_cast h2)
 ·exact zxy 9 (by decide) a ha b hb (by exact_mod_cast h2)
 ·exact zxy 11 (by decide) a ha b hb (by exact_mod_cast h2)
 ·exact zxy 15 (by decide) a ha b hb (by exact_mod_cast h2)
 ·exact zxy 17 (by decide) a ha b hb (by exact_mod_cast h2)
theorem zvm {x : Int} (hx : 0 ≤ x) : (1 + x).toNat = x.toNat + 1:=by
 obtain ⟨n, rfl⟩:=Int.eq_ofNat_of_zero_le hx
 rw [Int.add_comm]; rfl
theorem zaqm {x y : Int} (hx : 0 ≤ x) (hy : 0 ≤ y) (h : (1 + x).toNat = (1 + y).toNat) : x = y:=by
 rw [zvm hx, zvm hy] at h
 rw [← Int.toNat_of_nonneg hx, ← Int.toNat_of_nonneg hy, Nat.succ.inj h]
theorem tab8 : ∀ st ∈ ([1, 3, 5, 7, 9, 11, 15, 17] : List Nat), ∀ a < 16, ∀ b < 16, a / 8 = b / 8 → a * st % 8 = b * st % 8 → a = b:=by decide +kernel
theorem zahf {o st : Int} (hs : st ∈ ([1, 3, 5, 7, 9, 11, 15, 17] : List Int)) {a b : Nat} (ha : a < 16) (hb : b < 16) (h : (o + (a : Int) / 8) % 26 = (o + (b : Int) / 8) % 26) (h2 : (a : Int) * st % 8 = b * st % 8) : a = b:=by
 have q1 : a / 8 = b / 8:=by omega
 simp only [List.mem_cons, List.mem_nil_iff, or_false] at hs
 rcases hs with rfl | rfl | rfl | rfl | rfl | rfl | rfl | rfl
 ·exact tab8 1 (by decide) a ha b hb q1 (by exact_mod_cast h2)
 ·exact tab8 3 (by decide) a ha b hb q1 (by exact_mod_cast h2)
 ·exact tab8 5 (by decide) a ha b hb q1 (by exact_mod_cast h2)
 ·exact tab8 7 (by decide) a ha b hb q1 (by exact_mod_cast h2)
 ·exact tab8 9 (by decide) a ha b hb q1 (by exact_mod_cast h2)
 ·exact tab8 11 (by decide) a ha b hb q1 (by exact_mod_cast h2)
 ·exact tab8 15 (by decide) a ha b hb q1 (by exact_mod_cast h2)
 ·exact tab8 17 (by decide) a ha b hb q1 (by exact_mod_cast h2)
theorem zahg {md o st at_ : Int} {stem : Str} (hs : st ∈ ([1, 3, 5, 7, 9, 11, 15, 17] : List Int)) (ho : 0 ≤ o) {a b : Nat} (ha : a < 16) (hb : b < 16) (h : zkq md o st stem at_ a = zkq md o st stem at_ b) : a = b:=by
 have st0 : 0 ≤ st:=by
  simp only [List.mem_cons, List.mem_nil_iff, or_false] at hs
  rcases hs with rfl | rfl | rfl | rfl | rfl | rfl | rfl | rfl <;> decide
 have n26 : ∀ z : Int, 0 ≤ z % 26:=fun z=>Int.emod_nonneg z (by decide)
 unfold zkq at h
 by_cases h0 : md = 0
 ·rw [if_pos h0, if_pos h0] at h
  have q:=congrArg (fun x : Str=>x.cps.toList) h
  simp only [zkg] at q
  have q2:=List.append_cancel_right q
  have q3:=List.append_cancel_left q2
  have q4 : ltr ((o + st * a) % 26) = ltr ((o + st * b) % 26):=by
   unfold ltr at q3 ⊢
   congr 1
   exact Array.toList_inj.mp q3
  exact zacs hs ha hb (zahe (n26 _) (n26 _) q4)
 ·rw [if_neg h0, if_neg h0] at h
  by_cases h1 : md = 1
  ·rw [if_pos h1, if_pos h1] at h
   have q:=congrArg (fun x : Str=>x.cps.toList) h
   simp only [zkg] at q
   have q3:=(List.append_inj' q (by simp [ltr])).2
   have q4 : ltr ((o + st * a) % 26) = ltr ((o + st * b) % 26):=by
    unfold ltr at q3 ⊢
    congr 1
    exact Array.toList_inj.mp q3
   exact zacs hs ha hb (zahe (n26 _) (n26 _) q4)
  ·rw [if_neg h1, if_neg h1] at h
   have m8 : ∀ z : Int, 0 ≤ z % 8:=fun z=>Int.emod_nonneg z (by decide)
   have q : (Txt.mul (ltr ((o + (a : Int) / 8) % 26)) (1 + a * st % 8)).cps.toList = (Txt.mul (ltr ((o + (b : Int) / 8) % 26)) (1 + b * st % 8)).cps.toList:=by rw [h]
   have ea : ∀ k : Nat, (Txt.mul (ltr ((o + (k : Int) / 8) % 26)) (1 + k * st % 8)).cps.toList = List.replicate (1 + (k : Int) * st % 8).toNat (97 + ((o + (k : Int) / 8) % 26).toNat):=fun k=>zns (by have:=m8 (k * st); omega)
   rw [ea a, ea b] at q
   have ql:=congrArg List.length q
   rw [List.length_replicate, List.length_replicate] at ql
   have w1:=m8 (a * st)
   have w2:=m8 (b * st)
   have hh : (97 + ((o + (a : Int) / 8) % 26).toNat) = (97 + ((o + (b : Int) / 8) % 26).toNat):=by
    have c1 : (1 + (a : Int) * st % 8).toNat = ((a : Int) * st % 8).toNat + 1:=zvm w1
    have c2 : (1 + (b : Int) * st % 8).toNat = ((b : Int) * st % 8).toNat + 1:=zvm w2
    rw [c1, c2, List.replicate_succ, List.replicate_succ] at q
    exact (List.cons.inj q).1
   have z1:=n26 (o + (a : Int) / 8)
   have z2:=n26 (o + (b : Int) / 8)
   exact zahf (o:=o) hs ha hb (zahd z1 z2 hh) (zaqm w1 w2 ql)
theorem zru {α : Type} {f : Nat → α} {n : Nat} (h : ∀ a b, a < n → b < n → f a = f b → a = b) : ((List.range n).map f).Nodup:=by
 rw [List.nodup_iff_pairwise_ne, List.pairwise_map]
 refine List.Pairwise.imp_of_mem ?_ (List.pairwise_lt_range (n:=n))
 intro a b ha hb hab e
 have:=h a b (List.mem_range.mp ha) (List.mem_range.mp hb) e
 omega
theorem zahh {md o st at_ : Int} {stem : Str} (hl : Low stem) (ho : 0 ≤ o) (hst : 0 ≤ st) (k : Nat) : Low (zkq md o st stem at_ k):=by
 have n26 : ∀ z : Int, 0 ≤ z % 26 ∧ z % 26 < 26:=fun z=>⟨Int.emod_nonneg z (by decide), Int.emod_lt_of_pos z (by decide)⟩
 unfold zkq
 split
 ·exact ((hl.slice _ _).app (Low.ltr (n26 _).1 (n26 _).2)).app (hl.slice _ _)
 ·split
  ·exact (hl.slice _ _).app (Low.ltr (n26 _).1 (n26 _).2)
  ·have:=Int.emod_nonneg ((k : Int) * st) (show (8 : Int) ≠ 0 by decide)
   exact Low.mul (by have:=n26 (o + (k : Int) / 8); omega) (by omega)
end Bc
namespace Bc
open PySem L2
noncomputable abbrev vi (i : Int) : Val:=⟨.int i, false, []⟩
noncomputable abbrev vs (x : Str) : Val:=⟨.str x, false, []⟩
noncomputable abbrev vb (b : Bool) : Val:=⟨.bool b, false, []⟩
section
variable {a b : EF} {env : DEnv} {i j : Int}
theorem zii (ha : a env = some (vi i)) (hb : b env = some (vi j)) (h : 0 < j) : eOp modD a b env = some (vi (i % j)):=by
 unfold eOp; rw [ha, hb]; simp [modD, intD, h, bsOf, zht]
theorem zky (ha : a env = some (vi i)) (hb : b env = some (vi j)) (h : 0 < j) (h2 : j < 1073741824) : eOp zde a b env = some (vi (i / j)):=by
 unfold eOp; rw [ha, hb]; simp [zde, intD, h, h2, bsOf, zht]
theorem zti (ha : a env = some (vi i)) (hb : b env = some (vi j)) : eOp addD a b env = some (vi (i + j)):=by
 unfold eOp; rw [ha, hb]; simp [addD, bsOf, zht]
theorem zahi (ha : a env = some (vi i)) (hb : b env = some (vi j)) : eOp subD a b env = some (vi (i - j)):=by
 unfold eOp; rw [ha, hb]; simp [subD, intD, bsOf, zht]
theorem zakl (ha : a env = some (vi i)) (hb : b env = some (vi j)) (h : (-(2 ^ 64) < i ∧ i < 2 ^ 64) ∨ (-(2 ^ 64) < j ∧ j < 2 ^ 64)) : eOp mulD a b env = some (vi (i * j)):=by
 unfold eOp; rw [ha, hb]
 simp only [Option.bind_some, mulD]
 rw [if_pos h]; simp [bsOf, zht]
theorem zxz (ha : a env = some (vi i)) (hb : b env = some (vi j)) : eOp eqD a b env = some (vb (i == j)):=by
 unfold eOp; rw [ha, hb]; rfl
theorem zahj {x y : Str} (ha : a env = some (vs x)) (hb : b env = some (vs y)) (h : x.length + y.length ≤ 100000) : eOp addD a b env = some (vs (x ++ y)):=by
 unfold eOp; rw [ha, hb]
 simp only [Option.bind_some, addD]
 rw [if_pos h]; simp [bsOf, zht]
theorem zamd {x : Str} (ha : a env = some (vs x)) (hb : b env = some (vi j)) (h : x.length ≤ 1000 ∧ -1000 ≤ j ∧ j ≤ 1000) : eOp mulD a b env = some (vs (Txt.mul x j)):=by
 unfold eOp; rw [ha, hb]
 simp only [Option.bind_some, mulD]
 rw [if_pos h]; simp [bsOf, zht]
theorem zaoe {x : Str} {l h : PF'} {lo hi : Option Int} (ha : a env = some (vs x)) (hl : l env = some lo) (hh : h env = some hi) (hz : x.length ≤ 100000) : eSl a l h env = some (vs (Txt.slice x lo hi)):=by
 unfold eSl; rw [ha, hl, hh]
 simp only [Option.bind_some, slD]
 rw [if_pos hz]; simp [bsOf, zht]
theorem zkz (ha : a env = some (vi i)) : zbs a env = some (some i):=by unfold zbs; rw [ha]; rfl
theorem zez {c : Bool} (ha : a env = some (vb c)) : zbh a env = some c:=by unfold zbh; rw [ha]; rfl
theorem zdv {r : Val} (ha : a env = some r) : zab a aNil env = some [r]:=by unfold zab aNil; rw [ha]; rfl
theorem zame {x : Str} (ha : a env = some (vs x)) (hz : x.length ≤ 100000) : eCB lenD (zab a aNil) env = some (vi x.length):=by
 unfold eCB
 rw [zdv ha]
 simp [zmq, lenD, hz, bsOf, zht]
theorem zrv {ds : List PyData} {fr : Bool} {bs : List Nat} (ha : a env = some ⟨.list ds, fr, bs⟩) : eCB lenD (zab a aNil) env = some (vi ds.length):=by
 unfold eCB
 rw [zdv ha]
 simp [zmq, lenD, bsOf, zht]
theorem zaaq {k n : Nat} {b : EF} {ds : List PyData} {d : PyData} (he : env[k]? = some (.pl (.list ds))) (hb : b env = some (vi (n : Int))) (hd : ds[n]? = some d) : eIxV k b env = some ⟨d, false, []⟩:=by
 unfold eIxV
 rw [he]
 unfold eOp eVar
 rw [he, hb]
 simp only [Option.bind_some, ixD]
 rw [zoo hd]
 simp [bsOf]
theorem zaqn {k n : Nat} {b : EF} {ds : List PyData} {d : PyData} (he : env[k]? = some (.ac (.list ds))) (hb : b env = some (vi (n : Int))) (hd : ds[n]? = some d) : eIxV k b env = some ⟨d, false, []⟩:=by
 unfold eIxV
 rw [he]
 simp only
 rw [hb]
 simp only [Option.bind_some]
 rw [zoo hd]; rfl
end
noncomputable def abc : Str:="abcdefghijklmnopqrstuvwxyz"
theorem zaof : (List.range 26).all (fun i=>abc.cps.toList[i]? == some (97 + i)) = true:=by decide +kernel
theorem zaog : abc.length = 26:=by decide +kernel
theorem zaqo {i : Int} (h0 : 0 ≤ i) (h1 : i < 26) : atI abc.cps.toList i = some (97 + i.toNat):=by
 have q:=List.all_eq_true.mp zaof i.toNat (List.mem_range.mpr (by omega))
 have e : ((i.toNat : Nat) : Int) = i:=by omega
 rw [← e]
 have z:=zoo (eq_of_beq q)
 rw [e] at z ⊢
 exact z
theorem zaoh {k : Nat} {b : EF} {env : DEnv} {i : Int} (he : env[k]? = some (.pl (.str abc))) (hb : b env = some (vi i)) (h0 : 0 ≤ i) (h1 : i < 26) : eIxV k b env = some (vs (ltr i)):=by
 unfold eIxV
 rw [he]
 unfold eOp eVar
 rw [he, hb]
 simp only [Option.bind_some, ixD]
 rw [if_pos (by rw [zaog]; decide), zaqo h0 h1]
 simp [bsOf, zht, ltr]
theorem zaqp {α β : Type} (f : α → β) {l : List α} {n : Nat} {x : α} (h : l[n]? = some x) : atI (l.map f) (n : Int) = some (f x):=zoo (by rw [List.getElem?_map, h]; rfl)
theorem zaoi {i : Int} (h0 : 0 ≤ i) (h1 : i < 8) : ∃ st : Int, atI [PyData.int 1, .int 3, .int 5, .int 7, .int 9, .int 11, .int 15, .int 17] i = some (.int st) ∧ st ∈ ([1, 3, 5, 7, 9, 11, 15, 17] : List Int):=by
 obtain ⟨n, rfl⟩:=Int.eq_ofNat_of_zero_le h0
 have hn : n < 8:=Int.ofNat_lt.mp h1
 exact ⟨([1, 3, 5, 7, 9, 11, 15, 17] : List Int)[n], zaqp PyData.int (l:=[1, 3, 5, 7, 9, 11, 15, 17]) (List.getElem?_eq_getElem hn), List.getElem_mem _⟩
theorem zrw {i : Nat} {f : EF} {env : DEnv} {ds : List PyData} {d : PyData} {fr : Bool} (he : env[i]? = some (.ac (.list ds))) (hf : f env = some ⟨d, fr, []⟩) (hl : ds.length < 100000) : sApp i f env = some (.nx (env.set i (.ac (.list (ds ++ [d]))))):=by
 unfold sApp
 rw [he]
 simp only
 rw [hf]
 simp only [Option.bind_some]
 rw [if_pos ⟨hl, by simp⟩]; rfl
theorem zrx (n : Nat) : zrn 0 n = (List.range n).map (fun (k : Nat)=>PyData.int (k : Int)):=by
 unfold zrn
 refine List.map_congr_left fun k _=>?_
 show PyData.int (0 + (k : Int)) = _
 rw [Int.zero_add]
theorem zaoj (a b : Str) : (a ++ b).length = a.length + b.length:=by
 have:=congrArg List.length (zkg a b)
 rw [List.length_append] at this
 simpa [Str.length] using this
end Bc
namespace Bc
open PySem L2
theorem zahk : WebOk []:=⟨List.nodup_nil, fun i n es e=>by simp at e, fun p hp=>by simp at hp, by simp⟩
theorem zahl {W : Web} {p : Str × List Str} (h : WebOk W) (hn : p.1 ∉ nm W) (he : ∀ e ∈ p.2, e ∈ nm W) (hf : p.2.length ≤ 4) (hl : W.length < 12) : WebOk (W ++ [p]):=by
 refine ⟨by rw [zmu]; exact zaam h.nd hn, fun i n es e=>?_, fun q hq=>?_, by simp; omega⟩
 ·by_cases hi : i < W.length
  ·rw [List.getElem?_append_left hi] at e
   rw [List.take_append_of_le_length (by omega)]
   exact h.el i n es e
  ·rw [List.getElem?_append_right (by omega)] at e
   have hi2 : i - W.length = 0:=by
    have:=(List.getElem?_eq_some_iff.mp e).1
    simp at this; omega
   rw [hi2] at e
   cases e
   have : i = W.length:=by omega
   subst this
   rw [List.take_append_of_le_length (Nat.le_refl _), List.take_length]
   exact he
 ·rcases List.mem_append.mp hq with hq | hq
  ·exact h.few q hq
  ·rw [List.mem_singleton.mp hq]; exact hf
theorem zry (ds : List PyData) (k : Nat) (h : k ≤ ds.length) : cutD ds none (some (k : Int)) = ds.take k:=by
 unfold cutD
 have e1 : HT.sIx ds.length 0 none = 0:=rfl
 rw [e1, HT.sIx_nat]
 simp
theorem zqs {α : Type} (enc : α → PyData) (l : List α) : zqg (l.map enc) = (l.zipIdx).map fun (p : α × Nat)=>PyData.tuple [.int (p.2 : Int), enc p.1]:=by
 unfold zqg
 rw [List.zipIdx_map, List.map_map]; rfl
theorem zaqq {α : Type} {l : List α} (nd : l.Nodup) {i j : Nat} {hi : i < l.length} {hj : j < l.length} (e : l[i] = l[j]) : i = j:=by
 rcases Nat.lt_trichotomy i j with h | h | h
 ·exact absurd e (List.pairwise_iff_getElem.mp nd i j hi hj h)
 ·exact h
 ·exact absurd e.symm (List.pairwise_iff_getElem.mp nd j i hj hi h)
theorem zuh {α : Type} : ∀ (l : List α) (i : Nat) (h : i < l.length), (l[i] :: l.eraseIdx i).Perm l
 | [], _, h=>by simp at h
 | a :: l, 0, _=>List.Perm.refl _
 | a :: l, i + 1, h=>by
  have hi : i < l.length:=by simpa using h
  have ih:=zuh l i hi
  show (l[i] :: a :: l.eraseIdx i).Perm (a :: l)
  exact (List.Perm.swap a l[i] _).trans (List.Perm.cons a ih)
theorem zya {α β : Type} (f : α → β) : ∀ (l : List α) (i : Nat), (l.map f).eraseIdx i = (l.eraseIdx i).map f
 | [], _=>rfl
 | _ :: _, 0=>rfl
 | a :: l, i + 1=>by
  show f a :: (l.map f).eraseIdx i = f a :: (l.eraseIdx i).map f
  rw [zya f l i]
theorem zyb {A B C : Sl} {kk : Nat} {nn : Sl} {xs : List Str} (hx : xs.length ≤ 12) : ∀ (t : Nat) (ls es : List Str) (rs : Int) (s8 s9 : Sl), (es ++ ls).Perm xs → t + es.length ≤ 4 → t ≤ ls.length →
  ∃ es' s5 s6 s8' s9', forL (gN 8) (sSeq (sSet 9 (eOp modD (eVar 6) (eCB lenD (zab (eVar 5) aNil)))) (sSeq (sSet 6 (eOp zde (eVar 6) (eCB lenD (zab (eVar 5) aNil)))) (zmt 7 5 (eVar 9)))) ((List.range' es.length t).map fun (k : Nat)=>PyData.int (k : Int)) [A, B, C, .pl (.int (kk : Int)), nn, .ac (zac ls), .pl (.int rs), .ac (zac es), s8, s9] =
   some (.nx [A, B, C, .pl (.int (kk : Int)), nn, s5, s6, .ac (zac es'), s8', s9']) ∧ es'.Nodup = es'.Nodup ∧ (∃ ls', (es' ++ ls').Perm xs) ∧ es'.length = t + es.length
 | 0, ls, es, rs, s8, s9, pm, _, _=>⟨es, _, _, s8, s9, rfl, rfl, ⟨ls, pm⟩, by simp⟩
 | t + 1, ls, es, rs, s8, s9, pm, h4, hl=>by
  have hls : 0 < ls.length:=by omega
  have pl:=pm.length_eq
  rw [List.length_append] at pl
  have a0:=Int.emod_nonneg rs (show ((ls.length : Nat) : Int) ≠ 0 by omega)
  have a1:=Int.emod_lt_of_pos rs (show (0 : Int) < ((ls.length : Nat) : Int) by omega)
  have hk : (rs % ((ls.length : Nat) : Int)).toNat < ls.length:=by omega
  have e9 : ((rs % ((ls.length : Nat) : Int)).toNat : Int) = rs % ((ls.length : Nat) : Int):=by omega
  generalize eA : (rs % ((ls.length : Nat) : Int)).toNat = at_ at hk e9
  have pm2 : ((es ++ [ls[at_]]) ++ ls.eraseIdx at_).Perm xs:=by
   refine List.Perm.trans ?_ pm
   rw [List.append_assoc]
   exact List.Perm.append_left es (zuh ls at_ hk)
  obtain ⟨es', s5, s6, s8', s9', q, _, hp, hlen⟩:=zyb (A:=A) (B:=B) (C:=C) (kk:=kk) (nn:=nn) hx t (ls.eraseIdx at_) (es ++ [ls[at_]]) (rs / ((ls.length : Nat) : Int)) (.pl (.int (es.length : Int))) (.pl (.int (at_ : Int))) pm2 (by simp; omega) (by rw [List.length_eraseIdx_of_lt hk]; omega)
  refine ⟨es', s5, s6, s8', s9', ?_, rfl, hp, by rw [hlen]; simp; omega⟩
  rw [List.range'_succ, List.map_cons]
  unfold forL
  simp only [gN, Option.bind_some, List.set_cons_succ, List.set_cons_zero]
  have st1 : sSet 9 (eOp modD (eVar 6) (eCB lenD (zab (eVar 5) aNil))) [A, B, C, .pl (.int (kk : Int)), nn, .ac (zac ls), .pl (.int rs), .ac (zac es), .pl (.int (es.length : Int)), s9] = some (.nx [A, B, C, .pl (.int (kk : Int)), nn, .ac (zac ls), .pl (.int rs), .ac (zac es), .pl (.int (es.length : Int)), .pl (.int (at_ : Int))]):=by
   have:=zbv (i:=9) (zii (a:=eVar 6) (env:=[A, B, C, .pl (.int (kk : Int)), nn, .ac (zac ls), .pl (.int rs), .ac (zac es), .pl (.int (es.length : Int)), s9]) rfl (zrv (a:=eVar 5) rfl) (by rw [List.length_map]; omega))
   rw [this, List.length_map, ← e9]; rfl
  have st2 : sSet 6 (eOp zde (eVar 6) (eCB lenD (zab (eVar 5) aNil))) [A, B, C, .pl (.int (kk : Int)), nn, .ac (zac ls), .pl (.int rs), .ac (zac es), .pl (.int (es.length : Int)), .pl (.int (at_ : Int))] = some (.nx [A, B, C, .pl (.int (kk : Int)), nn, .ac (zac ls), .pl (.int (rs / ((ls.length : Nat) : Int))), .ac (zac es), .pl (.int (es.length : Int)), .pl (.int (at_ : Int))]):=by
   have:=zbv (i:=6) (zky (a:=eVar 6) (env:=[A, B, C, .pl (.int (kk : Int)), nn, .ac (zac ls), .pl (.int rs), .ac (zac es), .pl (.int (es.length : Int)), .pl (.int (at_ : Int))]) rfl (zrv (a:=eVar 5) rfl) (by rw [List.length_map]; omega) (by rw [List.length_map]; omega))
   rw [this, List.length_map]; rfl
  have st3 : zmt 7 5 (eVar 9) [A, B, C, .pl (.int (kk : Int)), nn, .ac (zac ls), .pl (.int (rs / ((ls.length : Nat) : Int))), .ac (zac es), .pl (.int (es.length : Int)), .pl (.int (at_ : Int))] = some (.nx [A, B, C, .pl (.int (kk : Int)), nn, .ac (zac (ls.eraseIdx at_)), .pl (.int (rs / ((ls.length : Nat) : Int))), .ac (zac (es ++ [ls[at_]])), .pl (.int (es.length : Int)), .pl (.int (at_ : Int))]):=by
   simp only [zmt, zac, eVar, List.getElem?_cons_succ, List.getElem?_cons_zero, Option.bind_some]
   rw [if_pos ⟨by omega, by omega, by rw [List.length_map]; omega, by decide⟩, Int.toNat_natCast, List.getElem?_map, List.getElem?_eq_getElem hk]
   simp [zya]
  rw [zaq st1 (zaq st2 st3), Option.bind_some]
  rw [show (es ++ [ls[at_]]).length = es.length + 1 by simp] at q
  exact q
theorem zahm {cs : List Int} {xs : List Str} (hle : xs.length ≤ cs.length) (h12 : xs.length ≤ 12) (nd : xs.Nodup) : ∃ W, zkx [zbw cs, zac xs] = some (webD W, true) ∧ nm W = xs ∧ WebOk W:=by
 have loop : ∃ env', forL (gT 2 (zay 3 (zay 4 zds))) (sSeq (sSet 5 (eSl (eVar 1) zeb (zbs (eVar 3))))
  (sSeq (sSet 6 (eOp zde (eIxV 0 (eVar 3)) (eC (.int 5))))
  (sSeq (sSet 7 (eLst aNil))
  (sSeq (sFor (zhy (zab (eCB minD (zab (eOp modD (eIxV 0 (eVar 3)) (eC (.int 5))) (zab (eVar 3) aNil))) aNil)) (gN 8)
  (sSeq (sSet 9 (eOp modD (eVar 6) (eCB lenD (zab (eVar 5) aNil))))
  (sSeq (sSet 6 (eOp zde (eVar 6) (eCB lenD (zab (eVar 5) aNil))))
  (zmt 7 5 (eVar 9)))))
  (sApp 2 (eTup (zab (eVar 4) (zab (eVar 7) aNil)))))))) ((xs.zipIdx).map fun (p : Str × Nat)=>PyData.tuple [.int (p.2 : Int), .str p.1]) [.pl (zbw cs), .pl (zac xs), .ac (webD []), .no, .no, .no, .no, .no, .no, .no] = some (.nx env') ∧
   ∃ W s3 s4 s5 s6 s7 s8 s9, env' = [.pl (zbw cs), .pl (zac xs), .ac (webD W), s3, s4, s5, s6, s7, s8, s9] ∧ nm W = (xs.zipIdx).map (fun p : Str × Nat=>p.1) ∧ WebOk W:=by
  refine zfv (fun pre env=>∃ W s3 s4 s5 s6 s7 s8 s9, env = [.pl (zbw cs), .pl (zac xs), .ac (webD W), s3, s4, s5, s6, s7, s8, s9] ∧ nm W = pre.map (fun p : Str × Nat=>p.1) ∧ WebOk W) ⟨[], _, _, _, _, _, _, _, rfl, rfl, zahk⟩ ?_
  rintro pre ⟨n, i⟩ post env hp ⟨W, s3, s4, s5, s6, s7, s8, s9, rfl, hnm, ok⟩
  have hz : (xs.zipIdx)[pre.length]? = some (n, i):=by rw [← hp]; simp
  rw [List.getElem?_zipIdx] at hz
  have hi : i = pre.length ∧ xs[pre.length]? = some n:=by
   cases e : xs[pre.length]? with
   | none=>rw [e] at hz; cases hz
   | some y=>rw [e] at hz; simp at hz; exact ⟨by omega, by rw [hz.1]⟩
  obtain ⟨rfl, hn⟩:=hi
  have hix : pre.length < xs.length:=(List.getElem?_eq_some_iff.mp hn).1
  have hic : pre.length < cs.length:=by omega
  have hpre : pre.map (fun p : Str × Nat=>p.1) = xs.take pre.length:=by
   have e1 : (xs.zipIdx).map (fun p : Str × Nat=>p.1) = xs:=List.zipIdx_map_fst 0 xs
   have e2:=congrArg (fun l : List (Str × Nat)=>(l.map (fun p : Str × Nat=>p.1)).take pre.length) hp
   simp only [e1] at e2
   rw [← e2, List.map_append, List.take_append_of_le_length (by simp), ← List.map_take, List.take_length]
  have hWl : W.length = pre.length:=by
   have:=congrArg List.length hnm
   unfold nm at this
   simpa using this
  have gc : ∀ {env : DEnv}, env[0]? = some (.pl (zbw cs)) → env[3]? = some (.pl (.int (pre.length : Int))) → eIxV 0 (eVar 3) env = some (vi cs[pre.length]):=fun {env} h0 h3 =>
   zaaq (ds:=cs.map .int) h0 (by unfold eVar; rw [h3]) (by rw [List.getElem?_map, List.getElem?_eq_getElem hic]; rfl)
  have m5:=Int.emod_nonneg cs[pre.length] (show (5 : Int) ≠ 0 by decide)
  have m5':=Int.emod_lt_of_pos cs[pre.length] (show (0 : Int) < 5 by decide)
  generalize eN : (if ((pre.length : Nat) : Int) < cs[pre.length] % 5 then ((pre.length : Nat) : Int) else cs[pre.length] % 5) = N
  have hN : 0 ≤ N ∧ N ≤ pre.length ∧ N ≤ 4:=by rw [← eN]; split <;> omega
  have tl : (xs.take pre.length).length = pre.length:=by rw [List.length_take]; omega
  obtain ⟨es, s5', s6', s8', s9', q, _, ⟨ls, pm⟩, hes⟩:=zyb (A:=.pl (zbw cs)) (B:=.pl (zac xs)) (C:=.ac (webD W)) (kk:=pre.length) (nn:=.pl (.str n)) (xs:=xs.take pre.length) (by omega) N.toNat (xs.take pre.length) [] (cs[pre.length] / 5) s8 s9 (List.Perm.refl _) (by simp; omega) (by omega)
  have ndT : (xs.take pre.length).Nodup:=nd.sublist (List.take_sublist _ _)
  have ndE : es.Nodup:=(List.nodup_append.mp (pm.nodup_iff.mpr ndT)).1
  have subE : ∀ e ∈ es, e ∈ nm W:=fun e he=>by rw [hnm, hpre]; exact pm.mem_iff.mp (List.mem_append_left _ he)
  have nW : n ∉ nm W:=by
   rw [hnm, hpre]
   intro hm
   obtain ⟨j, hj, ej⟩:=List.getElem_of_mem hm
   rw [List.getElem_take] at ej
   obtain ⟨hh, en⟩:=List.getElem?_eq_some_iff.mp hn
   have:=zaqq nd (ej.trans en.symm)
   rw [tl] at hj
   omega
  refine ⟨_, [.pl (zbw cs), .pl (zac xs), .ac (webD (W ++ [(n, es)])), .pl (.int (pre.length : Int)), .pl (.str n), s5', s6', .pl (zac es), s8', s9'], rfl, .inl ?_, W ++ [(n, es)], _, _, _, _, _, _, _, rfl, by rw [zmu, hnm]; simp, zahl ok nW subE (by rw [hes]; simp; omega) (by omega)⟩
  have st5 : sSet 5 (eSl (eVar 1) zeb (zbs (eVar 3))) [.pl (zbw cs), .pl (zac xs), .ac (webD W), .pl (.int (pre.length : Int)), .pl (.str n), s5, s6, s7, s8, s9] = some (.nx [.pl (zbw cs), .pl (zac xs), .ac (webD W), .pl (.int (pre.length : Int)), .pl (.str n), .ac (zac (xs.take pre.length)), s6, s7, s8, s9]):=by
   have : eSl (eVar 1) zeb (zbs (eVar 3)) [.pl (zbw cs), .pl (zac xs), .ac (webD W), .pl (.int (pre.length : Int)), .pl (.str n), s5, s6, s7, s8, s9] = some ⟨zac (xs.take pre.length), true, []⟩:=by
    simp only [eSl, eVar, zeb, zbs, List.getElem?_cons_succ, List.getElem?_cons_zero, Option.bind_some, zac, slD]
    rw [zry _ _ (by rw [List.length_map]; omega), ← List.map_take]
    simp [bsOf, zht]
   exact zbv this
  refine zaq st5 (zaq (zbv (r:=vi _) (zky (gc rfl rfl) rfl (by decide) (by decide))) (zaq rfl (zaq (zic (ds:=(List.range' ([] : List Str).length N.toNat).map fun (k : Nat)=>PyData.int (k : Int)) (bs:=[]) ?_ q) ?_)))
  ·have : eCB minD (zab (eOp modD (eIxV 0 (eVar 3)) (eC (.int 5))) (zab (eVar 3) aNil)) [.pl (zbw cs), .pl (zac xs), .ac (webD W), .pl (.int (pre.length : Int)), .pl (.str n), .ac (zac (xs.take pre.length)), .pl (.int (cs[pre.length] / 5)), .ac (.list []), s8, s9] = some (vi N):=by
    unfold eCB zab
    rw [zii (gc rfl rfl) (j:=5) rfl (by decide)]
    show ((minD [.int (cs[pre.length] % 5), .int ((pre.length : Nat) : Int)]).bind fun z=>some (⟨z.1, z.2, bsOf z.1 _⟩ : Val)) = _
    unfold minD
    simp only [Option.bind_some]
    rw [eN]; rfl
   show zhy _ [.pl (zbw cs), .pl (zac xs), .ac (webD W), .pl (.int (pre.length : Int)), .pl (.str n), .ac (zac (xs.take pre.length)), .pl (.int (cs[pre.length] / 5)), .ac (.list []), s8, s9] = _
   unfold zhy
   rw [zdv this]
   simp only [Option.bind_some]
   rw [if_pos ⟨by omega, by omega⟩, zrx, List.range_eq_range']
   rfl
  ·have lz : (W.map rowD).length < 100000:=by rw [List.length_map]; omega
   simp only [sApp, webD, eTup, zab, aNil, eVar, List.getElem?_cons_succ, List.getElem?_cons_zero, Option.bind_some, Option.map_some, zmq, bss]
   rw [if_pos (by simp)]
   simp only [Option.bind_some]
   rw [if_pos ⟨lz, by simp⟩]
   simp [frzs, frz1, rowD, zac]
 obtain ⟨env', hl, W, s3, s4, s5, s6, s7, s8, s9, rfl, hnm, ok⟩:=loop
 refine ⟨W, zgp (env:=[.pl (zbw cs), .pl (zac xs), .no, .no, .no, .no, .no, .no, .no, .no]) rfl (zaq rfl (zaq (zic (ds:=(xs.zipIdx).map fun (p : Str × Nat)=>PyData.tuple [.int (p.2 : Int), .str p.1]) (bs:=[]) ?_ hl) rfl)), hnm.trans (List.zipIdx_map_fst 0 xs), ok⟩
 unfold zmh
 rw [zdv (r:=⟨zac xs, false, []⟩) rfl]
 simp only [Option.bind_some, zac]
 rw [zqs]
end Bc
namespace Bc
open PySem L2
section
variable {a b : EF} {env : DEnv} {x y : Str}
theorem e_in {neg : Bool} {xs : List Str} {fr : Bool} {bs : List Nat} (ha : a env = some (vs x)) (hb : b env = some ⟨zac xs, fr, bs⟩) : eOp (inD neg) a b env = some (vb (if neg then !decide (x ∈ xs) else decide (x ∈ xs))):=by
 unfold eOp; rw [ha, hb]; simp [zvi, bsOf, zht]
theorem znt {k : Nat} {kvs : List (PyData × PyData)} {d : PyData} (he : env[k]? = some (.pl (.dict kvs)) ∨ env[k]? = some (.ac (.dict kvs))) (hb : b env = some (vs y)) (hd : zmd kvs (Sum.inr y) = some d) : zbq k b env = some ⟨d, false, []⟩:=by
 unfold zbq
 rcases he with he | he <;> rw [he] <;> simp only <;> rw [hb] <;> simp [keyD, hd]
theorem zamf {neg : Bool} {ks : List Str} {fr : Bool} {bs : List Nat} (ha : a env = some (vs x)) (hb : b env = some ⟨zbi ks, fr, bs⟩) : eDIn neg a b env = some (vb (if neg then !decide (x ∈ ks) else decide (x ∈ ks))):=by
 unfold eDIn; rw [ha, hb]; simp [zbi, keyD, zxv]
end
theorem zyc {n : Str} {es : List Str} : ∀ {W : Web}, W.lookup n = some es → W[(nm W).idxOf n]? = some (n, es)
 | [], h=>by cases h
 | (a, b) :: W, h=>by
  rw [List.lookup_cons] at h
  show ((a, b) :: W)[(a :: nm W).idxOf n]? = _
  rw [List.idxOf_cons]
  cases e : n == a with
  | true =>
   rw [e] at h
   cases h
   rw [← eq_of_beq e]
   simp
  | false =>
   rw [e] at h
   have hne : (a == n) = false:=by
    have:=beq_eq_false_iff_ne.mp e
    exact beq_eq_false_iff_ne.mpr (Ne.symm this)
   rw [hne]
   simpa using zyc (W:=W) h
theorem zakm {l : List Str} {n : Nat} {x : Str} (h : x ∈ l.take n) : l.idxOf x < n:=by
 have : l.idxOf x = (l.take n).idxOf x:=by
  conv=>lhs; rw [← List.take_append_drop n l]
  rw [List.idxOf_append, if_pos h]
 rw [this]
 have h2:=List.idxOf_lt_length_of_mem h
 rw [List.length_take] at h2
 omega
theorem zamg {W : Web} (h : WebOk W) {n e : Str} (he : e ∈ upL W n) : e ∈ nm W ∧ (nm W).idxOf e < (nm W).idxOf n:=by
 unfold upL at he
 cases hl : W.lookup n with
 | none=>rw [hl] at he; simp at he
 | some es =>
  rw [hl] at he
  have hi:=zyc hl
  have q:=h.el _ _ _ hi e he
  have : nm (W.take ((nm W).idxOf n)) = (nm W).take ((nm W).idxOf n):=by unfold nm; rw [List.map_take]
  rw [this] at q
  exact ⟨List.mem_of_mem_take q, zakm q⟩
theorem zahn {W : Web} {n : Str} (h : n ∈ nm W) : ∃ es, W.lookup n = some es ∧ (n, es) ∈ W:=zhe (l:=W) (n:=n) h
theorem zaho {W : Web} (h : WebOk W) {n x : Str} (hn : n ∈ nm W) : x ∈ up W n ↔ x = n ∨ ∃ e ∈ upL W n, x ∈ up W e:=by
 obtain ⟨es, hl, hm⟩:=zahn hn
 rw [zamc h hm]
 unfold upL
 rw [hl]; rfl
theorem zlx {W : Web} {n : Str} (h : n ∈ nm W) : (ups W).lookup n = some (up W n):=by
 obtain ⟨ks, e, _⟩:=zhe (l:=ups W) (n:=n) (by rw [zhq]; exact h)
 unfold up upL
 rw [e]; rfl
end Bc
namespace Bc
open PySem L2
theorem zbm {a : EF} {f : AF} {env : DEnv} {r : Val} {rs : List Val} (ha : a env = some r) (hf : f env = some rs) : zab a f env = some (r :: rs):=by unfold zab; rw [ha, hf]; rfl
theorem zpp {f : EF} {env : DEnv} {c : Bool} (h : f env = some (vb c)) : zig (tTru f) env = some (!c):=by unfold zig tTru; rw [h]; rfl
end Bc
namespace Bc
open PySem L2
theorem zvn (cs : List Int) (a b : Nat) (h : b ≤ cs.length) (hab : a ≤ b) : cutD (cs.map .int) (some (a : Int)) (some (b : Int)) = ((cs.drop a).take (b - a)).map .int:=by
 unfold cutD
 have e1 : min a cs.length = a:=by omega
 have e2 : min b cs.length = b:=by omega
 rw [HT.sIx_nat, HT.sIx_nat, List.length_map, e1, e2, ← List.map_drop, ← List.map_take]
theorem zyd {env : DEnv} {cs : List Int} {b : EF} {n : Nat} (h1 : env[1]? = some (.pl (zbw cs))) (hb : b env = some (vi (n : Int))) (hn : n < cs.length) : eIxV 1 b env = some (vi (cs[n]'hn)) :=
 zaaq (ds:=cs.map .int) h1 hb (by rw [List.getElem?_map, List.getElem?_eq_getElem hn]; rfl)
theorem zakn {W : Web} : zee (gT 2 (zay 0 (zay 1 zds))) zdh (eTup (zab (eVar 0) (zab (eCB zme (zab (eVar 1) aNil)) aNil))) [.no, .no] (W.map rowD) = some (W.map rowD) :=
 zdu fun p _=>⟨[.pl (.str p.1), .pl (zac p.2)], rfl, rfl, ⟨rowD p, false, []⟩, rfl, rfl⟩
theorem zjh : ∀ (xs : List Str), (∀ x ∈ xs, PyData.strOk x = true) → PyData.canLayAll0 (xs.map .str) = true ∧ PyData.depthAll (xs.map .str) = 0
 | [], _=>⟨rfl, rfl⟩
 | x :: xs, h=>by
  obtain ⟨h1, h2⟩:=zjh xs fun y hy=>h y (List.mem_cons_of_mem _ hy)
  rw [List.map_cons]
  refine ⟨?_, ?_⟩
  ·show (PyData.strOk x && PyData.canLayAll0 (xs.map .str)) = true
   rw [h x List.mem_cons_self, h1]; rfl
  ·show max 0 (PyData.depthAll (xs.map .str)) = 0
   rw [h2]; rfl
theorem zact : ∀ (W : Web), (∀ p ∈ W, PyData.strOk p.1 = true ∧ ∀ e ∈ p.2, PyData.strOk e = true) → PyData.canLayAll0 (W.map rowD) = true ∧ PyData.depthAll (W.map rowD) ≤ 2
 | [], _=>⟨rfl, Nat.zero_le _⟩
 | p :: r, h=>by
  obtain ⟨h1, h2⟩:=zact r fun q hq=>h q (List.mem_cons_of_mem _ hq)
  obtain ⟨g1, g2⟩:=h p List.mem_cons_self
  obtain ⟨l1, l2⟩:=zjh p.2 g2
  rw [List.map_cons]
  constructor
  ·show ((PyData.strOk p.1 && (PyData.canLayAll0 (p.2.map .str) && true)) && PyData.canLayAll0 (r.map rowD)) = true
   rw [g1, l1, h1]; rfl
  ·show max (max 0 (max (PyData.depthAll (p.2.map .str) + 1) 0) + 1) (PyData.depthAll (r.map rowD)) ≤ 2
   rw [l2]
   omega
theorem zaok {W : Web} (h : WebOk W) (hl : ∀ x ∈ nm W, Low x) : ∀ p ∈ W, PyData.strOk p.1 = true ∧ ∀ e ∈ p.2, PyData.strOk e = true:=fun p hp =>
 ⟨znr (hl _ (List.mem_map.mpr ⟨p, hp, rfl⟩)), fun e he=>znr (hl e (zvl h (n:=p.1) (es:=p.2) hp e he))⟩
end Bc
namespace L2
open PySem PySem.Spec PyProof.Rows
noncomputable def zahp (wi : TI) (g : TG) (tt : TT) (tm : TM) : TM:=fun σ H Q=>wi σ H fun J H1=>zajv J g tt tm σ H1 Q
section
variable {X : Cx}
theorem zaar {M : Model} {P : Program} {w : World} {A : Around} {R : Result → Shared → Prop} {s : Shared} {elt : Expr} {g0 : Comprehension} {target iter : Expr} {ifs : List Expr} {rest : List Comprehension} {scope : Scope} {cpos : Pos} {it acc : Value} {env : Env}
  (l : codeAny (model P w) A (.compLoop (.ListComp elt (g0 :: ⟨target, iter, ifs, 0⟩ :: rest) scope cpos) 1 it acc env) R s)
  (t : ∀ (A : Around) (E : Value → Shared → Prop), wpAny (model P w) A (pyIter it) (fun u s'=>u = it ∧ s' = s) E s) :
  codeAny (model P w) A (.compStart (.ListComp elt (g0 :: ⟨target, iter, ifs, 0⟩ :: rest) scope cpos) 1 it acc env) R s:=by
 refine codeAny_of_tree ?_
 show wpAny _ _ ((compStart (.ListComp elt (g0 :: ⟨target, iter, ifs, 0⟩ :: rest) scope cpos) 1 it acc env).onRaise (fun x=>do noteFrame x env; standAt theWindowsPlace)) _ _ s
 refine wpAny_notedAt ?_
 unfold compStart
 show wpAny _ _ (ask >>= _) _ _ s
 refine wpAny_bind (wpAny_askSetting (wpAny_ite ?_))
 split
 ·first
   | exact wpAny_bind (wpAny_pure (wpAny_pure (And.intro rfl l)))
   | exact wpAny_pure (And.intro rfl l)
 ·refine wpAny_bind (wpAny_rule ?_)
  first
   | exact wpAny_bind (wpAny_standAt (wpAny_bind (thn (t _ _) fun u s' z=>by obtain ⟨e1, e2⟩:=z; subst e1; subst e2; exact wpAny_pure (And.intro rfl l))))
   | (show wpAny _ _ (standAt iter.pos >>= _) _ _ s; exact wpAny_bind (wpAny_standAt (wpAny_bind (thn (t _ _) fun u s' z=>by obtain ⟨e1, e2⟩:=z; subst e1; subst e2; exact wpAny_pure (And.intro rfl l)))))
theorem zako {elt0 : Expr} {g0 : Comprehension} {scope : Scope} {cpos : Pos} {target iter : Expr} {ifs : List Expr} {wi : TI} {g : TG} {tt : TT} {te : TE} {p : Addr}
  (hx : X.xe = fun _ _=>False) (hc : X.calm = true) (hi : PI X target iter wi) (hg : PG X target g) (ht : PF X ifs tt) (he : PE X elt0 te)
  (hs : ∀ x, foldedSetIterable iter X.env x = pure x) :
  PM X (do
   let x ← eval iter X.env
   standAt iter.pos
   let x ← foldedSetIterable iter X.env x
   let _ ← runOwn (.compStart (.ListComp elt0 [g0, ⟨target, iter, ifs, 0⟩] scope cpos) 1 (← holding [x] (pyIter x)) (.ref p) X.env) X.env) (zahp wi g tt (zaee p te)):=by
 intro pins s σ H Q I h
 refine wpAny_bind (thn (hi pins s σ H _ I h) fun v s1 h1=>?_)
 refine wpAny_bind (wpAny_standAt ?_)
 rw [hs]
 refine wpAny_bind (wpAny_pure (wpAny_bind (wpAny_holding (thn h1 fun itv s2 h2=>?_))))
 obtain ⟨it, fp, tn, J, H2, e, I2, T, st2, f2, q⟩:=h2
 subst e
 refine wpAny_bind (thn (wpAny_runOwn (h:=none) (Q:=fun _ s'=>∃ σ' H', Inv X pins σ' H' s' ∧ Q σ' H') ?_) fun _ _ z=>wpAny_pure z)
 refine zaar (M:=model X.prog X.w) ?_ fun A E=>T.self A 0 s2 _ E st2 ⟨rfl, rfl⟩
 refine codeAny_mono (zrd (X:=X) (pins:=pins) hx hc (elt0:=elt0) (gens:=[g0, ⟨target, iter, ifs, 0⟩]) (depth:=1) (ip:=iter.pos) (emit:=(do let _ ← call (.builtin "list.append") [.ref p, ← eval elt0 X.env])) rfl T hg ht (zaan he) I2 st2 f2 q) fun r s5 hr=>?_
 obtain ⟨rfl, z⟩:=hr
 exact z
theorem zarq (elt target iter target2 iter2 : Expr) (ifs ifs2 : List Expr) (scope : Scope) (cpos : Pos) (it acc : Value) (env : Env) :
  compTurn (.ListComp elt [⟨target, iter, ifs, 0⟩, ⟨target2, iter2, ifs2, 0⟩] scope cpos) 0 it acc env = (do
   standAt iter.pos
   match ← pyNext it with
   | none=>pure (.done .next)
   | some v =>
    letOwnedTupleGo target it v
    assign target env v
    let mut ok:=true
    for c in ifs do
     if ok then ok ← isTrue c env (eval c env)
    if ok then do
     let x ← eval iter2 env
     standAt iter2.pos
     let x ← foldedSetIterable iter2 env x
     let i ← holding [x] (pyIter x)
     let _ ← runOwn (.compStart (.ListComp elt [⟨target, iter, ifs, 0⟩, ⟨target2, iter2, ifs2, 0⟩] scope cpos) 1 i acc env) env
     again (.compLoop (.ListComp elt [⟨target, iter, ifs, 0⟩, ⟨target2, iter2, ifs2, 0⟩] scope cpos) 0 it acc env)
    else again (.compLoop (.ListComp elt [⟨target, iter, ifs, 0⟩, ⟨target2, iter2, ifs2, 0⟩] scope cpos) 0 it acc env)):=rfl
noncomputable def tComp2 (wi : TI) (g : TG) (tt : TT) (wi2 : TI) (g2 : TG) (tt2 : TT) (te : TE) (own : List Str) (fr : List Nat) : TE:=zajw wi g tt (fun p=>zahp wi2 g2 tt2 (zaee p te)) own fr
theorem zakp {scope : Scope} {N' own : List Str} {fr : List Nat} {elt target iter target2 iter2 : Expr} {ifs ifs2 : List Expr} {cpos : Pos} {wi wi2 : TI} {g g2 : TG} {tt tt2 : TT} {te : TE} (c : CompOk X scope N' own fr) (hc : X.calm = true) (hi : PI X target iter wi)
  (hb : ∀ (cl : List (Str × Addr)) (C : Addr) (s : Shared) (H : Hp) (fp : List Addr), PG (cxComp X scope N' own cl C s H fp) target g ∧ PF (cxComp X scope N' own cl C s H fp) ifs tt ∧ PI (cxComp X scope N' own cl C s H fp) target2 iter2 wi2 ∧ PG (cxComp X scope N' own cl C s H fp) target2 g2 ∧ PF (cxComp X scope N' own cl C s H fp) ifs2 tt2 ∧ PE (cxComp X scope N' own cl C s H fp) elt te)
  (hs : ∀ x, foldedSetIterable iter X.env x = pure x:=by intro _; rfl) (hs2 : ∀ env x, foldedSetIterable iter2 env x = pure x:=by intro _ _; rfl) :
  PE X (.ListComp elt [⟨target, iter, ifs, 0⟩, ⟨target2, iter2, ifs2, 0⟩] scope cpos) (tComp2 wi g tt wi2 g2 tt2 te own fr) :=
 zace (emit:=fun acc env=>do
   let x ← eval iter2 env
   standAt iter2.pos
   let x ← foldedSetIterable iter2 env x
   let _ ← runOwn (.compStart (.ListComp elt [⟨target, iter, ifs, 0⟩, ⟨target2, iter2, ifs2, 0⟩] scope cpos) 1 (← holding [x] (pyIter x)) acc env) env) c hc (fun it acc env=>by
   rw [zarq]
   refine bind_congr fun _=>bind_congr fun r=>?_
   cases r with
   | none=>rfl
   | some v =>
    refine bind_congr fun _=>bind_congr fun _=>bind_congr fun ok=>?_
    cases ok with
    | false=>rfl
    | true=>simp only [if_true, bind_assoc, pure_bind]) hi
  (fun cl C s H fp p=>let ⟨h1, h2, h3, h4, h5, h6⟩:=hb cl C s H fp; ⟨h1, h2, zako (X:=cxComp X scope N' own cl C s H fp) rfl hc h3 h4 h5 h6 (fun x=>hs2 _ x)⟩) hs
end
noncomputable def NoAc (env : DEnv) : Prop:=∀ (i : Nat) (d : PyData), env[i]? ≠ some (.ac d)
noncomputable def GZ (lo hi : Nat) (g : GT) : Prop:=∀ d env e1, g d env = some e1 → e1.length = env.length ∧ (∀ i, (i < lo ∨ hi ≤ i) → e1[i]? = env[i]?) ∧ (NoAc env → NoAc e1)
theorem zakq {env : DEnv} {i : Nat} {d : PyData} (h : NoAc env) : NoAc (env.set i (.pl d)):=by
 intro j d' e
 by_cases q : i = j
 ·subst q
  by_cases l : i < env.length
  ·rw [List.getElem?_set_self l] at e; cases e
  ·rw [List.getElem?_eq_none (by simp; omega)] at e; cases e
 ·rw [List.getElem?_set_ne q] at e; exact h j d' e
theorem zahq {lo hi i : Nat} (h : lo ≤ i) (h' : i < hi) : GZ lo hi (gN i):=by
 intro d env e1 e
 cases e
 exact ⟨List.length_set, fun j hj=>List.getElem?_set_ne (by omega), zakq⟩
theorem zrz {g : GT} {t : TF} {e : EF} {env : DEnv} : ∀ {ds rs : List PyData}, zee g t e env ds = some rs → rs.length ≤ ds.length
 | [], rs, h=>by cases h; exact Nat.le_refl _
 | d :: ds, rs, h=>by
  unfold zee at h
  obtain ⟨e1, _, h⟩:=Option.bind_eq_some_iff.mp h
  obtain ⟨b, _, h⟩:=Option.bind_eq_some_iff.mp h
  split at h
  ·obtain ⟨r, _, h⟩:=Option.bind_eq_some_iff.mp h
   obtain ⟨rs', h', rfl⟩:=Option.map_eq_some_iff.mp h
   have:=zrz h'
   simp; omega
  ·have:=zrz h
   simp; omega
noncomputable def innL (f2 : IF') (g2 : GT) (t2 : TF) (e : EF) (e1 : DEnv) : Option (List PyData):=(f2 e1).bind fun z=>if z.1.length < 300 then zee g2 t2 e e1 z.1 else none
noncomputable def zla (g : GT) (t : TF) (f2 : IF') (g2 : GT) (t2 : TF) (e : EF) (env : DEnv) : List PyData → Option (List PyData)
 | []=>some []
 | d :: ds=>(g d env).bind fun e1=>(t e1).bind fun b=>if b = true then (innL f2 g2 t2 e e1).bind fun r1=>(zla g t f2 g2 t2 e env ds).map fun rs=>r1 ++ rs else zla g t f2 g2 t2 e env ds
noncomputable def zye (own : List Str) (fr : List Nat) (fi : IF') (g : GT) (t : TF) (f2 : IF') (g2 : GT) (t2 : TF) (e : EF) : EF:=fun env=>(fi env).bind fun z=>if z.1.length < 300 then
 (zla g t f2 g2 t2 e (envB own fr env) z.1).map fun rs=>⟨.list rs, true, if zft rs = true then [] else z.2 ++ capA fr env⟩ else none
theorem zakr {wi2 : TI} {g2 : TG} {tt2 : TT} {te : TE} {f2 : IF'} {gf2 : GT} {t2 : TF} {e : EF} {B : Addr → Prop} {H1 : Hp} {e1 : DEnv} {σ : St} {H : Hp} {p : Addr} {vs : List V} {done rest ds : List PyData} {bs : List Nat} {Q : St → Hp → Prop} {k n : Nat}
  (h5 : SI wi2 f2) (h6 : SG g2 gf2) (hy : GZ k n gf2) (h7 : ST tt2 t2) (h4 : SE te e) (na : NoAc e1) (no : ∀ (i : Nat) (d : PyData), k ≤ i → i < n → e1[i]? ≠ some (.pl d))
  (hB : B p) (hp : H1 p = none) (hE : EnvOk B H1 e1 σ H) (ep : H p = some (.lst vs)) (rd : Rps (Offs B H) done vs) (ei : f2 e1 = some (ds, bs)) (dl : done.length + ds.length < 100000) (ec : zee gf2 t2 e e1 ds = some rest)
  (q : ∀ σ' H' vs', H' p = some (.lst vs') → Rps (Offs B H') (done ++ rest) vs' → EnvOk B H1 e1 σ' H' → Q σ' H') : zahp wi2 g2 tt2 (zaee p te) σ H Q:=by
 refine h5 B H1 e1 σ H hE ds bs ei _ fun J H4 s4 yl=>?_
 have hE4:=hE.up s4
 have n4 : Offs (fun b=>b = p) H4 p = none:=Offs.out rfl
 refine ⟨fun i m σ' H'=>m = ds.length - i ∧ i ≤ ds.length ∧ ∃ vs done' rest', H' p = some (.lst vs) ∧ Rps (Offs B H') done' vs ∧ done'.length ≤ done.length + i ∧ zee gf2 t2 e e1 (ds.drop i) = some rest' ∧ done' ++ rest' = done ++ rest ∧ EnvOk B (Offs (fun b=>b = p) H4) e1 σ' H',
  ⟨ds.length, rfl, Nat.zero_le _, vs, done, rest, s4 _ _ ep, Rps.same (Offs.grow s4) _ rd, Nat.le_refl _, ec, rfl, ⟨hE4.len, hE4.pl, fun i d z=>absurd z (na i d), hE4.inj, Offs.same _ _, hE4.fxs⟩⟩, ?_⟩
 rintro i m σ' H' ⟨rfl, hi, vs, done', rest', ep', rd', dl', ec', edr, hE'⟩
 obtain ⟨yi, ys⟩:=yl B H' hE'.fxs fun b o z=>by
  obtain ⟨z1, z2⟩:=Offs.of z
  have hb : ¬ B b:=fun y=>z1 (.inl y)
  rw [Offs.get hb]
  exact hE'.base b o (by rw [Offs.get fun y=>hb (by rw [y]; exact hB)]; exact z2)
 by_cases hlt : i < ds.length
 ·obtain ⟨yg, yy⟩:=yi i ds[i] (List.getElem?_eq_getElem hlt)
  refine .inr ⟨yg, fun σ'' H''=>i + 1 ≤ ds.length ∧ ∃ vs done' rest', H'' p = some (.lst vs) ∧ Rps (Offs B H'') done' vs ∧ done'.length ≤ done.length + (i + 1) ∧ zee gf2 t2 e e1 (ds.drop (i + 1)) = some rest' ∧ done' ++ rest' = done ++ rest ∧ EnvOk B (Offs (fun b=>b = p) H4) e1 σ'' H'', ?_, ?_⟩
  ·rintro σ'' H'' ⟨hle, hh⟩
   exact ⟨ds.length - (i + 1), by omega, rfl, hle, hh⟩
  ·intro x H'' hyx
   obtain ⟨sy, ry⟩:=yy x H'' hyx
   rw [List.drop_eq_getElem_cons hlt] at ec'
   obtain ⟨e2, ee2, ec'⟩:=Option.bind_eq_some_iff.mp ec'
   obtain ⟨b, eb, ec'⟩:=Option.bind_eq_some_iff.mp ec'
   have ry' : Rp (Offs (fun a=>B a ∨ L2.own e1 σ' a) H'') ds[i] x:=Rp.same (Offs.sub fun b z=>z.elim (fun y=>y) fun ⟨j, d', z, _⟩=>absurd z (na _ _)) _ ry
   refine h6 _ _ e1 σ' H'' _ x (hE'.up sy) ry' e2 ee2 _ fun σ2 hE2=>?_
   refine h7 _ _ e2 σ2 H'' hE2 b eb _ fun H3 s3=>?_
   have hE3:=hE2.up s3
   obtain ⟨gl, gk, _⟩:=hy _ _ _ ee2
   have back : ∀ {H4' : Hp}, EnvOk B (Offs (fun b=>b = p) H4) e2 σ2 H4' → EnvOk B (Offs (fun b=>b = p) H4) e1 σ2 H4':=fun {H4'} hh=>hh.weaken gl.symm (fun j d' ej=>by
    by_cases hj : j < k ∨ n ≤ j
    ·rw [gk j hj]; exact ej
    ·exact absurd ej (no j d' (by omega) (by omega))) na
   cases b with
   | false =>
    have ec' : zee gf2 t2 e e1 (ds.drop (i + 1)) = some rest':=ec'
    exact iteF ⟨hlt, vs, done', rest', s3 _ _ (sy _ _ ep'), Rps.same (Offs.grow (sy.trans s3)) _ rd', Nat.le_succ_of_le dl', ec', edr, back hE3⟩
   | true =>
    have ec' : ((e e2).bind fun r=>(zee gf2 t2 e e1 (ds.drop (i + 1))).map fun rs=>r.d :: rs) = some rest':=ec'
    obtain ⟨r, er, ec'⟩:=Option.bind_eq_some_iff.mp ec'
    obtain ⟨rest2, er', rfl⟩:=Option.map_eq_some_iff.mp ec'
    refine iteT (h4 _ _ e2 σ2 H3 hE3 r er _ fun v H5 s5 hv=>?_)
    have t5:=(sy.trans s3).trans s5
    refine ⟨vs, t5 _ _ ep', zrh (by rw [← rd'.length]; omega), hlt, vs ++ [v], done' ++ [r.d], rest2, zbn, ?_, by rw [List.length_append]; simp; omega, er', by rw [← edr]; simp, (back (hE3.up s5)).updFx hB n4⟩
    rw [Offs.upd hB]
    refine (Rps.same (Offs.grow t5) _ rd').append (zfg (Rp.same (Offs.sub fun b z=>.inl z) _ hv.rp) zfo)
 ·have hi' : i = ds.length:=by omega
  subst hi'
  rw [List.drop_length] at ec'
  cases ec'
  rw [List.append_nil] at edr
  subst edr
  exact .inl ⟨ys, q σ' H' vs ep' rd' ⟨hE'.len, hE'.pl, fun i d z=>absurd z (na i d), hE'.inj, fun b o z=>hE'.base b o (by rw [Offs.get fun y=>by rw [y, hp] at z; cases z]; exact s4 b o (hE.base b o z)), hE'.fxs⟩⟩
end L2
namespace L2
open PySem PySem.Spec PyProof.Rows
theorem zaks {own : List Str} {fr : List Nat} {env : DEnv} {i : Nat} (h : i < own.length) : (envB own fr env)[i]? = some .no:=by
 unfold envB
 rw [List.getElem?_append_left (by simpa using h), List.getElem?_map, List.getElem?_eq_getElem h]; rfl
theorem zakt {own : List Str} {fr : List Nat} {wi wi2 : TI} {g g2 : TG} {tt tt2 : TT} {te : TE} {fi f2 : IF'} {gf gf2 : GT} {t t2 : TF} {e : EF} {k : Nat} (h1 : SI wi fi) (h2 : SG g gf) (hx : GZ 0 k gf) (hk : k ≤ own.length) (h3 : ST tt t)
  (h5 : SI wi2 f2) (h6 : SG g2 gf2) (hy : GZ k own.length gf2) (h7 : ST tt2 t2) (h4 : SE te e) :
  SE (tComp2 wi g tt wi2 g2 tt2 te own fr) (zye own fr fi gf t f2 gf2 t2 e):=by
 intro fx H0 env σ H h rr hr Q q
 unfold zye at hr
 obtain ⟨⟨ds, bs⟩, ei, hr⟩:=Option.bind_eq_some_iff.mp hr
 split at hr
 ·rename_i hlen
  have hlen : ds.length < 300:=hlen
  obtain ⟨rs, ers, rfl⟩:=Option.map_eq_some_iff.mp hr
  refine h1 fx H0 env σ H h ds bs ei _ fun J H1 s yl=>fun p hp=>?_
  have hB:=zxq h s hp own fr bs
  generalize hA : (fun b=>lim fx env σ (bs ++ capA fr env) b) = A
  have hA' : ∀ b, lim fx env σ (bs ++ capA fr env) b ↔ A b:=fun b=>by rw [← hA]
  have eA : (fun b=>lim fx env σ (bs ++ capA fr env) b ∨ b = p) = fun b=>A b ∨ b = p:=by rw [← hA]
  rw [eA] at hB
  have seen : ∀ {σ' : St} {H' : Hp}, EnvOk (fun b=>A b ∨ b = p) H1 (envB own fr env) σ' H' → Same (Offs (fun b=>fx b ∨ L2.own (frzs env bs) σ b) H1) (Offs (fun b=>A b ∨ b = p) H'):=fun {σ' H'} hE=>Offs.mono hE.base fun b o eo n z=>by
   rcases z with z | z
   ·rcases (hA' b).mpr z with z | ⟨i, d, z1, z2, z3⟩
    ·exact n (.inl z)
    ·exact n (.inr ⟨i, d, znn (fun y=>z1 (List.mem_append_left _ y)) z2, z3⟩)
   ·rw [z, hp] at eo; cases eo
  refine ⟨fun i m σ' H'=>m = ds.length - i ∧ i ≤ ds.length ∧ ∃ vs done rest, H' p = some (.lst vs) ∧ Rps (Offs (fun b=>A b ∨ b = p) H') done vs ∧ done.length ≤ i * 300 ∧ zla gf t f2 gf2 t2 e (envB own fr env) (ds.drop i) = some rest ∧ done ++ rest = rs ∧ EnvOk (fun b=>A b ∨ b = p) H1 (envB own fr env) σ' H',
   ⟨ds.length, rfl, Nat.zero_le _, [], [], rs, zbn, zfo, Nat.zero_le _, ers, rfl, hB⟩, ?_⟩
  rintro i m σ' H' ⟨rfl, hi, vs, done, rest, ep, rd, dl, ec, edr, hE⟩
  obtain ⟨yi, ys⟩:=yl _ H' hE.fxs (seen hE)
  by_cases hlt : i < ds.length
  ·obtain ⟨yg, yy⟩:=yi i ds[i] (List.getElem?_eq_getElem hlt)
   refine .inr ⟨yg, fun σ'' H''=>i + 1 ≤ ds.length ∧ ∃ vs done rest, H'' p = some (.lst vs) ∧ Rps (Offs (fun b=>A b ∨ b = p) H'') done vs ∧ done.length ≤ (i + 1) * 300 ∧ zla gf t f2 gf2 t2 e (envB own fr env) (ds.drop (i + 1)) = some rest ∧ done ++ rest = rs ∧ EnvOk (fun b=>A b ∨ b = p) H1 (envB own fr env) σ'' H'', ?_, ?_⟩
   ·rintro σ'' H'' ⟨hle, hh⟩
    exact ⟨ds.length - (i + 1), by omega, rfl, hle, hh⟩
   ·intro x H'' hyx
    obtain ⟨sy, ry⟩:=yy x H'' hyx
    rw [List.drop_eq_getElem_cons hlt] at ec
    obtain ⟨e1, ee1, ec⟩:=Option.bind_eq_some_iff.mp ec
    obtain ⟨b, eb, ec⟩:=Option.bind_eq_some_iff.mp ec
    have ry' : Rp (Offs (fun a=>(A a ∨ a = p) ∨ L2.own (envB own fr env) σ' a) H'') ds[i] x:=Rp.same (Offs.sub fun b z=>z.elim (fun y=>y) fun ⟨j, d', z, _⟩=>absurd z zkc) _ ry
    refine h2 _ H1 (envB own fr env) σ' H'' _ x (hE.up sy) ry' e1 ee1 _ fun σ2 hE2=>?_
    refine h3 _ H1 e1 σ2 H'' hE2 b eb _ fun H3 s3=>?_
    have hE3:=hE2.up s3
    obtain ⟨gl, gk, gn⟩:=hx _ _ _ ee1
    have na : NoAc e1:=gn fun _ _=>zkc
    have back : ∀ {σ4 : St} {H4 : Hp}, EnvOk (fun b=>A b ∨ b = p) H1 e1 σ4 H4 → EnvOk (fun b=>A b ∨ b = p) H1 (envB own fr env) σ4 H4:=fun {σ4 H4} hh=>hh.weaken gl.symm (fun j d' ej=>by
     by_cases hj : own.length ≤ j
     ·rw [gk j (.inr (by omega))]; exact ej
     ·obtain ⟨_, k, rfl, _⟩:=zvg ej; omega) fun j d'=>zkc
    cases b with
    | false =>
     have ec : zla gf t f2 gf2 t2 e (envB own fr env) (ds.drop (i + 1)) = some rest:=ec
     exact iteF ⟨hlt, vs, done, rest, s3 _ _ (sy _ _ ep), Rps.same (Offs.grow (sy.trans s3)) _ rd, by omega, ec, edr, back hE3⟩
    | true =>
     have ec : ((innL f2 gf2 t2 e e1).bind fun r1=>(zla gf t f2 gf2 t2 e (envB own fr env) (ds.drop (i + 1))).map fun rs=>r1 ++ rs) = some rest:=ec
     obtain ⟨r1, er, ec⟩:=Option.bind_eq_some_iff.mp ec
     obtain ⟨rest', er', rfl⟩:=Option.map_eq_some_iff.mp ec
     obtain ⟨⟨ds2, bs2⟩, e2, er⟩:=Option.bind_eq_some_iff.mp er
     split at er
     ·rename_i hl2
      have hl2 : ds2.length < 300:=hl2
      have l2:=zrz er
      refine iteT (zakr (B:=fun b=>A b ∨ b = p) (p:=p) (vs:=vs) (done:=done) h5 h6 hy h7 h4 na (fun j d' h8 h9 ej=>?_) (.inr rfl) hp hE3 (s3 _ _ (sy _ _ ep)) (Rps.same (Offs.grow (sy.trans s3)) _ rd) e2 (by omega) er fun σ5 H5 vs5 ep5 rd5 hE5=>?_)
      ·rw [gk j (.inr h8), zaks h9] at ej; cases ej
      ·have l2' : r1.length ≤ ds2.length:=l2
       exact ⟨hlt, vs5, done ++ r1, rest', ep5, rd5, by rw [List.length_append]; omega, er', by rw [← edr, List.append_assoc], back hE5⟩
     ·cases er
  ·have hi' : i = ds.length:=by omega
   subst hi'
   rw [List.drop_length] at ec
   cases ec
   rw [List.append_nil] at edr
   subst edr
   refine .inl ⟨ys, q _ H' (s.trans hE.base) ⟨?_, fun _=>⟨p, rfl, s.free hp, ?_⟩⟩⟩
   ·show Rp (Offs (lim fx env σ (if zft done = true then [] else bs ++ capA fr env)) H') (.list done) (.ref p)
    have nl : ∀ cs, ¬ lim fx env σ cs p:=fun cs z=>by
     obtain ⟨o, eo⟩:=(h.up s).lims _ p z
     rw [hp] at eo; cases eo
    refine zjr (by rw [Offs.get (nl _)]; exact ep) ?_
    split
    ·rename_i f; exact zno f rd
    ·exact Rps.same (Offs.sub fun b z=>.inl ((hA' b).mp z)) _ rd
   ·show zjs (Offs (fun b=>lim fx env σ (if zft done = true then [] else bs ++ capA fr env) b ∨ b = p) H') H' p (.list done)
    refine ⟨vs, ep, ?_⟩
    split
    ·rename_i f; exact zno f rd
    ·exact Rps.same (Offs.sub fun b z=>z.imp (hA' b).mp id) _ rd
 ·cases hr
end L2
namespace PySem
open Sem (wp)
end PySem
namespace L2
open PySem PySem.Spec PyProof.Rows
instance memKey (k : Key) (l : List Key) : Decidable (k ∈ l):=decidable_of_iff (∃ x, x ∈ l ∧ x = k) ⟨fun ⟨x, h, e⟩=>e ▸ h, fun h=>⟨k, h, rfl⟩⟩
end L2
namespace L2
open PySem PySem.Spec PyProof.Rows
end L2
namespace Bc
open PySem L2
noncomputable def zox : SF:=(sSeq (sIf (tTru (eIsi "tuple" (eVar 0))) (sRet (eCB zme (zab (eVar 0) aNil))) sNil)
  (sRet (eLst (zab (eVar 0) aNil))))
noncomputable def zci : GF:=fnD 1 zox
noncomputable def zyf : SF:=(sSeq (sSet 2 zaeh)
  (sSeq (sFor (zaw (zav 1 zci (zab (eVar 1) aNil))) (gN 3)
  (sUpd 2 (zbq 0 (eVar 3))))
  (ztf 2)))
noncomputable def zlb : GF:=fnD 4 zyf
end Bc
namespace Bc
open PySem L2
theorem zacu {W : Web} (h : WebOk W) : ∀ (m : Nat) {k n e : Str}, (nm W).idxOf k < m → k ∈ nm W → n ∈ up W k → e ∈ up W n → e ∈ up W k
 | 0, _, _, _, hm, _, _, _=>absurd hm (Nat.not_lt_zero _)
 | m + 1, k, n, e, hm, hk, hn, he=>by
  rcases (zaho h hk).mp hn with rfl | ⟨e', he', hn'⟩
  ·exact he
  ·obtain ⟨g1, g2⟩:=zamg h he'
   exact (zaho h hk).mpr (.inr ⟨e', he', zacu h m (by omega) g1 hn' he⟩)
theorem zsa {α : Type} (f : α → Bool) : ∀ (l : List α), zrm (l.map fun x=>.bool (f x)) = some (l.map f)
 | []=>rfl
 | x :: l=>by
  show (zrm (l.map fun x=>.bool (f x))).map _ = _
  rw [zsa f l]; rfl
theorem zaqr {α : Type} {f : α → Bool} {l : List α} {a : EF} {env : DEnv} {fr : Bool} {bs : List Nat} (ha : a env = some ⟨.list (l.map fun x=>.bool (f x)), fr, bs⟩) : eCB (anyD fun bs=>bs.all id) (zab a aNil) env = some (vb (l.all f)):=by
 unfold eCB
 rw [zdv ha, Option.bind_some]
 show ((zrm (l.map fun x=>.bool (f x))).map _).bind _ = _
 rw [zsa]
 simp only [Option.map_some, Option.bind_some, List.all_map]
 rfl
end Bc
namespace Bc
open PySem L2
theorem zsb {α : Type} {enc : α → PyData} {out : α → List PyData} {g : GT} {t : TF} {f2 : IF'} {g2 : GT} {t2 : TF} {e : EF} {env : DEnv} : ∀ {l : List α}, (∀ x ∈ l, ∃ e1, g (enc x) env = some e1 ∧ t e1 = some true ∧ innL f2 g2 t2 e e1 = some (out x)) →
  zla g t f2 g2 t2 e env (l.map enc) = some (l.flatMap out)
 | [], _=>rfl
 | x :: l, h=>by
  obtain ⟨e1, h1, h2, h3⟩:=h x List.mem_cons_self
  have ih:=zsb (l:=l) fun y hy=>h y (List.mem_cons_of_mem _ hy)
  rw [List.map_cons]
  unfold zla
  rw [h1, Option.bind_some, h2, Option.bind_some, if_pos rfl, h3, Option.bind_some, ih, List.flatMap_cons]
  rfl
theorem zaku {own : List Str} {fr : List Nat} {fi : IF'} {g : GT} {t : TF} {f2 : IF'} {g2 : GT} {t2 : TF} {e : EF} {env : DEnv} {ds : List PyData} {bs : List Nat} {rs : List PyData} (h : fi env = some (ds, bs)) (hl : ds.length < 300) (k : zla g t f2 g2 t2 e (envB own fr env) ds = some rs) :
  zye own fr fi g t f2 g2 t2 e env = some ⟨.list rs, true, if zft rs = true then [] else bs ++ capA fr env⟩:=by
 unfold zye; rw [h, Option.bind_some, if_pos hl, k]; rfl
end Bc
namespace Bc
open PySem L2
end Bc
namespace Bc
open PySem L2
end Bc
namespace PySem
open Sem (wp)
noncomputable def SqIt (b : Bool) (h : Heap) (it l : Addr) (i : Nat) : Prop:=match b with
 | true=>h.IsListIter it l i
 | false=>h.IsTupleIter it l i
noncomputable def zhb (b : Bool) (h : Heap) (l : Addr) (xs : Array Value) : Prop:=match b with
 | true=>h.IsList l xs
 | false=>h.IsTuple l xs
theorem SqIt.moved {b : Bool} {h h' : Heap} {it l : Addr} {i : Nat} (x : SqIt b h it l i) (e : ∀ o, h.get? it = some o → h'.get? it = some o) : SqIt b h' it l i:=by
 cases b with
 | true=>obtain ⟨o, q, r⟩:=x; exact ⟨o, e o q, r⟩
 | false=>obtain ⟨o, q, r⟩:=x; exact ⟨o, e o q, r⟩
theorem zhb.moved {b : Bool} {h h' : Heap} {l : Addr} {xs : Array Value} (x : zhb b h l xs) (e : ∀ o, h.get? l = some o → h'.get? l = some o) : zhb b h' l xs:=by
 cases b with
 | true=>obtain ⟨o, q, r⟩:=x; exact ⟨o, e o q, r⟩
 | false=>obtain ⟨o, q, r⟩:=x; exact ⟨o, e o q, r⟩
theorem SqIt.at {b : Bool} {h h' : Heap} {it l : Addr} {i : Nat} (x : SqIt b h it l i) (e : ∀ o, h.get? it = some o → h'.get? it = some o) : SqIt b h' it l i:=x.moved e
theorem SqIt.extBut {b : Bool} {h h' : Heap} {it l c : Addr} {i : Nat} (x : SqIt b h it l i) (s : Heap.ExtBut c h h') (n : it ≠ c) : SqIt b h' it l i:=x.moved fun o e=>s _ o n e
theorem zhb.extBut {b : Bool} {h h' : Heap} {l c : Addr} {xs : Array Value} (x : zhb b h l xs) (s : Heap.ExtBut c h h') (n : l ≠ c) : zhb b h' l xs:=x.moved fun o e=>s _ o n e
theorem SqIt.obj {b : Bool} {h : Heap} {it l : Addr} {i : Nat} (x : SqIt b h it l i) : ∃ o, h.get? it = some o ∧ ∀ v, o.data ≠ .cell v:=by
 cases b with
 | true=>obtain ⟨o, q, _, r⟩:=x; exact ⟨o, q, fun v z=>by rw [r] at z; cases z⟩
 | false=>obtain ⟨o, q, _, r⟩:=x; exact ⟨o, q, fun v z=>by rw [r] at z; cases z⟩
section
variable {prog : Program} {w : World} {A : Around} {E : Value → Shared → Prop} {s : Shared}
theorem zvo {it l : Addr} {i : Nat} {items} {x : Value} {Q : Value → Shared → Prop} (hit : s.heap.IsTupleIter it l i)
  (hl : s.heap.IsTuple l items) (hx : items[i]? = some x)
  (hQ : ∀ h', h'.IsTupleIter it l (i + 1) → Heap.SameBut it s.heap h' → Q x { s with heap:=h' }) :
  wpAny (model prog w) A (Builtin.SmallTypes.nextOf (.ref it)) Q E s:=by
 obtain ⟨o, ho, hc, hd⟩:=id hit
 obtain ⟨ol, hol, _, nl, hdl⟩:=hl
 unfold Builtin.SmallTypes.nextOf
 refine wpAny_bind (wpAny_callSpecial?_slot (name:=Str.ofString "__next__") hit.typeIs F.slot_tuple_iterator_next
  (wpAny_call_entry F.slot_tuple_iterator_next hit.typeIs F.entry_tuple_iterator_next ?_ (F.args_tuple_iterator_next_1 _)))
 show wpAny _ _ (field (.ref it) 0 >>= _) _ _ s
 refine wpAny_bind (wpAny_field ho hd (x:=.ref l) rfl ?_)
 show wpAny _ _ (if (Value.ref l == Value.none) = true then _ else _) _ _ s
 rw [if_neg (show ¬ ((Value.ref l == Value.none) = true) from Bool.false_ne_true)]
 show wpAny _ _ (field (.ref it) 1 >>= _) _ _ s
 refine wpAny_bind (wpAny_field ho hd (x:=.int i 0) rfl ?_)
 show wpAny _ _ (seqItems? (.ref l) >>= _) _ _ s
 refine wpAny_bind (wpAny_seqItems hol hdl ?_)
 simp only [Int.toNat_natCast, hx]
 refine wpAny_bind (wpAny_setField ho hd (by simp) (wpAny_pure ⟨x, rfl, wpAny_pure (hQ _ ?_ (Heap.SameBut.update ..))⟩))
 exact ⟨_, Heap.get?_update_self _ ho (Obj.isFreed_of_fields (Obj.data_mapFields hd _)), (Obj.cls_mapFields ..).trans hc, by
  rw [Obj.data_mapFields hd]; simp [rawInt]⟩
theorem zyg {it l : Addr} {i : Nat} {items} {Q : Value → Shared → Prop} (hh : A.handled = none)
  (hit : s.heap.IsTupleIter it l i) (hl : s.heap.IsTuple l items) (hx : items[i]? = none)
  (hE : ∀ h' e, Heap.ExtBut it s.heap h' → (∃ o, h'.get? e = some o ∧ o.cls = .type "StopIteration") → E (.ref e) { s with heap:=h' }) :
  wpAny (model prog w) A (Builtin.SmallTypes.nextOf (.ref it)) Q E s:=by
 obtain ⟨o, ho, hc, hd⟩:=id hit
 obtain ⟨ol, hol, _, nl, hdl⟩:=hl
 unfold Builtin.SmallTypes.nextOf
 refine wpAny_bind (wpAny_callSpecial?_slot (name:=Str.ofString "__next__") hit.typeIs F.slot_tuple_iterator_next
  (wpAny_call_entry F.slot_tuple_iterator_next hit.typeIs F.entry_tuple_iterator_next ?_ (F.args_tuple_iterator_next_1 _)))
 show wpAny _ _ (field (.ref it) 0 >>= _) _ _ s
 refine wpAny_bind (wpAny_field ho hd (x:=.ref l) rfl ?_)
 show wpAny _ _ (if (Value.ref l == Value.none) = true then _ else _) _ _ s
 rw [if_neg (show ¬ ((Value.ref l == Value.none) = true) from Bool.false_ne_true)]
 show wpAny _ _ (field (.ref it) 1 >>= _) _ _ s
 refine wpAny_bind (wpAny_field ho hd (x:=.int i 0) rfl ?_)
 show wpAny _ _ (seqItems? (.ref l) >>= _) _ _ s
 refine wpAny_bind (wpAny_seqItems hol hdl ?_)
 simp only [Int.toNat_natCast, hx]
 refine wpAny_bind (wpAny_rule (wpAny_bind (wpAny_setField ho hd (by simp) ?_)))
 show wpAny _ _ (newExc (.type "StopIteration") [] >>= _) _ _ _
 refine wpAny_bind ?_
 simp only [newExc, newTuple]
 refine wpAny_bind (wpAny_newObj_type ?_ (by size_fits))
 refine wpAny_bind (m:=firstArgMember _ _) (wpAny_of_eq (a:=Value.none) (by first | rfl | (simp only [firstArgMember]; rfl)) ?_)
 refine wpAny_newObj_type ?_ (by size_fits)
 simp only [raiseNew]
 refine wpAny_bind (wpAny_handled ?_)
 first | rw [show A.in1.handled = none from hh] | rw [hh]
 refine wpAny_bind (wpAny_pure (wpAny_throw ?_))
 exact hE _ _ (((Heap.SameBut.update ..).extBut.push _).push _) ⟨_, Heap.get?_push_size _ rfl, rfl⟩
theorem zvp {b : Bool} {it l : Addr} {i : Nat} {xs : Array Value} {x : Value} {Q : Value → Shared → Prop} (hit : SqIt b s.heap it l i) (hl : zhb b s.heap l xs) (hx : xs[i]? = some x)
  (hQ : ∀ h', SqIt b h' it l (i + 1) → Heap.SameBut it s.heap h' → Q x { s with heap:=h' }) : wpAny (model prog w) A (Builtin.SmallTypes.nextOf (.ref it)) Q E s:=by
 cases b with
 | true=>exact wpAny_nextOf_list_item hit hl hx hQ
 | false=>exact zvo hit hl hx hQ
theorem zacv {b : Bool} {it l : Addr} {i : Nat} {xs : Array Value} {Q : Value → Shared → Prop} (hh : A.handled = none) (hit : SqIt b s.heap it l i) (hl : zhb b s.heap l xs) (hx : xs[i]? = none)
  (hE : ∀ h' e, Heap.ExtBut it s.heap h' → (∃ o, h'.get? e = some o ∧ o.cls = .type "StopIteration") → E (.ref e) { s with heap:=h' }) : wpAny (model prog w) A (Builtin.SmallTypes.nextOf (.ref it)) Q E s:=by
 cases b with
 | true=>exact wpAny_nextOf_list_end hh hit hl hx hE
 | false=>exact zyg hh hit hl hx hE
theorem zaem {b1 b2 : Bool} {z TI TO i1 i2 l1 l2 : Addr} {k1 k2 : Nat} {xs ys : Array Value} {x y a b : Value} {Q : Value → Shared → Prop} (D : ZipApart z TI TO i1 i2 l1 l2)
  (hz : IsZip s.heap z TI TO .none) (hTI : IsPair s.heap TI (.ref i1) (.ref i2)) (hTO : IsPair s.heap TO a b)
  (h1 : SqIt b1 s.heap i1 l1 k1) (h2 : SqIt b2 s.heap i2 l2 k2) (hl1 : zhb b1 s.heap l1 xs) (hl2 : zhb b2 s.heap l2 ys) (hx : xs[k1]? = some x) (hy : ys[k2]? = some y)
  (hQ : ∀ h', IsZip h' z TI TO (rawInt s.heap.objs.size) → IsPair h' TO x y → SqIt b1 h' i1 l1 (k1 + 1) → SqIt b2 h' i2 l2 (k2 + 1) → IsPair h' s.heap.objs.size x y → h'.objs.size = s.heap.objs.size + 1 →
   (∀ c o, c ≠ z → c ≠ TO → c ≠ i1 → c ≠ i2 → s.heap.get? c = some o → h'.get? c = some o) → Q (.ref s.heap.objs.size) { s with heap:=h' }) :
  wpAny (model prog w) A (Builtin.«zip.__next__» ⟨[.ref z], []⟩) (fun fin s'=>∃ v, fin = .done (.ret v) ∧ Q v s') E s:=by
 show wpAny _ _ (field (.ref z) 2 >>= _) _ _ _
 refine wpAny_bind (wpAny_field hz rfl (x:=.bool false) rfl ?_)
 show wpAny _ _ (field (.ref z) 3 >>= _) _ _ _
 refine wpAny_bind (wpAny_field hz rfl (x:=.ref TI) rfl ?_)
 refine wpAny_bind (wpAny_seqItems hTI rfl ?_)
 show wpAny _ _ (Builtin.SmallTypes.ownedTupleIsFree (.ref z) >>= _) _ _ _
 refine wpAny_bind ?_
 unfold Builtin.SmallTypes.ownedTupleIsFree
 refine wpAny_bind (wpAny_field hz rfl (x:=.none) rfl (wpAny_pure ?_))
 simp only [if_true]
 refine wpAny_bind (wpAny_rule ?_)
 refine wpAny_bind (wpAny_field hz rfl (x:=.ref TO) rfl ?_)
 refine wpAny_bind (wpAny_setField_rec hz (by simp) fun h₁ hz₁ hs₁=>?_)
 replace hz₁ : IsZip h₁ z TI TO .ellipsis:=hz₁
 refine wpAny_bind ?_
 simp only [List.zipIdx_cons, List.zipIdx_nil, List.forIn_cons, List.forIn_nil]
 refine wpAny_bind (wpAny_bind (wpAny_onRaise ?_))
 show wpAny _ _ (Builtin.SmallTypes.nextOf (.ref i1) >>= _) _ _ _
 refine wpAny_bind (zvp (h1.extBut hs₁.extBut D.i1z) (hl1.extBut hs₁.extBut D.l1z) hx fun h₂ h1₂ hs₂=>wpAny_pure ?_)
 have hTO₂ : IsPair h₂ TO a b:=hs₂.extBut _ _ D.TOi1 (hs₁.extBut _ _ D.TOz hTO)
 refine wpAny_bind (wpAny_seqItems hTO₂ rfl ?_)
 refine wpAny_bind (wpAny_updateSeq_pair hTO₂ fun h₃ hTO₃ hs₃=>?_)
 replace hTO₃ : IsPair h₃ TO x b:=hTO₃
 refine wpAny_bind (wpAny_letGo (wpAny_pure ?_))
 refine wpAny_bind (wpAny_bind (wpAny_onRaise ?_))
 show wpAny _ _ (Builtin.SmallTypes.nextOf (.ref i2) >>= _) _ _ _
 refine wpAny_bind (zvp (((h2.extBut hs₁.extBut D.i2z).extBut hs₂.extBut D.i12.symm).extBut hs₃.extBut D.TOi2.symm)
  (((hl2.extBut hs₁.extBut D.l2z).extBut hs₂.extBut D.l2i1).extBut hs₃.extBut D.l2TO) hy fun h₄ h2₄ hs₄=>wpAny_pure ?_)
 have hTO₄ : IsPair h₄ TO x b:=hs₄.extBut _ _ D.TOi2 hTO₃
 refine wpAny_bind (wpAny_seqItems hTO₄ rfl ?_)
 refine wpAny_bind (wpAny_updateSeq_pair hTO₄ fun h₅ hTO₅ hs₅=>?_)
 replace hTO₅ : IsPair h₅ TO x y:=hTO₅
 refine wpAny_bind (wpAny_letGo (wpAny_pure (wpAny_pure ?_)))
 refine wpAny_bind (wpAny_seqItems hTO₅ rfl ?_)
 refine wpAny_bind (wpAny_newTuple ?_)
 have hsz : h₅.objs.size = s.heap.objs.size:=by rw [hs₅.1, hs₄.1, hs₃.1, hs₂.1, hs₁.1]
 have hz₅ : IsZip h₅ z TI TO .ellipsis:=hs₅.extBut _ _ D.TOz.symm (hs₄.extBut _ _ D.i2z.symm (hs₃.extBut _ _ D.TOz.symm (hs₂.extBut _ _ D.i1z.symm hz₁)))
 have hk₅ : ∀ c o, c ≠ z → c ≠ TO → c ≠ i1 → c ≠ i2 → s.heap.get? c = some o → h₅.get? c = some o:=fun c o c1 c2 c3 c4 e =>
  hs₅.extBut _ _ c2 (hs₄.extBut _ _ c4 (hs₃.extBut _ _ c2 (hs₂.extBut _ _ c3 (hs₁.extBut _ _ c1 e))))
 have h1₅ : SqIt b1 h₅ i1 l1 (k1 + 1):=((h1₂.extBut hs₃.extBut D.TOi1.symm).extBut hs₄.extBut D.i12).extBut hs₅.extBut D.TOi1.symm
 have h2₅ : SqIt b2 h₅ i2 l2 (k2 + 1):=h2₄.extBut hs₅.extBut D.TOi2.symm
 have hzlt : z < h₅.objs.size:=Heap.lt_size hz₅
 have hTOlt : TO < h₅.objs.size:=Heap.lt_size hTO₅
 have hi1lt : i1 < h₅.objs.size:=by obtain ⟨_, e, _⟩:=h1₅.obj; exact Heap.lt_size e
 have hi2lt : i2 < h₅.objs.size:=by obtain ⟨_, e, _⟩:=h2₅.obj; exact Heap.lt_size e
 show wpAny _ _ (Builtin.SmallTypes.ownedTupleHandOut (.ref z) (.ref h₅.objs.size) >>= _) _ _ _
 refine wpAny_bind ?_
 unfold Builtin.SmallTypes.ownedTupleHandOut
 have hz₆ : IsZip (h₅.push { cls:=.type "tuple", data:=.seq #[x, y] }) z TI TO .ellipsis:=Heap.get?_push_of_some _ hz₅
 refine wpAny_bind (wpAny_setField_rec hz₆ (by simp) fun h₇ hz₇ hs₇=>?_)
 replace hz₇ : IsZip h₇ z TI TO (rawInt h₅.objs.size):=hz₇
 refine wpAny_setField_rec hz₇ (by simp) fun h₈ hz₈ hs₈=>?_
 replace hz₈ : IsZip h₈ z TI TO (rawInt h₅.objs.size):=hz₈
 have up : ∀ c o, c ≠ z → h₅.get? c = some o → h₈.get? c = some o:=fun c o c1 e=>hs₈.extBut _ _ c1 (hs₇.extBut _ _ c1 (Heap.get?_push_of_some _ e))
 have hT₈ : IsPair h₈ h₅.objs.size x y:=hs₈.extBut _ _ (Nat.ne_of_gt hzlt) (hs₇.extBut _ _ (Nat.ne_of_gt hzlt) (Heap.get?_push_size _ rfl))
 have hz8 : h₈.objs.size = h₅.objs.size + 1:=by rw [hs₈.1, hs₇.1, Heap.size_push]
 rw [hsz] at hz₈ hT₈ hz8
 refine wpAny_pure ⟨_, rfl, ?_⟩
 show Q (.ref h₅.objs.size) _
 rw [hsz]
 exact hQ h₈ hz₈ (up _ _ D.TOz hTO₅) (h1₅.at fun o e=>up _ o D.i1z e) (h2₅.at fun o e=>up _ o D.i2z e) hT₈ hz8 fun c o c1 c2 c3 c4 e=>up c o c1 (hk₅ c o c1 c2 c3 c4 e)
theorem zahr {b1 b2 : Bool} {z TI TO i1 i2 l1 l2 : Addr} {k1 k2 : Nat} {xs ys : Array Value} {a b : Value} {Q : Fin → Shared → Prop} (hh : A.handled = none) (D : ZipApart z TI TO i1 i2 l1 l2)
  (hz : IsZip s.heap z TI TO .none) (hTI : IsPair s.heap TI (.ref i1) (.ref i2)) (hTO : IsPair s.heap TO a b)
  (h1 : SqIt b1 s.heap i1 l1 k1) (h2 : SqIt b2 s.heap i2 l2 k2) (hl1 : zhb b1 s.heap l1 xs) (hl2 : zhb b2 s.heap l2 ys) (hend : xs[k1]? = none ∨ ys[k2]? = none)
  (hE : ∀ h' e, (∀ c o, c ≠ z → c ≠ TO → c ≠ i1 → c ≠ i2 → s.heap.get? c = some o → h'.get? c = some o) → (∃ o, h'.get? e = some o ∧ o.cls = .type "StopIteration") → E (.ref e) { s with heap:=h' }) :
  wpAny (model prog w) A (Builtin.«zip.__next__» ⟨[.ref z], []⟩) Q E s:=by
 show wpAny _ _ (field (.ref z) 2 >>= _) _ _ _
 refine wpAny_bind (wpAny_field hz rfl (x:=.bool false) rfl ?_)
 show wpAny _ _ (field (.ref z) 3 >>= _) _ _ _
 refine wpAny_bind (wpAny_field hz rfl (x:=.ref TI) rfl ?_)
 refine wpAny_bind (wpAny_seqItems hTI rfl ?_)
 show wpAny _ _ (Builtin.SmallTypes.ownedTupleIsFree (.ref z) >>= _) _ _ _
 refine wpAny_bind ?_
 unfold Builtin.SmallTypes.ownedTupleIsFree
 refine wpAny_bind (wpAny_field hz rfl (x:=.none) rfl (wpAny_pure ?_))
 simp only [if_true]
 refine wpAny_bind (wpAny_rule ?_)
 refine wpAny_bind (wpAny_field hz rfl (x:=.ref TO) rfl ?_)
 refine wpAny_bind (wpAny_setField_rec hz (by simp) fun h₁ hz₁ hs₁=>?_)
 replace hz₁ : IsZip h₁ z TI TO .ellipsis:=hz₁
 refine wpAny_bind ?_
 simp only [List.zipIdx_cons, List.zipIdx_nil, List.forIn_cons, List.forIn_nil]
 refine wpAny_bind (wpAny_bind (wpAny_onRaise ?_))
 show wpAny _ _ (Builtin.SmallTypes.nextOf (.ref i1) >>= _) _ _ _
 cases hx : xs[k1]? with
 | none =>
  refine wpAny_bind (zacv hh (h1.extBut hs₁.extBut D.i1z) (hl1.extBut hs₁.extBut D.l1z) hx fun h₂ e hs₂ he=>?_)
  obtain ⟨oe, hoe, hce⟩:=he
  have hz₂ : IsZip h₂ z TI TO .ellipsis:=hs₂ _ _ D.i1z.symm hz₁
  have hez : e ≠ z:=fun x=>by subst x; rw [hz₂] at hoe; cases hoe; simp at hce
  refine wpAny_setField_rec hz₂ (by simp) fun h₃ _ hs₃=>hE h₃ e (fun c o c1 _ c3 _ x=>hs₃.extBut _ _ c1 (hs₂ _ _ c3 (hs₁.extBut _ _ c1 x))) ⟨oe, hs₃.extBut _ _ hez hoe, hce⟩
 | some x =>
  have hy : ys[k2]? = none:=by rcases hend with h | h; rw [hx] at h; cases h; exact h
  refine wpAny_bind (zvp (h1.extBut hs₁.extBut D.i1z) (hl1.extBut hs₁.extBut D.l1z) hx fun h₂ h1₂ hs₂=>wpAny_pure ?_)
  have hTO₂ : IsPair h₂ TO a b:=hs₂.extBut _ _ D.TOi1 (hs₁.extBut _ _ D.TOz hTO)
  refine wpAny_bind (wpAny_seqItems hTO₂ rfl ?_)
  refine wpAny_bind (wpAny_updateSeq_pair hTO₂ fun h₃ hTO₃ hs₃=>?_)
  refine wpAny_bind (wpAny_letGo (wpAny_pure ?_))
  refine wpAny_bind (wpAny_bind (wpAny_onRaise ?_))
  show wpAny _ _ (Builtin.SmallTypes.nextOf (.ref i2) >>= _) _ _ _
  refine wpAny_bind (zacv hh (((h2.extBut hs₁.extBut D.i2z).extBut hs₂.extBut D.i12.symm).extBut hs₃.extBut D.TOi2.symm)
   (((hl2.extBut hs₁.extBut D.l2z).extBut hs₂.extBut D.l2i1).extBut hs₃.extBut D.l2TO) hy fun h₄ e hs₄ he=>?_)
  obtain ⟨oe, hoe, hce⟩:=he
  have hz₄ : IsZip h₄ z TI TO .ellipsis:=hs₄ _ _ D.i2z.symm (hs₃.extBut _ _ D.TOz.symm (hs₂.extBut _ _ D.i1z.symm hz₁))
  have hez : e ≠ z:=fun x=>by subst x; rw [hz₄] at hoe; cases hoe; simp at hce
  refine wpAny_setField_rec hz₄ (by simp) fun h₅ _ hs₅=>hE h₅ e (fun c o c1 c2 c3 c4 x=>hs₅.extBut _ _ c1 (hs₄ _ _ c4 (hs₃.extBut _ _ c2 (hs₂.extBut _ _ c3 (hs₁.extBut _ _ c1 x))))) ⟨oe, hs₅.extBut _ _ hez hoe, hce⟩
structure ZipAt (b1 b2 : Bool) (h : Heap) (z TI TO i1 i2 l1 l2 : Addr) (f0 : Value) (k : Nat) : Prop where
 z : IsZip h z TI TO f0
 ti : IsPair h TI (.ref i1) (.ref i2)
 to : ∃ a b, IsPair h TO a b
 i1 : SqIt b1 h i1 l1 k
 i2 : SqIt b2 h i2 l2 k
theorem zahs {b1 b2 : Bool} {z TI TO i1 i2 l1 l2 : Addr} {k : Nat} {xs ys : Array Value} {x y : Value} {Q : Value → Shared → Prop} (D : ZipApart z TI TO i1 i2 l1 l2)
  (hz : ZipAt b1 b2 s.heap z TI TO i1 i2 l1 l2 .none k) (hl1 : zhb b1 s.heap l1 xs) (hl2 : zhb b2 s.heap l2 ys) (hx : xs[k]? = some x) (hy : ys[k]? = some y)
  (hQ : ∀ h', ZipAt b1 b2 h' z TI TO i1 i2 l1 l2 (rawInt s.heap.objs.size) (k + 1) → IsPair h' s.heap.objs.size x y →
   (∀ c o, c ≠ z → c ≠ TO → c ≠ i1 → c ≠ i2 → s.heap.get? c = some o → h'.get? c = some o) → Q (.ref s.heap.objs.size) { s with heap:=h' }) :
  wpAny (model prog w) A (Builtin.«zip.__next__» ⟨[.ref z], []⟩) (fun fin s'=>∃ v, fin = .done (.ret v) ∧ Q v s') E s:=by
 obtain ⟨p1, p2, ⟨a, b, p3⟩, p4, p5⟩:=hz
 exact zaem D p1 p2 p3 p4 p5 hl1 hl2 hx hy fun h' q1 q2 q3 q4 q5 _ q7=>hQ h' ⟨q1, q7 _ _ D.TIz D.TITO D.TIi1 D.TIi2 p2, ⟨x, y, q2⟩, q3, q4⟩ q5 q7
theorem zakv {b1 b2 : Bool} {z TI TO i1 i2 l1 l2 : Addr} {k : Nat} {xs ys : Array Value} {Q : Fin → Shared → Prop} (hh : A.handled = none) (D : ZipApart z TI TO i1 i2 l1 l2)
  (hz : ZipAt b1 b2 s.heap z TI TO i1 i2 l1 l2 .none k) (hl1 : zhb b1 s.heap l1 xs) (hl2 : zhb b2 s.heap l2 ys) (hend : xs[k]? = none ∨ ys[k]? = none)
  (hE : ∀ h' e, (∀ c o, c ≠ z → c ≠ TO → c ≠ i1 → c ≠ i2 → s.heap.get? c = some o → h'.get? c = some o) → (∃ o, h'.get? e = some o ∧ o.cls = .type "StopIteration") → E (.ref e) { s with heap:=h' }) :
  wpAny (model prog w) A (Builtin.«zip.__next__» ⟨[.ref z], []⟩) Q E s:=by
 obtain ⟨p1, p2, ⟨a, b, p3⟩, p4, p5⟩:=hz
 exact zahr hh D p1 p2 p3 p4 p5 hl1 hl2 hend hE
end
end PySem
namespace L2
open PySem PySem.Spec PyProof.Rows
noncomputable def SqX (b : Bool) (K : PySem.W.Frag) (H : Hp) (a : Addr) (xs : List V) : Prop:=match b with
 | true=>SqL K H a xs
 | false=>SqT K H a xs
section
variable {X : Cx} {pins : List (Addr × Obj)} {σ : St} {H : Hp} {s : Shared}
theorem Inv.sq {b : Bool} {a : Addr} {xs : List V} (I : Inv X pins σ H s) (h : SqX b X.K H a xs) : ∃ its : List Value, Vals xs its ∧ zhb b s.heap a its.toArray ∧ xs.length ≤ sizeLine:=by
 cases b with
 | true=>obtain ⟨its, r, p, z⟩:=I.list h; exact ⟨its, r, p.isList, z⟩
 | false=>obtain ⟨its, r, p, z⟩:=I.tuple h; exact ⟨its, r, (show s.heap.IsTuple a its.toArray from p), z⟩
theorem Inv.sq_inj {b : Bool} {a : Addr} {xs ys : List V} (I : Inv X pins σ H s) (h : SqX b X.K H a xs) (h' : SqX b X.K H a ys) : xs = ys:=by
 cases b with
 | true=>exact I.list_inj h h'
 | false=>exact I.tuple_inj h h'
end
noncomputable def Itz (K : PySem.W.Frag) (b1 : Bool) (a1 : Addr) (b2 : Bool) (a2 : Addr) : It :=
 ⟨fun i H=>∃ xs ys x y, SqX b1 K H a1 xs ∧ SqX b2 K H a2 ys ∧ xs[i]? = some x ∧ ys[i]? = some y,
  fun i H v H'=>∃ p x y, v = .ref p ∧ H p = none ∧ H' = upd H p (.tup [x, y]) ∧ (∀ xs, SqX b1 K H a1 xs → xs[i]? = some x) ∧ ∀ ys, SqX b2 K H a2 ys → ys[i]? = some y,
  fun i H=>∃ xs ys, SqX b1 K H a1 xs ∧ SqX b2 K H a2 ys ∧ (xs.length ≤ i ∨ ys.length ≤ i)⟩
theorem zakw {P : Program} {w : World} {K : PySem.W.Frag} {elts : List Expr} {x1} {tpos : Pos} {b1 b2 : Bool} {z TI TO i1 i2 l1 l2 : Addr} (D : ZipApart z TI TO i1 i2 l1 l2) :
  Turn P w K (.Tuple elts x1 tpos) (Itz K b1 l1 b2 l2) [z, TI, TO, i1, i2] z (fun i h=>ZipAt b1 b2 h z TI TO i1 i2 l1 l2 .none i) where
 mem:=by simp
 obj:=fun i h st b hb=>by
  obtain ⟨a, c, hto⟩:=st.to
  simp only [List.mem_cons, List.not_mem_nil, or_false] at hb
  rcases hb with rfl | rfl | rfl | rfl | rfl
  ·exact ⟨_, st.z, fun v q=>by simp at q⟩
  ·exact ⟨_, st.ti, fun v q=>by simp at q⟩
  ·exact ⟨_, hto, fun v q=>by simp at q⟩
  ·exact st.i1.obj
  ·exact st.i2.obj
 keep:=fun i h h' st k=>by
  obtain ⟨a, c, hto⟩:=st.to
  exact ⟨k z (by simp) _ st.z, k TI (by simp) _ st.ti, ⟨a, c, k TO (by simp) _ hto⟩, st.i1.moved fun o q=>k i1 (by simp) o q, st.i2.moved fun o q=>k i2 (by simp) o q⟩
 item:=by
  intro X hP hw hK hc i pins s σ H E I hf st hg
  subst hP hw hK
  obtain ⟨xs, ys, x, y, q1, q2, hx, hy⟩:=hg
  obtain ⟨its1, rv1, p1, _⟩:=I.sq q1
  obtain ⟨its2, rv2, p2, _⟩:=I.sq q2
  obtain ⟨u1, hu1, ru1⟩:=rv1.get hx
  obtain ⟨u2, hu2, ru2⟩:=rv2.get hy
  have hT : s.TypeIs (.ref z) "zip":=⟨_, st.z, rfl⟩
  unfold pyNext
  refine wpAny_bind (wpAny_attempt (wpAny_callSpecial?_slot (name:=Str.ofString "__next__") hT F.slot_zip_next (wpAny_call_entry F.slot_zip_next hT F.entry_zip_next
   (zahs D st p1 p2 (x:=u1) (y:=u2) (by simpa using hu1) (by simpa using hu2) fun h1 zt tp kp=>wpAny_pure ?_) (F.args_zip_next_1 _))))
  refine ⟨_, rfl, wpAny_letOwnedTupleGo_zip (s:={ s with heap:=h1 }) zt.z fun h2 z2 sb2=>?_⟩
  have hp : H s.heap.objs.size = none:=I.hok.fresh (Nat.le_refl _)
  have fz:=hf z (by simp)
  have fO:=hf TO (by simp)
  have f1:=hf i1 (by simp)
  have f2:=hf i2 (by simp)
  have lt : ∀ b ∈ [z, TI, TO, i1, i2], b ≠ s.heap.objs.size:=fun b hb=>by
   obtain ⟨a, c, hto⟩:=st.to
   simp only [List.mem_cons, List.not_mem_nil, or_false] at hb
   rcases hb with rfl | rfl | rfl | rfl | rfl
   ·exact Nat.ne_of_lt (Heap.lt_size st.z)
   ·exact Nat.ne_of_lt (Heap.lt_size st.ti)
   ·exact Nat.ne_of_lt (Heap.lt_size hto)
   ·obtain ⟨o, q, _⟩:=st.i1.obj; exact Nat.ne_of_lt (Heap.lt_size q)
   ·obtain ⟨o, q, _⟩:=st.i2.obj; exact Nat.ne_of_lt (Heap.lt_size q)
  have k2 : ∀ b o, b ≠ z → b ≠ TO → b ≠ i1 → b ≠ i2 → s.heap.get? b = some o → h2.get? b = some o:=fun b o e1 e2 e3 e4 q=>(sb2.2 b e1).trans (kp b o e1 e2 e3 e4 q)
  have t2 : IsPair h2 s.heap.objs.size u1 u2:=(sb2.2 _ (Ne.symm (lt z (by simp)))).trans tp
  have nch : ∀ b, b ∉ [z, TO, i1, i2] → b ≠ z ∧ b ≠ TO ∧ b ≠ i1 ∧ b ≠ i2:=fun b hb=>⟨fun q=>hb (by simp [q]), fun q=>hb (by simp [q]), fun q=>hb (by simp [q]), fun q=>hb (by simp [q])⟩
  have k3 : ∀ b o, b ∉ [z, TO, i1, i2] → s.heap.get? b = some o → h2.get? b = some o:=fun b o hb q=>let ⟨e1, e2, e3, e4⟩:=nch b hb; k2 b o e1 e2 e3 e4 q
  have nH : ∀ c v, H c = some v → c ∉ [z, TO, i1, i2]:=fun c v q hc=>by
   have : H c = none:=by
    simp only [List.mem_cons, List.not_mem_nil, or_false] at hc
    rcases hc with rfl | rfl | rfl | rfl
    ·exact fz.1
    ·exact fO.1
    ·exact f1.1
    ·exact f2.1
   rw [this] at q; cases q
  refine ⟨.ref s.heap.objs.size, upd H s.heap.objs.size (.tup [x, y]), ?_, rfl, ⟨_, x, y, rfl, hp, rfl, fun zs q=>by rw [I.sq_inj q q1]; exact hx, fun zs q=>by rw [I.sq_inj q q2]; exact hy⟩, ?_, fun b hb=>by rw [zcj (lt b hb)]; exact (hf b hb).1⟩
  ·refine Inv.step (s:=s) (h':=h2) (g':=s.gens) (d':=s.drawn) (t':=s.toks) (ch:=[z, TO, i1, i2]) I (fun b hb=>?_) (fun b o _ _ hc q _=>k3 b o hc q) (fun b o _ _ hc q _=>⟨o.slots, k3 b o hc q⟩)
    (fun b o _ q n=>by rw [zcj (Nat.ne_of_lt (Heap.lt_size q))]; exact n) (fun b o hc q=>⟨o, k3 b o hc q⟩)
    (fun b xs q=>by rw [zcj (zce q hp)]; exact q) (fun b o v q=>by rw [zcj (zce q hp)]; exact q) (fun b ps q=>⟨#[], by rw [zcj (zce q hp), q]; simp⟩) (fun m hm=>?_) (fun b v q=>?_) I.bare
   ·have:=hf b (by
     simp only [List.mem_cons, List.not_mem_nil, or_false] at hb ⊢
     rcases hb with rfl | rfl | rfl | rfl <;> simp)
    exact ⟨this.2.2.2.1, this.2.1, this.2.2.2.2.1, this.2.2.2.2.2⟩
   ·obtain ⟨o, es, ep, ho, r⟩:=hm
    exact ⟨o, es, ep, k2 _ o (Ne.symm fz.2.1) (Ne.symm fO.2.1) (Ne.symm f1.2.1) (Ne.symm f2.2.1) ho, r⟩
   ·by_cases hb : b = s.heap.objs.size
    ·subst hb
     rw [zbn] at q
     cases q
     exact ⟨by show 2 ≤ sizeLine; decide, [u1, u2], .cons ru1 (.cons ru2 .nil), _, t2, rfl, _, rfl⟩
    ·rw [zcj hb] at q
     refine (I.hok b v q).stay (fun c w' hc r=>?_) (fun c r=>by rw [zcj (zce r hp)]; exact r) fun c ys r=>by rw [zcj (zce r hp)]; exact r
     rcases hc with rfl | hc
     ·exact k3 c w' (nH c v q) r
     ·exact k3 c w' (nH c _ hc) r
  ·obtain ⟨a, c, hto⟩:=zt.to
   exact ⟨z2, (sb2.2 _ D.TIz).trans zt.ti, ⟨a, c, (sb2.2 _ D.TOz).trans hto⟩, zt.i1.moved fun o q=>(sb2.2 _ D.i1z).trans q, zt.i2.moved fun o q=>(sb2.2 _ D.i2z).trans q⟩
 done:=by
  intro X hP hw hK hc i pins s σ H E I hf st hg
  subst hP hw hK
  obtain ⟨xs, ys, q1, q2, hle⟩:=hg
  obtain ⟨its1, rv1, p1, _⟩:=I.sq q1
  obtain ⟨its2, rv2, p2, _⟩:=I.sq q2
  have l1':=rv1.length
  have l2':=rv2.length
  have hT : s.TypeIs (.ref z) "zip":=⟨_, st.z, rfl⟩
  unfold pyNext
  refine wpAny_bind (wpAny_attempt (wpAny_callSpecial?_slot (name:=Str.ofString "__next__") hT F.slot_zip_next (wpAny_call_entry F.slot_zip_next hT F.entry_zip_next
   (zakv (by exact I.ok.hd hc) D st p1 p2 (by rcases hle with q | q; exact .inl (by simp; omega); exact .inr (by simp; omega)) fun h' e kp he=>?_) (F.args_zip_next_1 _))))
  obtain ⟨o, ho, hcl⟩:=he
  refine wpAny_bind (wpAny_isInstance (T:="StopIteration") (b:=true) ⟨o, ho, hcl⟩ isSubtype_stop (wpAny_pure ⟨rfl, ?_⟩))
  have fz:=hf z (by simp)
  have fO:=hf TO (by simp)
  have f1:=hf i1 (by simp)
  have f2:=hf i2 (by simp)
  have nch : ∀ b, b ∉ [z, TO, i1, i2] → b ≠ z ∧ b ≠ TO ∧ b ≠ i1 ∧ b ≠ i2:=fun b hb=>⟨fun q=>hb (by simp [q]), fun q=>hb (by simp [q]), fun q=>hb (by simp [q]), fun q=>hb (by simp [q])⟩
  have k3 : ∀ b o, b ∉ [z, TO, i1, i2] → s.heap.get? b = some o → h'.get? b = some o:=fun b o hb q=>let ⟨e1, e2, e3, e4⟩:=nch b hb; kp b o e1 e2 e3 e4 q
  have nH : ∀ c v, H c = some v → c ∉ [z, TO, i1, i2]:=fun c v q hc=>by
   have : H c = none:=by
    simp only [List.mem_cons, List.not_mem_nil, or_false] at hc
    rcases hc with rfl | rfl | rfl | rfl
    ·exact fz.1
    ·exact fO.1
    ·exact f1.1
    ·exact f2.1
   rw [this] at q; cases q
  refine Inv.step (s:=s) (h':=h') (g':=s.gens) (d':=s.drawn) (t':=s.toks) (ch:=[z, TO, i1, i2]) I (fun b hb=>?_) (fun b o _ _ hc q _=>k3 b o hc q) (fun b o _ _ hc q _=>⟨o.slots, k3 b o hc q⟩)
    (fun b o _ q n=>n) (fun b o hc q=>⟨o, k3 b o hc q⟩) (fun b xs q=>q) (fun b o v q=>q) (fun b ps q=>⟨#[], by rw [q]; simp⟩) (fun m hm=>?_) (fun b v q=>?_) I.bare
  ·have:=hf b (by
     simp only [List.mem_cons, List.not_mem_nil, or_false] at hb ⊢
     rcases hb with rfl | rfl | rfl | rfl <;> simp)
   exact ⟨this.2.2.2.1, this.2.1, this.2.2.2.2.1, this.2.2.2.2.2⟩
  ·obtain ⟨o, es, ep, ho, r⟩:=hm
   exact ⟨o, es, ep, kp _ o (Ne.symm fz.2.1) (Ne.symm fO.2.1) (Ne.symm f1.2.1) (Ne.symm f2.2.1) ho, r⟩
  ·refine (I.hok b v q).stay (fun c w' hc r=>?_) (fun c r=>r) fun c ys r=>r
   rcases hc with rfl | hc
   ·exact k3 c w' (nH c v q) r
   ·exact k3 c w' (nH c _ hc) r
 self:=fun _ _ _ _ _ st h=>wpAny_pyIter_zip st.z h
end L2
namespace PySem
open Sem (wp)
noncomputable def itO (b : Bool) (l : Addr) : Obj:=match b with
 | true=>{ cls:=.type "list_iterator", data:=.fields #[.ref l, .int 0 0] }
 | false=>{ cls:=.type "tuple_iterator", data:=.fields #[.ref l, .int 0 0] }
noncomputable def zx1 (b1 : Bool) (h : Heap) (l1 : Addr) : Heap:=h.push (itO b1 l1)
noncomputable def zx2 (b1 b2 : Bool) (h : Heap) (l1 l2 : Addr) : Heap:=(zx1 b1 h l1).push (itO b2 l2)
noncomputable def zx3 (b1 b2 : Bool) (h : Heap) (l1 l2 : Addr) : Heap:=(zx2 b1 b2 h l1 l2).push { cls:=.type "tuple", data:=.seq #[.ref h.objs.size, .ref (zx1 b1 h l1).objs.size] }
noncomputable def zx4 (b1 b2 : Bool) (h : Heap) (l1 l2 : Addr) : Heap:=(zx3 b1 b2 h l1 l2).push { cls:=.type "tuple", data:=.seq #[.none, .none] }
noncomputable def zx5 (b1 b2 : Bool) (h : Heap) (l1 l2 : Addr) : Heap:=(zx4 b1 b2 h l1 l2).push { cls:=.type "zip", data:=.fields #[.none, .bool false, .bool false, .ref (zx2 b1 b2 h l1 l2).objs.size, .ref (zx3 b1 b2 h l1 l2).objs.size] }
theorem zaen (b1 b2 : Bool) (l1 l2 : Addr) (xs ys : Array Value) :
  Meets (Builtin.«zip.__new__» ⟨[.type "zip", .ref l1, .ref l2], []⟩) (fun _ R s=>zhb b1 s.heap l1 xs ∧ zhb b2 s.heap l2 ys ∧ R (.ok (.ret (.ref (zx4 b1 b2 s.heap l1 l2).objs.size))) { s with heap:=zx5 b1 b2 s.heap l1 l2 }) :=
 .of_wp fun prog w A R s h=>by
  obtain ⟨hp, g, d, tk, os⟩:=s; obtain ⟨h1, h2, h⟩:=h
  have hsub:=sub_zip
  cases b1 with
  | true =>
   have e1 : Heap.IsList (Shared.heap ⟨hp, g, d, tk, os⟩) l1 xs:=h1
   cases b2 with
   | true =>
    have e2 : Heap.IsList (Shared.heap ⟨hp.push { cls:=.type "list_iterator", data:=.fields #[.ref l1, .int 0 0] }, g, d, tk, os⟩) l2 ys:=Heap.IsList.push h2 _
    wp_walk using wpAny_pyIter_list e1, wpAny_pyIter_list e2
    exact ⟨_, rfl, h⟩
   | false =>
    have e2 : Heap.IsTuple (Shared.heap ⟨hp.push { cls:=.type "list_iterator", data:=.fields #[.ref l1, .int 0 0] }, g, d, tk, os⟩) l2 ys:=Heap.IsTuple.push h2 _
    wp_walk using wpAny_pyIter_list e1, wpAny_pyIter_tuple e2
    exact ⟨_, rfl, h⟩
  | false =>
   have e1 : Heap.IsTuple (Shared.heap ⟨hp, g, d, tk, os⟩) l1 xs:=h1
   cases b2 with
   | true =>
    have e2 : Heap.IsList (Shared.heap ⟨hp.push { cls:=.type "tuple_iterator", data:=.fields #[.ref l1, .int 0 0] }, g, d, tk, os⟩) l2 ys:=Heap.IsList.push h2 _
    wp_walk using wpAny_pyIter_tuple e1, wpAny_pyIter_list e2
    exact ⟨_, rfl, h⟩
   | false =>
    have e2 : Heap.IsTuple (Shared.heap ⟨hp.push { cls:=.type "tuple_iterator", data:=.fields #[.ref l1, .int 0 0] }, g, d, tk, os⟩) l2 ys:=Heap.IsTuple.push h2 _
    wp_walk using wpAny_pyIter_tuple e1, wpAny_pyIter_tuple e2
    exact ⟨_, rfl, h⟩
theorem zvq {b : Bool} {h : Heap} {a l : Addr} (e : h.get? a = some (itO b l)) : SqIt b h a l 0:=by
 cases b with
 | true=>exact ⟨_, e, rfl, rfl⟩
 | false=>exact ⟨_, e, rfl, rfl⟩
theorem zaht {prog : Program} {w : World} {A : Around} {E : Value → Shared → Prop} {s : Shared} {b1 b2 : Bool} {l1 l2 : Addr} {xs ys : Array Value} {Q : Value → Shared → Prop} (h1 : zhb b1 s.heap l1 xs) (h2 : zhb b2 s.heap l2 ys)
  (h : ∀ h', ZipAt b1 b2 h' (s.heap.objs.size + 4) (s.heap.objs.size + 2) (s.heap.objs.size + 3) s.heap.objs.size (s.heap.objs.size + 1) l1 l2 .none 0 → (∀ c o, s.heap.get? c = some o → h'.get? c = some o) → Q (.ref (s.heap.objs.size + 4)) { s with heap:=h' }) :
  wpAny (model prog w) A (call (.type "zip") [.ref l1, .ref l2]) Q E s:=by
 refine callType_new F.called_zip (by decide) (F.typeCall_zip_2 _ _) (F.newCall_zip_2 _ _) (fun obj=>F.args_object_init_3 obj _ _) F.entry_zip_new (zaen b1 b2 l1 l2 xs ys) ⟨h1, h2, ?_⟩
 have z1 : (zx1 b1 s.heap l1).objs.size = s.heap.objs.size + 1:=Heap.size_push ..
 have z2 : (zx2 b1 b2 s.heap l1 l2).objs.size = s.heap.objs.size + 2:=by unfold zx2; rw [Heap.size_push, z1]
 have z3 : (zx3 b1 b2 s.heap l1 l2).objs.size = s.heap.objs.size + 3:=by unfold zx3; rw [Heap.size_push, z2]
 have z4 : (zx4 b1 b2 s.heap l1 l2).objs.size = s.heap.objs.size + 4:=by unfold zx4; rw [Heap.size_push, z3]
 have fr : ∀ o : Obj, (zx5 b1 b2 s.heap l1 l2).get? (zx4 b1 b2 s.heap l1 l2).objs.size = some { cls:=.type "zip", dict:=none, data:=.fields #[.none, .bool false, .bool false, .ref (zx2 b1 b2 s.heap l1 l2).objs.size, .ref (zx3 b1 b2 s.heap l1 l2).objs.size], slots:=#[] }:=fun _=>Heap.get?_push_size _ rfl
 have g5:=fr { cls:=.none, data:=.seq #[] }
 have g4 : (zx5 b1 b2 s.heap l1 l2).get? (zx3 b1 b2 s.heap l1 l2).objs.size = some { cls:=.type "tuple", data:=.seq #[.none, .none] }:=Heap.get?_push_of_some _ (Heap.get?_push_size _ rfl)
 have g3 : (zx5 b1 b2 s.heap l1 l2).get? (zx2 b1 b2 s.heap l1 l2).objs.size = some { cls:=.type "tuple", data:=.seq #[.ref s.heap.objs.size, .ref (zx1 b1 s.heap l1).objs.size] }:=Heap.get?_push_of_some _ (Heap.get?_push_of_some _ (Heap.get?_push_size _ rfl))
 have g2 : (zx5 b1 b2 s.heap l1 l2).get? (zx1 b1 s.heap l1).objs.size = some (itO b2 l2):=Heap.get?_push_of_some _ (Heap.get?_push_of_some _ (Heap.get?_push_of_some _ (Heap.get?_push_size _ (by cases b2 <;> rfl))))
 have g1 : (zx5 b1 b2 s.heap l1 l2).get? s.heap.objs.size = some (itO b1 l1):=Heap.get?_push_of_some _ (Heap.get?_push_of_some _ (Heap.get?_push_of_some _ (Heap.get?_push_of_some _ (Heap.get?_push_size _ (by cases b1 <;> rfl)))))
 show _ ∧ _
 rw [z2, z3, z4] at g5
 rw [z1, z2] at g3
 rw [z3] at g4
 rw [z1] at g2
 rw [z4]
 exact ⟨⟨_, g5, rfl⟩, h _ ⟨g5, g3, ⟨_, _, g4⟩, zvq g1, zvq g2⟩ fun c o q=>Heap.get?_push_of_some _ (Heap.get?_push_of_some _ (Heap.get?_push_of_some _ (Heap.get?_push_of_some _ (Heap.get?_push_of_some _ q))))⟩
end PySem
namespace L2
open PySem PySem.Spec PyProof.Rows
theorem zaqs : bootBuiltins "zip" = some (.type "zip"):=by decide +kernel
noncomputable def iZip (K : PySem.W.Frag) (ta : TA) : TI:=fun σ H R=>ta σ H fun vs H1=>∃ b1 b2 a1 a2, vs = [.ref a1, .ref a2] ∧ (∃ xs, SqX b1 K H1 a1 xs) ∧ (∃ ys, SqX b2 K H1 a2 ys) ∧ R (Itz K b1 a1 b2 a2) H1
theorem zhb.there {b : Bool} {h : Heap} {l : Addr} {xs : Array Value} (x : zhb b h l xs) : l < h.objs.size:=by
 cases b with
 | true=>obtain ⟨o, q, _⟩:=x; exact Heap.lt_size q
 | false=>obtain ⟨o, q, _⟩:=x; exact Heap.lt_size q
theorem zahu {n l1 l2 : Nat} (h1 : l1 < n) (h2 : l2 < n) : ZipApart (n + 4) (n + 2) (n + 3) n (n + 1) l1 l2:=by
 constructor <;> first | exact Nat.ne_of_lt (by omega) | exact Nat.ne_of_gt (by omega)
theorem zaqt {X : Cx} {K : PySem.W.Frag} (hK : X.K = K) {a b : Expr} {ta : TA} {p pos : Pos} {elts : List Expr} {x1} {tpos : Pos} (hg : Gl X "zip") (hm : X.mg "zip" = none) (ha : PA X [a, b] ta) (hs : starEach [a, b] X.env = (false, eval a X.env) :: starEach [b] X.env:=by rfl) (hs2 : (backTo pos (starEach [b] X.env)).any (·.1) = false:=by rfl) :
  PI X (.Tuple elts x1 tpos) (.Call (.Name "zip" p) [a, b] [] pos) (iZip K ta):=by
 subst hK
 intro pins s σ H R I h
 refine Call_ (ztx I hg hm zaqs (callWith_type1 (thn (ha pos pins s σ H _ I h) fun us s1 ⟨vs, H1, I1, r1, q1⟩=>?_) hs hs2))
 obtain ⟨b1, b2, l1, l2, rfl, ⟨xs, e1⟩, ⟨ys, e2⟩, q⟩:=q1
 obtain ⟨u1, u2, rfl, ru1, ru2⟩:=zajl r1
 cases ru1
 cases ru2
 obtain ⟨its1, rv1, p1, _⟩:=I1.sq e1
 obtain ⟨its2, rv2, p2, _⟩:=I1.sq e2
 have t1:=zhb.there p1
 have t2:=zhb.there p2
 refine zaht p1 p2 fun h' zt hk=>wpAny_pyIter_zip zt.z ?_
 have I2 : Inv X pins σ H1 { s1 with heap:=h' }:=I1.kept (t':=s1.toks) hk
 have D:=zahu t1 t2
 refine ⟨s1.heap.objs.size + 4, [s1.heap.objs.size + 4, s1.heap.objs.size + 2, s1.heap.objs.size + 3, s1.heap.objs.size, s1.heap.objs.size + 1], _, _, H1, rfl, I2, zakw D, zt, fun c hc=>?_, q⟩
 have hge : s1.heap.objs.size ≤ c:=by
  simp only [List.mem_cons, List.not_mem_nil, or_false] at hc
  rcases hc with rfl | rfl | rfl | rfl | rfl
  ·exact Nat.le_add_right _ _
  ·exact Nat.le_add_right _ _
  ·exact Nat.le_add_right _ _
  ·exact Nat.le_refl _
  ·exact Nat.le_add_right _ _
 exact I1.fpOk hge (I1.hok.fresh hge)
noncomputable def zaeo (f : AF) : IF':=fun env=>(f env).bind fun rs=>match rs with
 | [r, t]=>(zhv r.d).bind fun ds=>(zhv t.d).map fun es=>(List.zipWith (fun d e=>.tuple [d, e]) ds es, r.bs ++ t.bs)
 | _=>none
theorem zahv {K : PySem.W.Frag} {A : Addr → Prop} {H : Hp} {d : PyData} {ds : List PyData} {v : V} (h : Rp (Offs A H) d v) (e : zhv d = some ds) : ∃ (b : Bool) (a : Addr) (xs : List V), v = .ref a ∧ Rps (Offs A H) ds xs ∧ ∀ (B : Addr → Prop) (H' : Hp), Same (Offs A H) (Offs B H') → SqX b K H' a xs:=by
 cases d with
 | list es =>
  cases e
  obtain ⟨a, xs, rfl, ha, r⟩:=zgr h
  exact ⟨true, a, xs, rfl, r, fun B H' s=>SqL.of (zeq (s _ _ ha))⟩
 | tuple es =>
  cases e
  obtain ⟨a, xs, rfl, ha, r⟩:=zff h
  exact ⟨false, a, xs, rfl, r, fun B H' s=>SqT.of (zeq (s _ _ ha))⟩
 | _=>cases e
theorem zakx {ds es : List PyData} {i : Nat} {d : PyData} (h : (List.zipWith (fun d e=>PyData.tuple [d, e]) ds es)[i]? = some d) : ∃ a b, ds[i]? = some a ∧ es[i]? = some b ∧ d = .tuple [a, b]:=by
 rw [List.getElem?_zipWith] at h
 cases e1 : ds[i]? with
 | none=>rw [e1] at h; cases h
 | some a =>
  cases e2 : es[i]? with
  | none=>rw [e1, e2] at h; cases h
  | some b=>rw [e1, e2] at h; cases h; exact ⟨a, b, rfl, rfl, rfl⟩
theorem zamh {K : PySem.W.Frag} {ta : TA} {f : AF} (h1 : SA ta f) : SI (iZip K ta) (zaeo f):=by
 intro fx H0 env σ H h ds bs e R q
 unfold zaeo at e
 obtain ⟨rs, er, e⟩:=Option.bind_eq_some_iff.mp e
 split at e
 ·rename_i r t
  obtain ⟨d1, ed1, e⟩:=Option.bind_eq_some_iff.mp e
  obtain ⟨d2, ed2, e⟩:=Option.map_eq_some_iff.mp e
  cases e
  refine h1 fx H0 env σ H h _ er _ fun vs H1 s hv=>?_
  cases hv with
  | cons hv1 hv' =>
   cases hv' with
   | cons hv2 hv'' =>
    cases hv''
    have sub1 : ∀ b, (fx b ∨ own (frzs env (r.bs ++ t.bs)) σ b) → lim fx env σ r.bs b:=fun b z=>zrf (fun i hi=>List.mem_append_left _ hi) b (zhp b z)
    have sub2 : ∀ b, (fx b ∨ own (frzs env (r.bs ++ t.bs)) σ b) → lim fx env σ t.bs b:=fun b z=>zrf (fun i hi=>List.mem_append_right _ hi) b (zhp b z)
    obtain ⟨b1, a1, xs, rfl, r1, e1⟩:=zahv (K:=K) (Rp.same (Offs.sub sub1) _ hv1.rp) ed1
    obtain ⟨b2, a2, ys, rfl, r2, e2⟩:=zahv (K:=K) (Rp.same (Offs.sub sub2) _ hv2.rp) ed2
    refine ⟨b1, b2, a1, a2, rfl, ⟨xs, e1 _ H1 (Same.refl _)⟩, ⟨ys, e2 _ H1 (Same.refl _)⟩, q _ H1 s ?_⟩
    intro A H' hA ss
    have q1:=e1 A H' ss
    have q2:=e2 A H' ss
    have r1':=Rps.same ss _ r1
    have r2':=Rps.same ss _ r2
    refine ⟨fun i d e=>?_, ⟨xs, ys, q1, q2, ?_⟩⟩
    ·obtain ⟨c1, c2, ec1, ec2, rfl⟩:=zakx e
     obtain ⟨v1, g1, rv1⟩:=r1'.get2 ec1
     obtain ⟨v2, g2, rv2⟩:=r2'.get2 ec2
     refine ⟨⟨xs, ys, v1, v2, q1, q2, g1, g2⟩, fun x H'' y=>?_⟩
     obtain ⟨p, x', y', rfl, hp, rfl, y1, y2⟩:=y
     have z1:=y1 xs q1
     rw [g1] at z1
     cases z1
     have z2:=y2 ys q2
     rw [g2] at z2
     cases z2
     exact ⟨Same.new hp, zri hp (zgs hA hp) (zfg rv1 (zfg rv2 zfo))⟩
    ·rw [List.length_zipWith, r1.length, r2.length]
     rcases Nat.le_total xs.length ys.length with z | z
     ·exact .inl (by rw [Nat.min_eq_left z]; exact Nat.le_refl _)
     ·exact .inr (by rw [Nat.min_eq_right z]; exact Nat.le_refl _)
 ·cases e
end L2
namespace L2
open PySem PySem.Spec PyProof.Rows
noncomputable def rInS (K : PySem.W.Frag) (neg : Bool) : R2:=fun x y H Q=>∃ d c ds, Rep K H d x ∧ Rep K H c y ∧ zhv c = some ds ∧ SeqAt.shaped d = true ∧ SeqAt.shaped c = true ∧ Q (.bl (if neg then !(ds.any fun e=>PyData.eqv e d) else ds.any fun e=>PyData.eqv e d)) H
section
variable {X : Cx}
theorem shp {d : PyData} (h : SeqAt.shaped d = true) : d.canLay0 = true ∧ d.depth ≤ 64:=by
 unfold SeqAt.shaped at h
 rw [Bool.and_eq_true] at h
 exact ⟨h.1, of_decide_eq_true h.2⟩
theorem zyh {K : PySem.W.Frag} (hK : X.K = K) (hu : X.A.units + 64 < cLine) : OpR X (compareOp .NotIn) (rInS K true):=by
 subst hK
 intro pins s σ H x y v u Q I rx ry h
 obtain ⟨d, c, ds, hd, hc, hi, sd, sc, q⟩:=h
 obtain ⟨as, r1⟩:=zir I d hd rx
 obtain ⟨bs, r2⟩:=zir I c hc ry
 obtain ⟨l1, p1⟩:=shp sd
 obtain ⟨l2, p2⟩:=shp sc
 have q : EP X pins σ Q (.bool (!(ds.any fun e=>PyData.eqv e d))) s:=⟨.bl (!(ds.any fun e=>PyData.eqv e d)), H, I, rfl, q⟩
 cases c with
 | list es =>
  cases hi
  have p2 : PyData.depthAll ds + 1 ≤ 64:=p2
  exact SeqAt.notIn_list_reads r2 r1 l2 l1 (by have:=Nat.min_le_left (PyData.depthAll ds) d.depth; omega) q
 | tuple es =>
  cases hi
  have p2 : PyData.depthAll ds + 1 ≤ 64:=p2
  exact SeqAt.notIn_tuple_reads r2 r1 l2 l1 (by have:=Nat.min_le_left (PyData.depthAll ds) d.depth; omega) q
 | _=>cases hi
end
noncomputable def inS (neg : Bool) : OF:=fun d c=>match zhv c with
 | some ds=>if SeqAt.shaped d = true ∧ SeqAt.shaped c = true then some (.bool (if neg then !(ds.any fun e=>PyData.eqv e d) else ds.any fun e=>PyData.eqv e d), false) else none
 | none=>none
theorem zami {K : PySem.W.Frag} {neg : Bool} : SO (rInS K neg) (inS neg):=by
 intro A H x y dx dy hA rx ry d fr e Q q
 unfold inS at e
 split at e
 ·rename_i ds hi
  split at e
  ·rename_i h
   cases e
   refine ⟨dx, dy, ds, zrj (SeqAt.canLay_of_shaped h.1) (Rp.same (Offs.same A H) _ rx), zrj (SeqAt.canLay_of_shaped h.2) (Rp.same (Offs.same A H) _ ry), hi, h.1, h.2, q _ H (Same.refl _) ?_ (fun z=>by cases z)⟩
   cases neg <;> exact zbl
  ·cases e
 ·cases e
end L2
namespace PySem
open Sem (wp)
open AutoSeq1 (wpAny_loadPart')
theorem zaky {prog : Program} {w : World} {A : Around} (hh : A.handled = none) (b : Bool) (it l : Addr) (hne : l ≠ it) (items : Array Value) :
  Draws prog w A it [it, l] items.size (fun i v=>items[i]? = some v) (fun i h=>SqIt b h it l i ∧ zhb b h l items) where
 live:=fun _ _ st=>let ⟨o, ho, _⟩:=st.1.obj; ⟨o, ho⟩
 frame:=fun _ _ _ st hk=>⟨st.1.moved fun o e=>hk it (by simp) o e, st.2.moved fun o e=>hk l (by simp) o e⟩
 item:=fun i s Q E hi st hQ=>by
  refine zvp st.1 st.2 (x:=items[i]) (by simp [hi]) fun h' hit' hs'=>?_
  exact hQ _ h' s.toks (by simp [hi]) ⟨hit', st.2.moved fun o e=>hs'.extBut _ o hne e⟩ hs'
 done:=fun s Q E st hE=>zacv hh st.1 st.2 (by simp) hE
theorem zqh (l : Addr) (items : Array Value) (n : Nat) (dct : Option Addr) (sl : Array (Option Value)) :
  Meets (Builtin.«enumerate.__new__» ⟨[.type "enumerate", .ref l], []⟩) (fun _ R s=>s.heap.get? l = some { cls:=.type "tuple", dict:=dct, data:=.seq items n, slots:=sl } ∧
   R (.ok (.ret (.ref (s.heap.push (itO false l)).objs.size))) { s with heap:=(s.heap.push (itO false l)).push { cls:=.type "enumerate", data:=.fields #[.none, .bool false, .ref s.heap.objs.size, rawInt 0, .none, .none] } }) :=
 .of_wp fun prog w A R s h=>by
  obtain ⟨hp, g, d, tk, os⟩:=s; obtain ⟨hl, h⟩:=h
  have hsub:=sub_enumerate
  have e1 : Heap.IsTuple (Shared.heap ⟨hp, g, d, tk, os⟩) l items:=⟨_, hl, rfl, n, rfl⟩
  wp_walk using wpAny_loadPart' hl
  refine wpAny_stack_any fun st=>wpAny_pure ?_
  split
  ·rename_i c _ _ _ _ _
   cases (c == Value.type "enumerate")
   ·wp_walk using wpAny_loadPart' hl, wpAny_pyIter_tuple e1
    exact ⟨_, rfl, h⟩
   ·wp_walk using wpAny_loadPart' hl, wpAny_pyIter_tuple e1
    exact ⟨_, rfl, h⟩
  ·wp_walk using wpAny_loadPart' hl, wpAny_pyIter_tuple e1
   exact ⟨_, rfl, h⟩
theorem zyi {prog : Program} {w : World} {A : Around} {E : Value → Shared → Prop} {s : Shared} {b : Bool} {l : Addr} {items : Array Value} {Q : Value → Shared → Prop} (hL : zhb b s.heap l items)
  (h : ∀ h', IsEnum h' (s.heap.objs.size + 1) s.heap.objs.size 0 .none → SqIt b h' s.heap.objs.size l 0 → (∀ c o, s.heap.get? c = some o → h'.get? c = some o) → Q (.ref (s.heap.objs.size + 1)) { s with heap:=h' }) :
  wpAny (model prog w) A (call (.type "enumerate") [.ref l]) Q E s:=by
 cases b with
 | true=>exact call_enumerate_list hL fun h' e i _ k=>h h' e i k
 | false =>
  obtain ⟨⟨c, dct, dt, sl⟩, hl, hc, n, hd⟩:=hL
  replace hc : c = .type "tuple":=hc
  replace hd : dt = .seq items n:=hd
  subst hc hd
  refine callType_new F.called_enumerate (by decide) (F.typeCall_enumerate_1 _) (F.newCall_enumerate_1 _) (fun obj=>F.args_object_init_2 obj _) F.entry_enumerate_new (zqh l items n dct sl) ⟨hl, ?_⟩
  have hz : (s.heap.push (itO false l)).objs.size = s.heap.objs.size + 1:=Heap.size_push ..
  have he:=Heap.get?_push_size (s.heap.push (itO false l)) (o:={ cls:=.type "enumerate", data:=.fields #[.none, .bool false, .ref s.heap.objs.size, rawInt 0, .none, .none] }) rfl
  show _ ∧ _
  rw [hz] at he ⊢
  exact ⟨⟨_, he, rfl⟩, h _ he (zvq (b:=false) (Heap.get?_push_of_some _ (Heap.get?_push_size _ rfl))) fun c o x=>Heap.get?_push_of_some _ (Heap.get?_push_of_some _ x)⟩
end PySem
namespace L2
open PySem PySem.Spec PyProof.Rows
noncomputable def Itx (K : PySem.W.Frag) (b : Bool) (a : Addr) : It :=
 ⟨fun i H=>∃ xs x, SqX b K H a xs ∧ xs[i]? = some x, fun i H x H'=>∃ p y, x = .ref p ∧ H p = none ∧ H' = upd H p (.tup [.int i, y]) ∧ ∀ xs, SqX b K H a xs → xs[i]? = some y, fun i H=>∃ xs, SqX b K H a xs ∧ xs.length ≤ i⟩
theorem zaep {P : Program} {w : World} {K : PySem.W.Frag} {elts : List Expr} {x1} {tpos : Pos} {b : Bool} (a e it : Addr) (hne : e ≠ it) (hea : e ≠ a) (hai : a ≠ it) :
  Turn P w K (.Tuple elts x1 tpos) (Itx K b a) [e, it] e (fun i h=>SqIt b h it a i ∧ ∃ old, IsEnum h e it (i : Int) old) where
 mem:=by simp
 obj:=fun i h st c hc=>by
  obtain ⟨h1, old, h4⟩:=st
  rcases List.mem_cons.mp hc with rfl | hc
  ·exact ⟨_, h4, fun v z=>by simp at z⟩
  ·have q : c = it:=by simpa using hc
   subst q
   exact h1.obj
 keep:=fun i h h' st k=>⟨st.1.moved fun o q=>k it (by simp) o q, let ⟨old, q⟩:=st.2; ⟨old, k e (by simp) _ q⟩⟩
 item:=by
  intro X hP hw hK hc i pins s σ H E I hf st hg
  subst hP hw hK
  obtain ⟨xs, x, hq, hx⟩:=hg
  obtain ⟨its, rv, p, hz⟩:=I.sq hq
  obtain ⟨u, hu, ru⟩:=rv.get hx
  obtain ⟨hit, old, he⟩:=st
  have fe:=hf e (by simp)
  have fi:=hf it (by simp)
  have hlt : i < its.toArray.size:=by
   obtain ⟨hh, _⟩:=List.getElem?_eq_some_iff.mp hu
   simpa using hh
  refine wpAny_pyNext_enum_itemD (zaky (by exact I.ok.hd hc) b it a hai its.toArray) he ⟨hit, p⟩ hlt hne (by simp [hne, hea]) fun u' h1 tk pu e1 i1 t1 z1 k1=>?_
  have hu' : u' = u:=by
   have pu : its.toArray[i]? = some u':=pu
   rw [List.getElem?_toArray, hu] at pu
   exact (Option.some.inj pu).symm
  subst hu'
  refine ⟨_, rfl, wpAny_letOwnedTupleGo_enum (s:={ s with heap:=h1, toks:=tk + 1 }) e1 fun h2 e2 sb2=>?_⟩
  have hp : H s.heap.objs.size = none:=I.hok.fresh (Nat.le_refl _)
  have hes : e ≠ s.heap.objs.size:=Nat.ne_of_lt (Heap.lt_size he)
  have k2 : ∀ c o, c ≠ e → c ≠ it → s.heap.get? c = some o → h2.get? c = some o:=fun c o q1 q2 q=>(sb2.2 c q1).trans (k1 c o q1 q2 q)
  have t2 : h2.get? s.heap.objs.size = some { cls:=.type "tuple", data:=.seq #[.int i tk, u'] }:=(sb2.2 _ (Ne.symm hes)).trans t1
  have nch : ∀ c, c ∉ [e, it] → c ≠ e ∧ c ≠ it:=fun c hb=>⟨fun z=>hb (by simp [z]), fun z=>hb (by simp [z])⟩
  refine ⟨.ref s.heap.objs.size, upd H s.heap.objs.size (.tup [.int i, x]), ?_, rfl, ⟨_, x, rfl, hp, rfl, fun ys hy=>by rw [I.sq_inj hy hq]; exact hx⟩, ⟨?_, u', e2⟩, fun c hb=>?_⟩
  ·refine Inv.step (s:=s) (h':=h2) (g':=s.gens) (d':=s.drawn) (t':=tk + 1) (ch:=[e, it]) I (fun c hb=>?_) (fun c o _ _ hc q _=>k2 c o (nch c hc).1 (nch c hc).2 q) (fun c o _ _ hc q _=>⟨o.slots, k2 c o (nch c hc).1 (nch c hc).2 q⟩)
    (fun c o _ q n=>by rw [zcj (Nat.ne_of_lt (Heap.lt_size q))]; exact n) (fun c o hc q=>⟨o, k2 c o (nch c hc).1 (nch c hc).2 q⟩)
    (fun c xs q=>by rw [zcj (zce q hp)]; exact q) (fun c o v q=>by rw [zcj (zce q hp)]; exact q) (fun c ps q=>⟨#[], by rw [zcj (zce q hp), q]; simp⟩) (fun m hm=>?_) (fun c v q=>?_) I.bare
   ·rcases List.mem_cons.mp hb with rfl | hb
    ·exact ⟨fe.2.2.2.1, fe.2.1, fe.2.2.2.2.1, fe.2.2.2.2.2⟩
    ·have z : c = it:=by simpa using hb
     subst z
     exact ⟨fi.2.2.2.1, fi.2.1, fi.2.2.2.2.1, fi.2.2.2.2.2⟩
   ·obtain ⟨o, es, ep, ho, r⟩:=hm
    exact ⟨o, es, ep, k2 _ o (Ne.symm fe.2.1) (Ne.symm fi.2.1) ho, r⟩
   ·by_cases hb : c = s.heap.objs.size
    ·subst hb
     rw [zbn] at q
     cases q
     exact ⟨by show 2 ≤ sizeLine; decide, [.int i tk, u'], .cons ⟨_, rfl⟩ (.cons ru .nil), _, t2, rfl, _, rfl⟩
    ·rw [zcj hb] at q
     have nt : ∀ c w', H c = some w' → c ≠ e ∧ c ≠ it:=fun c w' z=>⟨(fun y=>by rw [y, fe.1] at z; cases z), (fun y=>by rw [y, fi.1] at z; cases z)⟩
     refine (I.hok c v q).stay (fun c w' hc r=>?_) (fun c r=>by rw [zcj (zce r hp)]; exact r) fun c ys r=>by rw [zcj (zce r hp)]; exact r
     rcases hc with rfl | hc
     ·exact k2 c w' (nt c v q).1 (nt c v q).2 r
     ·exact k2 c w' (nt c _ hc).1 (nt c _ hc).2 r
  ·exact i1.1.moved fun o q=>(sb2.2 _ (Ne.symm hne)).trans q
  ·rcases List.mem_cons.mp hb with rfl | hb
   ·rw [zcj hes]; exact fe.1
   ·have z : c = it:=by simpa using hb
    subst z
    obtain ⟨o, q1, _⟩:=hit.obj
    rw [zcj (Nat.ne_of_lt (Heap.lt_size q1))]
    exact fi.1
 done:=by
  intro X hP hw hK hc i pins s σ H E I hf st hg
  subst hP hw hK
  obtain ⟨xs, hq, hx⟩:=hg
  obtain ⟨its, rv, p, hz⟩:=I.sq hq
  obtain ⟨hit, old, he⟩:=st
  obtain ⟨f0, f1, f2, f3, f4, f5⟩:=hf it (by simp)
  have hl:=rv.length
  have hT : s.TypeIs (.ref e) "enumerate":=⟨_, he, rfl⟩
  unfold pyNext
  refine wpAny_bind (wpAny_attempt (wpAny_callSpecial?_slot (name:=Str.ofString "__next__") hT F.slot_enumerate_next (wpAny_call_entry F.slot_enumerate_next hT F.entry_enumerate_next ?_ (F.args_enumerate_next_1 _))))
  show wpAny _ _ (field (.ref e) 2 >>= _) _ _ _
  refine wpAny_bind (wpAny_field he rfl (x:=.ref it) rfl ?_)
  refine wpAny_bind (zacv (by exact I.ok.hd hc) hit p (by simp; omega) fun h' x he' hx'=>?_)
  obtain ⟨o, ho, hcl⟩:=hx'
  refine wpAny_bind (wpAny_isInstance (T:="StopIteration") (b:=true) ⟨o, ho, hcl⟩ isSubtype_stop (wpAny_pure ⟨rfl, ?_⟩))
  exact I.turned (t':=s.toks) (fun c o hb q=>he' c o hb q) f0 f1 f3 f4 f5
 self:=fun _ _ _ _ _ st h=>let ⟨_, q⟩:=st.2; wpAny_pyIter_enum q h
noncomputable def iEnumX (K : PySem.W.Frag) (ta : TA) : TI:=fun σ H R=>ta σ H fun vs H1=>∃ b a, vs = [.ref a] ∧ (∃ xs, SqX b K H1 a xs) ∧ R (Itx K b a) H1
theorem zakz {X : Cx} {K : PySem.W.Frag} (hK : X.K = K) {a : Expr} {ta : TA} {p pos : Pos} {elts : List Expr} {x1} {tpos : Pos} (hg : Gl X "enumerate") (hm : X.mg "enumerate" = none) (ha : PA X [a] ta) (hs : starEach [a] X.env = [(false, eval a X.env)]:=by rfl) :
  PI X (.Tuple elts x1 tpos) (.Call (.Name "enumerate" p) [a] [] pos) (iEnumX K ta):=by
 subst hK
 intro pins s σ H R I h
 refine Call_ (ztx I hg hm boot_enumerate (PyProof.Rows.callWith_type1 (thn (ha pos pins s σ H _ I h) fun us s1 ⟨vs, H1, I1, r1, q1⟩=>?_) hs rfl))
 obtain ⟨b, l, rfl, ⟨xs, hq⟩, q⟩:=q1
 obtain ⟨u, rfl, ru⟩:=zaah r1
 cases ru
 obtain ⟨its, rv, pl, hz⟩:=I1.sq hq
 have lt:=zhb.there pl
 refine zyi pl fun h' he hit hk=>wpAny_pyIter_enum he ?_
 have I2 : Inv X pins σ H1 { s1 with heap:=h' }:=I1.kept (t':=s1.toks) hk
 refine ⟨s1.heap.objs.size + 1, [s1.heap.objs.size + 1, s1.heap.objs.size], _, _, H1, rfl, I2, zaep l _ _ (Nat.succ_ne_self _) (Nat.ne_of_gt (Nat.lt_succ_of_lt lt)) (Nat.ne_of_lt lt), ⟨hit, _, he⟩, fun c hb=>?_, q⟩
 rcases List.mem_cons.mp hb with rfl | hb
 ·exact I1.fpOk (Nat.le_succ _) (I1.hok.fresh (Nat.le_succ _))
 ·have e : c = s1.heap.objs.size:=by simpa using hb
  subst e
  exact I1.fpOk (Nat.le_refl _) (I1.hok.fresh (Nat.le_refl _))
noncomputable def zyj (f : AF) : IF':=fun env=>(f env).bind fun rs=>match rs with
 | [r]=>(zhv r.d).map fun ds=>(zqg ds, r.bs)
 | _=>none
theorem zacw {K : PySem.W.Frag} {ta : TA} {f : AF} (h1 : SA ta f) : SI (iEnumX K ta) (zyj f):=by
 intro fx H0 env σ H h ds bs e R q
 unfold zyj at e
 obtain ⟨rs, er, e⟩:=Option.bind_eq_some_iff.mp e
 split at e
 ·rename_i r
  obtain ⟨d1, ed1, e⟩:=Option.map_eq_some_iff.mp e
  cases e
  refine h1 fx H0 env σ H h _ er _ fun vs H1 s hv=>?_
  cases hv with
  | cons hv t =>
   cases t
   obtain ⟨b, a, xs, rfl, r1, e1⟩:=zahv (K:=K) (Rp.same (Offs.sub (zhp (bs:=r.bs))) _ hv.rp) ed1
   refine ⟨b, a, rfl, ⟨xs, e1 _ H1 (Same.refl _)⟩, q _ H1 s ?_⟩
   intro A H' hA ss
   have q1:=e1 A H' ss
   have r1':=Rps.same ss _ r1
   have hl : (zqg d1).length = d1.length:=by unfold zqg; simp
   refine ⟨fun i d e=>?_, ⟨xs, q1, by rw [hl, r1.length]; exact Nat.le_refl _⟩⟩
   unfold zqg at e
   rw [List.getElem?_map, List.getElem?_zipIdx] at e
   cases e0 : d1[i]? with
   | none=>rw [e0] at e; cases e
   | some d0 =>
    rw [e0] at e
    obtain ⟨v, hv, rv⟩:=r1'.get2 e0
    have e : PyData.tuple [.int ((0 + i : Nat) : Int), d0] = d:=Option.some.inj e
    rw [Nat.zero_add] at e
    subst e
    refine ⟨⟨xs, v, q1, hv⟩, fun x H'' y=>?_⟩
    obtain ⟨p, y', rfl, hp, rfl, y⟩:=y
    have:=y xs q1
    rw [hv] at this
    cases this
    exact ⟨Same.new hp, zri hp (zgs hA hp) (zfg zag (zfg rv zfo))⟩
 ·cases e
theorem znu {K : PySem.W.Frag} {ta : TA} {f : AF} (h1 : SA ta f) : SI (iEnumX K ta) (zmh f):=fun fx H0 env σ H h ds bs e R q =>
 zacw h1 fx H0 env σ H h ds bs (by
  unfold zmh at e
  unfold zyj
  obtain ⟨rs, er, e⟩:=Option.bind_eq_some_iff.mp e
  rw [er]
  cases rs with
  | nil=>cases e
  | cons r t =>
   cases t with
   | nil =>
    obtain ⟨d, fr, b⟩:=r
    cases d <;> first | exact e | cases e
   | cons _ _=>cases e) R q
end L2
namespace L2
open PySem PySem.Spec PyProof.Rows
end L2
namespace L2
open PySem PySem.Spec PyProof.Rows
noncomputable def isStar : Expr → Bool
 | .Starred ..=>true
 | _=>false
theorem zaf {e : Expr} {es : List Expr} {env : Env} (h : isStar e = false) : starEach (e :: es) env = (false, eval e env) :: starEach es env:=by
 cases e <;> first
  | rfl
  | cases h
theorem zala {X : Cx} {e : Expr} {es : List Expr} {te : TE} {t : TA} (ha : PE X e te) (hr : PA X es t) (hs : isStar e = false:=by rfl) : PA X (e :: es) (tCons te t):=zra ha hr (zaf hs)
end L2
namespace L2
open PySem PySem.Spec PyProof.Rows
end L2
namespace L2
open PySem PySem.Spec PyProof.Rows
end L2
namespace PySem.SeqAt
open AutoSeq1 (wpAny_loadPart')
open MeetsSeq PyProof.Rows
section
variable {A : Around} {s : Shared}
end
end PySem.SeqAt
namespace L2
open PySem PySem.Spec PyProof.Rows
section
variable {X : Cx}
end
end L2
namespace L2
open PySem PySem.Spec PyProof.Rows
structure Bx (p : Prop) : Prop where
 out : p
theorem Bx.pt {X : Cx} {e : Expr} {t : TT} (h : Bx (PW X e t)) : Bx (PT X e t):=⟨h.out.pt⟩
theorem zam : ∀ {X : L2.Cx} {i : Int} {j : Nat} {pos : PySem.Pos}, L2.Bx (L2.PE X (PySem.Expr.Constant (PySem.Const.int i) j pos) (L2.tC (L2.V.int i))):=by
 intro X i j pos
 exact ⟨@zjd X i j pos⟩
theorem zai : ∀ {X : L2.Cx}, L2.Bx (L2.PA X [] L2.tNil):=by
 intro X
 exact ⟨@ztz X⟩
theorem zaa : ∀ {X : L2.Cx} {e : PySem.Expr} {es : List PySem.Expr} {te : L2.TE} {t : L2.TA}, L2.Bx (L2.PE X e te) → L2.Bx (L2.PA X es t) → L2.isStar e = Bool.false → L2.Bx (L2.PA X (e :: es) (L2.tCons te t)):=by
 intro X e es te t ha hr hs
 exact ⟨@zala X e es te t ha.out hr.out hs⟩
theorem zbe : ∀ {X : L2.Cx} {a b : PySem.Expr} {ta tb : L2.TE} {pos : PySem.Pos} {op : PySem.Operator} {r : L2.R2}, L2.OpR X (PySem.binaryOp op) r → L2.Bx (L2.PE X a ta) → L2.Bx (L2.PE X b tb) → L2.Bx (L2.PE X (a.BinOp op b pos) (L2.tOp r ta tb)):=by
 intro X a b ta tb pos op r ho ha hb
 exact ⟨@zmc X a b ta tb pos op r ho ha.out hb.out⟩
theorem zak : ∀ {X : L2.Cx} {st : PySem.Stmt} {t : L2.TS}, L2.Bx (L2.PS X st t) → L2.Bx (L2.PSs X [st] t):=by
 intro X st t h1
 exact ⟨@zon X st t h1.out⟩
theorem zah : ∀ {X : L2.Cx} {st : PySem.Stmt} {rest : List PySem.Stmt} {t u : L2.TS}, L2.Bx (L2.PS X st t) → L2.Bx (L2.PSs X rest u) → L2.Bx (L2.PSs X (st :: rest) (L2.tSeq t u)):=by
 intro X st rest t u h1 h2
 exact ⟨@zne X st rest t u h1.out h2.out⟩
theorem zbk : ∀ {X : L2.Cx} {x : PySem.Str} {p pos : PySem.Pos} {e : PySem.Expr} {es : List PySem.Expr} {t : L2.TA} {ps : List PySem.Str} {k : Nat} {sp : L2.Sp}, L2.Dn X.prog X.w X.K X.mg X.base x ps k sp → L2.Room k X.A → L2.Gl X x → L2.Bx (L2.PA X (e :: es) t) → (x == PySem.Str.ofString "__debug__") = Bool.false → PySem.starEach (e :: es) X.env = (Bool.false, PySem.eval e X.env) :: PySem.starEach es X.env → ((PySem.backTo pos (PySem.starEach es X.env)).any fun (x : Bool × PySem.Sem PySem.Value)=>x.fst) = Bool.false → L2.Bx (L2.PE X ((PySem.Expr.Name x p).Call (e :: es) [] pos) (L2.tCall sp [] L2.E0 t)):=by
 intro X x p pos e es t ps k sp D hr hg ha hdb he hpl
 exact ⟨@zark X x p pos e es t ps k sp D hr hg ha.out hdb he hpl⟩
theorem zbj : ∀ {X : L2.Cx} {e : PySem.Expr} {te : L2.TE} {pos : PySem.Pos}, L2.Bx (L2.PE X e te) → L2.Bx (L2.PS X (PySem.Stmt.Return (Option.some e) pos) (L2.tRet te)):=by
 intro X e te pos he
 exact ⟨@zalr X e te pos he.out⟩
theorem zax : ∀ {X : L2.Cx} {pos : PySem.Pos} {i : Nat} {x : PySem.Str} {e : PySem.Expr} {te : L2.TE} {pos' : PySem.Pos}, X.N.Nodup → X.N[i]? = Option.some x → L2.Loc X.env.scope x → L2.Bx (L2.PE X e te) → PySem.swapsWith e (Option.some (PySem.Expr.Name x pos')) pos.line X.env = Pure.pure Bool.false → X.fn x = Bool.true ∨ List.lookup x X.env.scope.names = Option.some PySem.NameKind.local → L2.Bx (L2.PS X (PySem.Stmt.Assign [PySem.Expr.Name x pos'] e pos) (L2.tAsg te (L2.gName i))):=by
 intro X pos i x e te pos' hN hi hx he hs hf
 exact ⟨@zabx X pos i x e te pos' hN hi hx he.out hs hf⟩
theorem zby : ∀ {X : L2.Cx} {x : PySem.Str} {p pos : PySem.Pos} {e : PySem.Expr} {es : List PySem.Expr} {t : L2.TA} {id : String} {r : List L2.V → L2.Hp → L2.VK → Prop}, L2.CallR X (PySem.Value.builtin id) r → L2.Gl X x → X.mg x = Option.none → PySem.bootBuiltins x = Option.some (PySem.Value.builtin id) → L2.Bx (L2.PA X (e :: es) t) → x ≠ PySem.Str.ofString "__name__" → (x == PySem.Str.ofString "__debug__") = Bool.false → PySem.starEach (e :: es) X.env = (Bool.false, PySem.eval e X.env) :: PySem.starEach es X.env → ((PySem.backTo pos (PySem.starEach es X.env)).any fun (x : Bool × PySem.Sem PySem.Value)=>x.fst) = Bool.false → L2.Bx (L2.PE X ((PySem.Expr.Name x p).Call (e :: es) [] pos) (L2.tCB r t)):=by
 intro X x p pos e es t id r hc hg hm hv ha hn hdb he hpl
 exact ⟨@zaby X x p pos e es t id r hc hg hm hv ha.out hn hdb he hpl⟩
theorem ziv : ∀ {X : L2.Cx} {b : Bool} {j : Nat} {pos : PySem.Pos}, L2.Bx (L2.PE X (PySem.Expr.Constant (PySem.Const.bool b) j pos) (L2.tC (L2.V.bl b))):=by
 intro X b j pos
 exact ⟨@zara X b j pos⟩
theorem zcd : ∀ {X : L2.Cx} {a b : PySem.Expr} {ta tb : L2.TE} {pos : PySem.Pos} {r : L2.R2}, L2.IxR X r → L2.Bx (L2.PE X a ta) → L2.Bx (L2.PE X b tb) → L2.PlainIx b → L2.Bx (L2.PE X (a.Subscript b pos) (L2.tOp r ta tb)):=by
 intro X a b ta tb pos r hr ha hb hs
 exact ⟨@zapq X a b ta tb pos r hr ha.out hb.out hs⟩
theorem zdo : ∀ {X : L2.Cx} {t u : L2.TS} {pos : PySem.Pos} {c : PySem.Expr} {a b : List PySem.Stmt} {tc : L2.TT}, L2.Bx (L2.PT X c tc) → L2.Bx (L2.PSs X a t) → L2.Bx (L2.PSs X b u) → L2.Bx (L2.PS X (PySem.Stmt.If c a b pos) (L2.tIfS tc t u)):=by
 intro X t u pos c a b tc hc ha hb
 exact ⟨@zapg X t u pos c a b tc hc.out ha.out hb.out⟩
theorem zch : ∀ {X : L2.Cx}, L2.Bx (L2.PSs X [] L2.tNext):=by
 intro X
 exact ⟨@zamq X⟩
theorem zkh : ∀ {X : L2.Cx} {a : PySem.Expr} {pos : PySem.Pos} {tA : L2.TT}, L2.Bx (L2.PT X a tA) → L2.Bx (L2.PT X (PySem.Expr.UnaryOp PySem.UnaryOp.Not a pos) (L2.tNot tA)):=by
 intro X a pos tA ha
 exact ⟨@zapd X a pos tA ha.out⟩
theorem zcp : ∀ {X : L2.Cx} {K : PySem.W.Frag},
 X.K = K →
  ∀ {a : PySem.Expr} {ta : L2.TE},
   L2.Bx (L2.PE X a ta) →
    (∀ (whole : PySem.Sem PySem.Value),
      PySem.isTrue a X.env whole = do
       let v ← whole
       PySem.standAt a.pos
       PySem.holding [v] (PySem.truthy v)) →
     L2.Bx (L2.PT X a fun (σ : L2.St) (H : L2.Hp) (Q : Bool → L2.Hp → Prop)=>ta σ H fun (x : L2.V) (H' : L2.Hp)=>∃ (k : Bool), L2.TruV K x H' k ∧ Q k H'):=by
 intro X K hK a ta ha he
 exact ⟨@zagt X K hK a ta ha.out he⟩
theorem zap : ∀ {X : L2.Cx} {pos : PySem.Pos} {i : Nat} {x : PySem.Str}, X.N.Nodup → X.N[i]? = Option.some x → L2.Loc X.env.scope x → X.fn x = Bool.true ∨ List.lookup x X.env.scope.names = Option.some PySem.NameKind.local → L2.Bx (L2.PG X (PySem.Expr.Name x pos) (L2.gName i)):=by
 intro X pos i x hN hi hx hf
 exact ⟨@zaae X pos i x hN hi hx hf⟩
theorem zeg : ∀ {X : L2.Cx} {es : List PySem.Expr} {t : L2.TA} {pos : PySem.Pos}, L2.Bx (L2.PA X es t) → L2.Bx (L2.PE X (PySem.Expr.List es pos) (L2.tLst t)):=by
 intro X es t pos h
 exact ⟨@zalt X es t pos h.out⟩
theorem zdy : ∀ {X : L2.Cx} {tg iter : PySem.Expr} {body : List PySem.Stmt} {wi : L2.TI} {g : L2.TG} {tb : L2.TS} {pos : PySem.Pos}, PySem.PassesOwn (PySem.model X.prog X.w) X.A X.env X.xe → X.calm = Bool.true → L2.Bx (L2.PI X tg iter wi) → L2.Bx (L2.PG X tg g) → L2.Bx (L2.PSs X body tb) → (∀ (x : PySem.Value), PySem.foldedSetIterable iter X.env x = Pure.pure x) → L2.Bx (L2.PS X (PySem.Stmt.For tg iter body [] pos) (L2.tFor wi g tb)):=by
 intro X tg iter body wi g tb pos hp hc hi hg hb hs
 exact ⟨@zafi X tg iter body wi g tb pos hp hc hi.out hg.out hb.out hs⟩
theorem zbu : ∀ {X : L2.Cx} {a b : PySem.Expr} {ta tb : L2.TE} {pos : PySem.Pos} {op : PySem.CmpOp} {r : L2.R2}, L2.OpR X (PySem.compareOp op) r → L2.Bx (L2.PE X a ta) → L2.Bx (L2.PE X b tb) → PySem.behindInMarks op b = Bool.false → L2.Bx (L2.PT X (a.Compare [op] [b] pos) (L2.tTest (L2.tOp r ta tb))):=by
 intro X a b ta tb pos op r ho ha hb hm
 exact ⟨@zafl X a b ta tb pos op r ho ha.out hb.out hm⟩
theorem zfa : ∀ {X : L2.Cx} {x : PySem.Str} {j : Nat} {pos : PySem.Pos}, L2.Bx (L2.PE X (PySem.Expr.Constant (PySem.Const.str x) j pos) (L2.tC (L2.V.str x))):=by
 intro X x j pos
 exact ⟨@zaoz X x j pos⟩
theorem zdw : ∀ {X : L2.Cx} {e : PySem.Expr} {te : L2.TE} {pos : PySem.Pos}, L2.Bx (L2.PE X e te) → PySem.swapsWith e Option.none pos.line X.env = Pure.pure Bool.false → L2.Bx (L2.PS X (PySem.Stmt.Expr e pos) (L2.tDrop te)):=by
 intro X e te pos he hs
 exact ⟨@zaad X e te pos he.out hs⟩
theorem zfr : ∀ {X : L2.Cx} {es : List PySem.Expr} {t : L2.TA} {pos : PySem.Pos} {x1 : Nat}, L2.Bx (L2.PA X es t) → L2.Bx (L2.PE X (PySem.Expr.Tuple es x1 pos) (L2.tTup t)):=by
 intro X es t pos x1 h
 exact ⟨@zapn X es t pos x1 h.out⟩
theorem zaas : ∀ {X : L2.Cx} {a : PySem.Expr} {pos : PySem.Pos} {op : PySem.BoolOp} {t : L2.TE}, L2.Bx (L2.PE X a t) → L2.Bx (L2.PE X (PySem.Expr.BoolOp op [a] pos) t):=by
 intro X a pos op t h
 exact ⟨@zape X a pos op t h.out⟩
theorem zji : ∀ {X : L2.Cx} {a b : PySem.Expr} {ta tb : L2.TE} {pos : PySem.Pos} {op : PySem.CmpOp} {r : L2.R2}, L2.OpR X (PySem.compareOp op) r → L2.Bx (L2.PE X a ta) → L2.Bx (L2.PE X b tb) → PySem.behindInMarks op b = Bool.false → L2.Bx (L2.PE X (a.Compare [op] [b] pos) (L2.tOp r ta tb)):=by
 intro X a b ta tb pos op r ho ha hb hm
 exact ⟨@zamv X a b ta tb pos op r ho ha.out hb.out hm⟩
theorem zdq : ∀ {X : L2.Cx} {x : PySem.Str} {p pos : PySem.Pos} {e : PySem.Expr} {es : List PySem.Expr} {t : L2.TA} {T : String} {r : List L2.V → L2.Hp → L2.VK → Prop}, L2.CallR X (PySem.Value.type T) r → L2.Gl X x → X.mg x = Option.none → PySem.bootBuiltins x = Option.some (PySem.Value.type T) → L2.Bx (L2.PA X (e :: es) t) → x ≠ PySem.Str.ofString "__name__" → (x == PySem.Str.ofString "__debug__") = Bool.false → PySem.starEach (e :: es) X.env = (Bool.false, PySem.eval e X.env) :: PySem.starEach es X.env → ((PySem.backTo pos (PySem.starEach es X.env)).any fun (x : Bool × PySem.Sem PySem.Value)=>x.fst) = Bool.false → L2.Bx (L2.PE X ((PySem.Expr.Name x p).Call (e :: es) [] pos) (L2.tCB r t)):=by
 intro X x p pos e es t T r hc hg hm hv ha hn hdb he hpl
 exact ⟨@zafr X x p pos e es t T r hc hg hm hv ha.out hn hdb he hpl⟩
theorem zacx : ∀ {X : L2.Cx} {x : PySem.Str} {v : L2.V} {u : PySem.Value} {pos : PySem.Pos}, L2.Gl X x → X.mg x = Option.none → PySem.bootBuiltins x = Option.some u → L2.RelV v u → x ≠ PySem.Str.ofString "__name__" → (x == PySem.Str.ofString "__debug__") = Bool.false → L2.Bx (L2.PE X (PySem.Expr.Name x pos) (L2.tC v)):=by
 intro X x v u pos hg hm hv r hn hd
 exact ⟨@zamo X x v u pos hg hm hv r hn hd⟩
theorem zaat : ∀ {X : L2.Cx} {a : PySem.Expr} {pos : PySem.Pos} {tA : L2.TT}, L2.Bx (L2.PT X a tA) → L2.Bx (L2.PW X (PySem.Expr.BoolOp PySem.BoolOp.Or [a] pos) tA):=by
 intro X a pos tA ha
 exact ⟨@zapb X a pos tA ha.out⟩
theorem zahw : ∀ {X : L2.Cx} {a b : PySem.Expr} {pos : PySem.Pos} {tA tB' : L2.TT} {rest : List PySem.Expr}, L2.Bx (L2.PT X a tA) → L2.Bx (L2.PW X (PySem.Expr.BoolOp PySem.BoolOp.Or (b :: rest) pos) tB') → L2.Bx (L2.PW X (PySem.Expr.BoolOp PySem.BoolOp.Or (a :: b :: rest) pos) (L2.tOr tA tB')):=by
 intro X a b pos tA tB' rest ha hb
 exact ⟨@zarb X a b pos tA tB' rest ha.out hb.out⟩
theorem zcv : ∀ {X : L2.Cx} {e : PySem.Expr} {te : L2.TE}, L2.Bx (L2.PE X e te) → L2.Bx (L2.PO X (Option.some e) (L2.tPart te)):=by
 intro X e te h
 exact ⟨@zaft X e te h.out⟩
theorem zfw : ∀ {X : L2.Cx}, L2.Bx (L2.PO X Option.none L2.tNoPart):=by
 intro X
 exact ⟨@zafs X⟩
theorem zdb : ∀ {X : L2.Cx} {e : PySem.Expr} {te : L2.TE} {lo hi : Option PySem.Expr} {tl th : L2.TO} {pos p2 : PySem.Pos} {r : L2.V → Option Int → Option Int → L2.Hp → L2.VK → Prop}, L2.SlR X r → L2.Bx (L2.PE X e te) → L2.Bx (L2.PO X lo tl) → L2.Bx (L2.PO X hi th) → L2.Bx (L2.PE X (e.Subscript (PySem.Expr.Slice lo hi Option.none p2) pos) (L2.tSl r te tl th)):=by
 intro X e te lo hi tl th pos p2 r hr he hl hu
 exact ⟨@zabz X e te lo hi tl th pos p2 r hr he.out hl.out hu.out⟩
theorem zdc : ∀ {X : L2.Cx} {scope : PySem.Scope} {N' own : List PySem.Str} {fr : List Nat} {elt target iter : PySem.Expr} {ifs : List PySem.Expr} {cpos : PySem.Pos} {wi : L2.TI} {g : L2.TG} {tt : L2.TT} {te : L2.TE}, L2.CompOk X scope N' own fr → X.calm = Bool.true → L2.Bx (L2.PI X target iter wi) → (∀ (cl : List (PySem.Str × PySem.Addr)) (C : PySem.Addr) (s : PySem.Shared) (H : L2.Hp) (fp : List PySem.Addr), L2.PG (L2.cxComp X scope N' own cl C s H fp) target g ∧ L2.PF (L2.cxComp X scope N' own cl C s H fp) ifs tt ∧ L2.PE (L2.cxComp X scope N' own cl C s H fp) elt te) → (∀ (x : PySem.Value), PySem.foldedSetIterable iter X.env x = Pure.pure x) → L2.Bx (L2.PE X (elt.ListComp [{ target:=target, iter:=iter, ifs:=ifs, is_async:=0 }] scope cpos) (L2.tComp1 wi g tt te own fr)):=by
 intro X scope N' own fr elt target iter ifs cpos wi g tt te c hc hi hb hs
 exact ⟨@zajy X scope N' own fr elt target iter ifs cpos wi g tt te c hc hi.out hb hs⟩
theorem zfs : ∀ {X : L2.Cx} {K : PySem.W.Frag}, X.K = K → ∀ {T : String} {name : PySem.Str} {id : String} {r : L2.V → List L2.V → L2.Hp → L2.VK → Prop} {o e : PySem.Expr} {es : List PySem.Expr} {to : L2.TE} {t : L2.TA} {apos cpos : PySem.Pos}, PySem.PlainAttrs T → PySem.Slot T name id → PySem.typeOf (PySem.Value.builtin id) = Pure.pure (PySem.Value.type "method_descriptor") → L2.MtR X id r → L2.Bx (L2.PE X o to) → L2.Bx (L2.PA X (e :: es) t) → PySem.attributeBase o name X.env (PySem.eval o X.env) = PySem.eval o X.env → ((((PySem.backTo cpos (PySem.starEach (e :: es) X.env)).all fun (x : Bool × PySem.Sem PySem.Value)=>!x.fst) && (PySem.backToKw cpos (PySem.keywordEach [] X.env)).all fun (x : Option PySem.Str × PySem.Sem PySem.Value)=>x.fst.isSome) && Decidable.decide (((e :: es).length + ([] : List Keyword).length + if ([] : List Keyword).isEmpty = Bool.true then 0 else 1) < 30)) = Bool.true → (apos.endLine == cpos.line) = Bool.true → PySem.starEach (e :: es) X.env = (Bool.false, PySem.eval e X.env) :: PySem.starEach es X.env → ((PySem.backTo cpos (PySem.starEach es X.env)).any fun (x : Bool × PySem.Sem PySem.Value)=>x.fst) = Bool.false → L2.Bx (L2.PE X ((o.Attribute name apos).Call (e :: es) [] cpos) (L2.tBM K T r to t)):=by
 intro X K hK T name id r o e es to t apos cpos pa slot hty hm ho ha hbase hfew hline hs hplain
 exact ⟨@zagh X K hK T name id r o e es to t apos cpos pa slot hty hm ho.out ha.out hbase hfew hline hs hplain⟩
theorem zaau : ∀ {X : L2.Cx} {a b : PySem.Expr} {ta tb : L2.TE} {pos : PySem.Pos} {rest : List PySem.Expr}, L2.Bx (L2.PE X a ta) → L2.Bx (L2.PE X (PySem.Expr.BoolOp PySem.BoolOp.And (b :: rest) pos) tb) → L2.Bx (L2.PE X (PySem.Expr.BoolOp PySem.BoolOp.And (a :: b :: rest) pos) (L2.tAndV ta tb)):=by
 intro X a b ta tb pos rest ha hb
 exact ⟨@zapf X a b ta tb pos rest ha.out hb.out⟩
theorem zalb : ∀ {X : L2.Cx} {pos : PySem.Pos}, L2.Bx (L2.PPs X pos [] [] []):=by
 intro X pos
 exact ⟨@zanf X pos⟩
theorem zahx : ∀ {X : L2.Cx} {pos : PySem.Pos} {k v : PySem.Expr} {ks : List (Option PySem.Expr)} {vs : List PySem.Expr} {tk tv : L2.TE} {trs : List (L2.TE × L2.TE)}, L2.Bx (L2.PE X k tk) → L2.Bx (L2.PE X v tv) → L2.Bx (L2.PPs X pos ks vs trs) → L2.Bx (L2.PPs X pos (Option.some k :: ks) (v :: vs) ((tk, tv) :: trs)):=by
 intro X pos k v ks vs tk tv trs hk hv hr
 exact ⟨@zajs X pos k v ks vs tk tv trs hk.out hv.out hr.out⟩
theorem zbo : ∀ {X : L2.Cx} {K : PySem.W.Frag}, X.K = K → ∀ {tg l : PySem.Expr} {tl : L2.TE}, L2.Bx (L2.PE X l tl) → L2.Bx (L2.PI X tg l (L2.iSeq K tl)):=by
 intro X K hK tg l tl hl
 exact ⟨@zanv X K hK tg l tl hl.out⟩
theorem zoy : ∀ {X : L2.Cx} {tg a : PySem.Expr} {ta : L2.TA} {p pos : PySem.Pos}, L2.Gl X (PySem.Str.ofString "range") → X.mg (PySem.Str.ofString "range") = Option.none → L2.Bx (L2.PA X [a] ta) → PySem.starEach [a] X.env = [(Bool.false, PySem.eval a X.env)] → L2.Bx (L2.PI X tg ((PySem.Expr.Name (PySem.Str.ofString "range") p).Call [a] [] pos) (L2.iRng1 ta)):=by
 intro X tg a ta p pos hg hm ha hs
 exact ⟨@zwv X tg a ta p pos hg hm ha.out hs⟩
theorem zga : ∀ {X : L2.Cx}, L2.Bx (L2.PF X [] L2.tAll):=by
 intro X
 exact ⟨@zapz X⟩
theorem zlc : ∀ {X : L2.Cx} {pos : PySem.Pos}, L2.Bx (L2.PE X (PySem.Expr.Dict [] [] pos) L2.tDNewK):=by
 intro X pos
 exact ⟨@zajr X pos⟩
theorem zalc : ∀ {X : L2.Cx} {pos : PySem.Pos} {keys : List (Option PySem.Expr)} {values : List PySem.Expr} {trs : List (L2.TE × L2.TE)}, L2.Bx (L2.PPs X pos keys values trs) → (keys.all fun (x : Option PySem.Expr)=>x.isSome) = Bool.true → keys.length = values.length → keys ≠ [] → keys.length ≤ 15 → L2.Bx (L2.PE X (PySem.Expr.Dict keys values pos) (L2.tDisp trs)):=by
 intro X pos keys values trs h hall hl h0 h15
 exact ⟨@zang X pos keys values trs h.out hall hl h0 h15⟩
theorem zmw : ∀ {X : L2.Cx} {c : PySem.Expr} {t : L2.TT}, L2.Bx (L2.PT X c t) → L2.Bx (L2.PF X [c] t):=by
 intro X c t h
 exact ⟨@zaqa X c t h.out⟩
theorem zex : ∀ {X : L2.Cx} {o i : PySem.Expr} {pos : PySem.Pos} {td ty : L2.TE}, X.A.units + 1 < PySem.cLine → L2.Bx (L2.PE X o td) → L2.Bx (L2.PE X i ty) → L2.NoSl i → L2.Bx (L2.PE X (o.Subscript i pos) (L2.tDGet td ty)):=by
 intro X o i pos td ty hu ho hi hs
 exact ⟨@zand X o i pos td ty hu ho.out hi.out hs⟩
theorem zqt : ∀ {X : L2.Cx} {a : PySem.Expr} {pos : PySem.Pos} {tA : L2.TT}, L2.Bx (L2.PT X a tA) → L2.Bx (L2.PW X (PySem.Expr.BoolOp PySem.BoolOp.And [a] pos) tA):=by
 intro X a pos tA ha
 exact ⟨@zamp X a pos tA ha.out⟩
theorem zvr : ∀ {X : L2.Cx} {a b : PySem.Expr} {pos : PySem.Pos} {tA tB' : L2.TT} {rest : List PySem.Expr}, L2.Bx (L2.PT X a tA) → L2.Bx (L2.PW X (PySem.Expr.BoolOp PySem.BoolOp.And (b :: rest) pos) tB') → L2.Bx (L2.PW X (PySem.Expr.BoolOp PySem.BoolOp.And (a :: b :: rest) pos) (L2.tAnd tA tB')):=by
 intro X a b pos tA tB' rest ha hb
 exact ⟨@zapc X a b pos tA tB' rest ha.out hb.out⟩
theorem zyk : ∀ {X : L2.Cx} {pos : PySem.Pos} {c : PySem.Expr} {body : List PySem.Stmt} {tc : L2.TT} {tb : L2.TS}, PySem.PassesOwn (PySem.model X.prog X.w) X.A X.env X.xe → L2.Bx (L2.PT X c tc) → L2.Bx (L2.PSs X body tb) → L2.Bx (L2.PS X (PySem.Stmt.While c body [] pos) (L2.tWhile tc tb)):=by
 intro X pos c body tc tb hp hc hb
 exact ⟨@zaji X pos c body tc tb hp hc.out hb.out⟩
theorem znv : ∀ {X : L2.Cx} {st : PySem.Stmt}, L2.Bx (L2.PS X st L2.tNever):=by
 intro X st
 exact ⟨@zajg X st⟩
theorem zqu : ∀ {X : L2.Cx} {o i value : PySem.Expr} {pos pos' : PySem.Pos} {td ty tv : L2.TE}, X.A.units + 1 < PySem.cLine → L2.Bx (L2.PE X o td) → L2.Bx (L2.PE X i ty) → L2.Bx (L2.PE X value tv) → PySem.swapsWith value (Option.some (o.Subscript i pos')) pos.line X.env = Pure.pure Bool.false → L2.Bx (L2.PS X (PySem.Stmt.Assign [o.Subscript i pos'] value pos) (L2.sDPut td ty tv)):=by
 intro X o i value pos pos' td ty tv hu ho hi hv hs
 exact ⟨@zane X o i value pos pos' td ty tv hu ho.out hi.out hv.out hs⟩
theorem znw : ∀ {X : L2.Cx} {scope : PySem.Scope} {N' own : List PySem.Str} {fr : List Nat} {elt target iter : PySem.Expr} {ifs : List PySem.Expr} {cpos : PySem.Pos} {wi : L2.TI} {g : L2.TG} {tt : L2.TT} {te : L2.TE} {spos py : PySem.Pos} {i : Nat} {y : PySem.Str}, L2.CompOk X scope N' own fr → X.calm = Bool.true → L2.Bx (L2.PI X target iter wi) → (∀ (cl : List (PySem.Str × PySem.Addr)) (C : PySem.Addr) (s : PySem.Shared) (H : L2.Hp) (fp : List PySem.Addr), L2.PG (L2.cxComp X scope N' own cl C s H fp) target g ∧ L2.PF (L2.cxComp X scope N' own cl C s H fp) ifs tt ∧ L2.PE (L2.cxComp X scope N' own cl C s H fp) elt te) → PySem.swapsWith (elt.ListComp [{ target:=target, iter:=iter, ifs:=ifs, is_async:=0 }] scope cpos) (Option.some (PySem.Expr.Name y py)) spos.line X.env = Pure.pure Bool.true → X.N.Nodup → X.N[i]? = Option.some y → List.lookup y X.env.scope.names = Option.some PySem.NameKind.local → (∀ (x : PySem.Value), PySem.foldedSetIterable iter X.env x = Pure.pure x) → L2.Bx (L2.PS X (PySem.Stmt.Assign [PySem.Expr.Name y py] (elt.ListComp [{ target:=target, iter:=iter, ifs:=ifs, is_async:=0 }] scope cpos) spos) (L2.tAsgC1 wi g tt te own fr i)):=by
 intro X scope N' own fr elt target iter ifs cpos wi g tt te spos py i y c hc hi hb hsw hN hy hl hs
 exact ⟨@zajz X scope N' own fr elt target iter ifs cpos wi g tt te spos py i y c hc hi.out hb hsw hN hy hl hs⟩
theorem zvs : ∀ {X : L2.Cx} {pos : PySem.Pos} {tg e : PySem.Expr} {te : L2.TE} {g : L2.TG}, L2.Bx (L2.PE X e te) → L2.Bx (L2.PG X tg g) → PySem.swapsWithSole [tg] e pos.line X.env = Pure.pure Bool.false → PySem.swappedStores [tg] e X.env = Pure.pure Option.none → List.map (fun (x : Bool × (PySem.Value → PySem.Sem Unit))=>x.snd) (PySem.assignEach [tg] X.env) = [PySem.assign tg X.env] → L2.Bx (L2.PS X (PySem.Stmt.Assign [tg] e pos) (L2.tAsg te g)):=by
 intro X pos tg e te g he hg hs hw h1
 exact ⟨@zapi X pos tg e te g he.out hg.out hs hw h1⟩
theorem zahy : ∀ {X : L2.Cx} {K : PySem.W.Frag}, X.K = K → ∀ {a b : PySem.Expr} {ta : L2.TA} {p pos : PySem.Pos} {elts : List PySem.Expr} {x1 : Nat} {tpos : PySem.Pos}, L2.Gl X (PySem.Str.ofString "zip") → X.mg (PySem.Str.ofString "zip") = Option.none → L2.Bx (L2.PA X [a, b] ta) → PySem.starEach [a, b] X.env = (Bool.false, PySem.eval a X.env) :: PySem.starEach [b] X.env → ((PySem.backTo pos (PySem.starEach [b] X.env)).any fun (x : Bool × PySem.Sem PySem.Value)=>x.fst) = Bool.false → L2.Bx (L2.PI X (PySem.Expr.Tuple elts x1 tpos) ((PySem.Expr.Name (PySem.Str.ofString "zip") p).Call [a, b] [] pos) (L2.iZip K ta)):=by
 intro X K hK a b ta p pos elts x1 tpos hg hm ha hs hs2
 exact ⟨@zaqt X K hK a b ta p pos elts x1 tpos hg hm ha.out hs hs2⟩
theorem zld : ∀ {X : L2.Cx} {K : PySem.W.Frag}, X.K = K → ∀ {a : PySem.Expr} {ta : L2.TA} {p pos : PySem.Pos} {elts : List PySem.Expr} {x1 : Nat} {tpos : PySem.Pos}, L2.Gl X (PySem.Str.ofString "enumerate") → X.mg (PySem.Str.ofString "enumerate") = Option.none → L2.Bx (L2.PA X [a] ta) → PySem.starEach [a] X.env = [(Bool.false, PySem.eval a X.env)] → L2.Bx (L2.PI X (PySem.Expr.Tuple elts x1 tpos) ((PySem.Expr.Name (PySem.Str.ofString "enumerate") p).Call [a] [] pos) (L2.iEnumX K ta)):=by
 intro X K hK a ta p pos elts x1 tpos hg hm ha hs
 exact ⟨@zakz X K hK a ta p pos elts x1 tpos hg hm ha.out hs⟩
theorem zcw : ∀ {X : L2.Cx}, L2.Bx (L2.PGs X [] L2.gNil):=by
 intro X
 exact ⟨@zamr X⟩
theorem zba : ∀ {X : L2.Cx} {e : PySem.Expr} {es : List PySem.Expr} {t : L2.TG} {u : L2.TGs}, L2.Bx (L2.PG X e t) → L2.Bx (L2.PGs X es u) → List.map (fun (x : Bool × (PySem.Value → PySem.Sem Unit))=>x.snd) (PySem.assignEach (e :: es) X.env) = PySem.assign e X.env :: List.map (fun (x : Bool × (PySem.Value → PySem.Sem Unit))=>x.snd) (PySem.assignEach es X.env) → L2.Bx (L2.PGs X (e :: es) (L2.gCons t u)):=by
 intro X e es t u h1 h2 hs
 exact ⟨@zajh X e es t u h1.out h2.out hs⟩
theorem zcx : ∀ {X : L2.Cx} {K : PySem.W.Frag}, X.K = K → ∀ {es : List PySem.Expr} {k : Nat} {t : L2.TGs} {n : Nat} {pos : PySem.Pos}, X.calm = Bool.true → L2.Bx (L2.PGs X es t) → (PySem.assignEach es X.env).length = n → List.findIdx? (fun (x : Bool × (PySem.Value → PySem.Sem Unit))=>x.fst) (PySem.assignEach es X.env) = Option.none → L2.Bx (L2.PG X (PySem.Expr.Tuple es k pos) (L2.gTup K n t)):=by
 intro X K hK es k t n pos hc h hn hst
 exact ⟨@zank X K hK es k t n pos hc h.out hn hst⟩
theorem zahz : ∀ {X : L2.Cx} {scope : PySem.Scope} {N' own : List PySem.Str} {fr : List Nat} {elt target iter target2 iter2 : PySem.Expr} {ifs ifs2 : List PySem.Expr} {cpos : PySem.Pos} {wi wi2 : L2.TI} {g g2 : L2.TG} {tt tt2 : L2.TT} {te : L2.TE}, L2.CompOk X scope N' own fr → X.calm = Bool.true → L2.Bx (L2.PI X target iter wi) → (∀ (cl : List (PySem.Str × PySem.Addr)) (C : PySem.Addr) (s : PySem.Shared) (H : L2.Hp) (fp : List PySem.Addr), L2.PG (L2.cxComp X scope N' own cl C s H fp) target g ∧ L2.PF (L2.cxComp X scope N' own cl C s H fp) ifs tt ∧ L2.PI (L2.cxComp X scope N' own cl C s H fp) target2 iter2 wi2 ∧ L2.PG (L2.cxComp X scope N' own cl C s H fp) target2 g2 ∧ L2.PF (L2.cxComp X scope N' own cl C s H fp) ifs2 tt2 ∧ L2.PE (L2.cxComp X scope N' own cl C s H fp) elt te) → (∀ (x : PySem.Value), PySem.foldedSetIterable iter X.env x = Pure.pure x) → (∀ (env : PySem.Env) (x : PySem.Value), PySem.foldedSetIterable iter2 env x = Pure.pure x) → L2.Bx (L2.PE X (elt.ListComp [{ target:=target, iter:=iter, ifs:=ifs, is_async:=0 }, { target:=target2, iter:=iter2, ifs:=ifs2, is_async:=0 }] scope cpos) (L2.tComp2 wi g tt wi2 g2 tt2 te own fr)):=by
 intro X scope N' own fr elt target iter target2 iter2 ifs ifs2 cpos wi wi2 g g2 tt tt2 te c hc hi hb hs hs2
 exact ⟨@zakp X scope N' own fr elt target iter target2 iter2 ifs ifs2 cpos wi wi2 g g2 tt tt2 te c hc hi.out hb hs hs2⟩
theorem zaia : ∀ {X : L2.Cx} {o i : PySem.Expr} {td ty : L2.TE}, X.A.units + 1 < PySem.cLine → L2.Bx (L2.PE X i ty) → L2.Bx (L2.PE X o td) → L2.Bx (L2.PC X PySem.CmpOp.In i o (L2.tDIn ty td)):=by
 intro X o i td ty hu hi ho
 exact ⟨@zapy X o i td ty hu hi.out ho.out⟩
theorem zaib : ∀ {X : L2.Cx} {a b : PySem.Expr} {pos : PySem.Pos} {op : PySem.CmpOp} {t : L2.TE}, L2.Bx (L2.PC X op a b t) → PySem.behindInMarks op b = Bool.false → L2.Bx (L2.PE X (a.Compare [op] [b] pos) t):=by
 intro X a b pos op t h h1
 exact ⟨@zapa X a b pos op t h.out h1⟩
theorem bv {X : Cx} (i : Nat) {x : Str} {pos : Pos} (hN : X.N[i]? = some x:=by rfl) (hv : visB X.env.scope x = true:=by rfl) (hd : (x == ("__debug__" : Str)) = false:=by decide)
  (hcd : (x == ("__classdict__" : Str)) = false:=by decide) : Bx (PE X (.Name x pos) (tVar i)):=⟨zalq hN (visB.of hv) hd hcd⟩
end L2
namespace Bc
open PySem L2
noncomputable def zle : SF:=(sRet (zye ["arm", "name"] [] (zaw (eVar 0)) (gN 0) zdh (zaw (zav 1 zci (zab (eVar 0) aNil))) (gN 1) zdh (eVar 1)))
noncomputable def zgx : GF:=fnD 1 zle
noncomputable def zpq : SF:=(sSeq (sIf (zbh (eOp neD (eCB lenD (zab (eVar 2) aNil)) (eVar 1))) zue sNil)
  (zaei (zav 2 zgv (zab (eVar 0) (zab (zav 1 zgx (zab (eVar 2) aNil)) aNil)))))
noncomputable def zjj : GF:=fnD 3 zpq
noncomputable def zlf : SF:=(sRet (zdl ["arm"] [0] (zaw (eVar 1)) (gN 0) zdh (zav 2 zlb (zab (eVar 1) (zab (eVar 0) aNil)))))
noncomputable def zfb : GF:=fnD 2 zlf
noncomputable def zpr : SF:=(sRet (eCB (anyD fun bs=>bs.all id) (zab (zdl ["kind", "roof"] [] (zaeo (zab (eVar 0) (zab (eVar 1) aNil))) (gT 2 (zay 0 (zay 1 zds))) zdh (eDIn false (eVar 0) (eVar 1))) aNil)))
noncomputable def zhw : GF:=fnD 2 zpr
noncomputable def zsc : SF:=(sRet (eAnd (eOp neD (eVar 1) (eVar 2)) (eCB (anyD fun bs=>bs.all id) (zab (zdl ["low", "high"] [0] (zaeo (zab (eVar 1) (zab (eVar 2) aNil))) (gT 2 (zay 0 (zay 1 zds))) zdh (eDIn false (eVar 1) (zbq 2 (eVar 0)))) aNil))))
noncomputable def zfc : GF:=fnD 3 zsc
noncomputable def zkl : SF:=(sSeq (sAsg (eVar 0) (gT 3 (zay 2 (zay 3 (zay 4 zds)))))
  (sSeq (zaei (zav 3 zjj (zab (eVar 2) (zab (eVar 3) (zab (eVar 1) aNil)))))
  (sSeq (sSet 5 (zav 2 zfb (zab (zav 1 zdp (zab (eVar 2) aNil)) (zab (eVar 1) aNil))))
  (sRet (zdl ["rule"] [5] (zaw (eVar 4)) (gN 0) (tTru (zav 2 zhw (zab (eIxV 0 (eC (.int 1))) (zab (eVar 1) aNil)))) (eVar 0))))))
noncomputable def zcb : GF:=fnD 6 zkl
noncomputable def zps : SF:=(sRet (zdl ["rule"] [0, 1] (zaw (eVar 1)) (gN 0) (zig (tTru (eCB (anyD fun bs=>bs.any id) (zab (zdl ["name", "kinds"] [0, 1] (zaw (eVar 2)) (gT 2 (zay 0 (zay 1 zds))) zdh (zav 3 zfc (zab (eVar 3) (zab (eVar 1) (zab (eIxV 2 (eC (.int 1))) aNil))))) aNil)))) (eVar 0)))
noncomputable def zdx : GF:=fnD 2 zps
noncomputable def zpt : SF:=(sRet (zdl ["name", "kinds"] [] (zaw (eVar 0)) (gT 2 (zay 0 (zay 1 zds))) zdh (eVar 0)))
noncomputable def zcn : GF:=fnD 1 zpt
noncomputable def zsd : SF:=(sSeq (sIf (zig (tTru (eVar 0))) (sRet (eTup (zab (eC (.str "none")) aNil))) sNil)
  (sSeq (sIf (zbh (eOp eqD (eCB lenD (zab (eVar 0) aNil)) (eC (.int 1)))) (sRet (eTup (zab (eC (.str "rule")) (zab (eIxV 0 (eC (.int 0))) aNil)))) sNil)
  (sRet (eTup (zab (eC (.str "quarrel")) (zab (eCB zib (zab (eVar 0) aNil)) aNil))))))
noncomputable def ziw : GF:=fnD 1 zsd
noncomputable def zmj : SF:=(sRet (zav 1 ziw (zab (zav 1 zcn (zab (zav 2 zdx (zab (eVar 0) (zab (eVar 1) aNil))) aNil)) aNil)))
noncomputable def zhr : GF:=fnD 2 zmj
noncomputable def zyl : SF:=(sRet (zav 1 zcn (zab (zav 2 zcb (zab (eVar 0) (zab (eVar 1) aNil))) aNil)))
noncomputable def zlg : GF:=fnD 2 zyl
noncomputable def zym : SF:=(sSeq (sSet 2 (zav 2 zcb (zab (eVar 0) (zab (eVar 1) aNil))))
  (sRet (zav 1 zcn (zab (zav 2 zdx (zab (zav 1 zdp (zab (eIxV 0 (eC (.int 0))) aNil)) (zab (eVar 2) aNil))) aNil))))
noncomputable def znx : GF:=fnD 3 zym
noncomputable def zse : SF:=(sRet (zav 1 ziw (zab (zav 2 znx (zab (eVar 0) (zab (eVar 1) aNil))) aNil)))
noncomputable def zdk : GF:=fnD 2 zse
noncomputable def zacy : SF:=(sSeq (sAsg (eVar 0) (gT 3 (zay 3 (zay 4 (zay 5 zds)))))
  (sSeq (sIf (zbh (eOp (inD true) (eVar 2) (zav 1 zcn (zab (eVar 5) aNil)))) zue sNil)
  (sSeq (sSet 6 (zav 2 zcb (zab (eVar 0) (zab (eVar 1) aNil))))
  (sSeq (sIf (zbh (eOp (inD true) (eVar 2) (zav 1 zcn (zab (eVar 6) aNil)))) zue sNil)
  (sSeq (sSet 7 (zagm (eCB zxr (zab (eVar 6) aNil)) (eVar 2)))
  (sSeq (sSet 8 (zav 1 zdp (zab (eVar 3) aNil)))
  (sRet (zav 2 zhr (zab (eVar 8) (zab (zdl ["rule"] [7, 8] (zaw (eVar 6)) (gN 0) (tTru (zav 3 zfc (zab (eVar 2) (zab (eVar 1) (zab (eIxV 0 (eC (.int 1))) aNil))))) (eVar 0)) aNil))))))))))
noncomputable def zfx : GF:=fnD 9 zacy
noncomputable def zaic : SF:=(sSeq (sSet 2 (eLst aNil))
  (sSeq (sSet 3 (zav 2 zdk (zab (eVar 0) (zab (eVar 1) aNil))))
  (sSeq (zis (zbh (eOp eqD (eIxV 3 (eC (.int 0))) (eC (.str "rule")))) (sSeq (sApp 2 (eIxV 3 (eC (.int 1))))
  (sSet 3 (zav 3 zfx (zab (eVar 0) (zab (eVar 1) (zab (eIxV 3 (eC (.int 1))) aNil)))))) 1000)
  (sRet (eTup (zab (eVar 2) (zab (eVar 3) aNil)))))))
noncomputable def zsf : GF:=fnD 4 zaic
noncomputable def zacz : SF:=(sSeq (sSet 2 (zav 2 zcb (zab (eVar 0) (zab (eVar 1) aNil))))
  (sSeq (sSet 3 (zav 1 zdp (zab (eIxV 0 (eC (.int 0))) aNil)))
  (sSeq (sSet 4 (eLst aNil))
  (sSeq (zis (tTru (eVar 2)) (sSeq (sSet 5 (zav 2 zdx (zab (eVar 3) (zab (eVar 2) aNil))))
  (sSeq (sApp 4 (zav 1 zcn (zab (eVar 5) aNil)))
  (sSet 2 (zdl ["rule"] [5] (zaw (eVar 2)) (gN 0) (zbh (eOp (inS true) (eVar 0) (eVar 1))) (eVar 0))))) 1000)
  (ztf 4)))))
noncomputable def zfy : GF:=fnD 6 zacz
noncomputable def zix : SF:=(sSeq (sSet 2 (eC (.str "abcdefghijklmnopqrstuvwxyz")))
  (sSeq (sSet 3 (eOp ixD (eTup (zab (eC (.int 1)) (zab (eC (.int 3)) (zab (eC (.int 5)) (zab (eC (.int 7)) (zab (eC (.int 9)) (zab (eC (.int 11)) (zab (eC (.int 15)) (zab (eC (.int 17)) aNil))))))))) (eOp modD (eOp zde (eVar 1) (eC (.int 3))) (eC (.int 8)))))
  (sSeq (sSet 4 (eOp modD (eOp zde (eVar 1) (eC (.int 24))) (eC (.int 26))))
  (sSeq (sSet 5 (eOp mulD (eIxV 2 (eOp modD (eOp zde (eVar 1) (eC (.int 624))) (eC (.int 26)))) (eOp modD (eOp zde (eVar 1) (eC (.int 16224))) (eC (.int 8)))))
  (sSeq (sSet 6 (eOp modD (eOp zde (eVar 1) (eC (.int 129792))) (eOp addD (eCB lenD (zab (eVar 5) aNil)) (eC (.int 1)))))
  (sSeq (sSet 7 (eLst aNil))
  (sSeq (sFor (zhy (zab (eVar 0) aNil)) (gN 8)
  (sSeq (sSet 9 (eIxV 2 (eOp modD (eOp addD (eVar 4) (eOp mulD (eVar 3) (eVar 8))) (eC (.int 26)))))
  (sIf (zbh (eOp eqD (eOp modD (eVar 1) (eC (.int 3))) (eC (.int 0)))) (sApp 7 (eOp addD (eOp addD (eSl (eVar 5) zeb (zbs (eVar 6))) (eVar 9)) (eSl (eVar 5) (zbs (eVar 6)) zeb))) (sIf (zbh (eOp eqD (eOp modD (eVar 1) (eC (.int 3))) (eC (.int 1)))) (sApp 7 (eOp addD (eSl (eVar 5) zeb (zbs (eOp modD (eOp mulD (eVar 8) (eVar 3)) (eOp addD (eCB lenD (zab (eVar 5) aNil)) (eC (.int 1)))))) (eVar 9))) (sApp 7 (eOp mulD (eIxV 2 (eOp modD (eOp addD (eVar 4) (eOp zde (eVar 8) (eC (.int 8)))) (eC (.int 26)))) (eOp addD (eC (.int 1)) (eOp modD (eOp mulD (eVar 8) (eVar 3)) (eC (.int 8))))))))))
  (sSeq (sIf (zbh (eOp eqD (eOp modD (eOp zde (eVar 1) (eC (.int 1038336))) (eC (.int 6))) (eC (.int 5)))) (sSeq (sSet 10 (eLst (zab (eC (.str "none")) (zab (eC (.str "rule")) (zab (eC (.str "quarrel")) (zab (eC (.str "near")) (zab (eC (.str "far")) (zab (eC (.str "out")) aNil))))))))
  (sSeq (sSet 11 (eOp modD (eOp zde (eVar 1) (eC (.int 6230016))) (eC (.int 6))))
  (sSet 7 (eSl (eOp addD (eOp addD (eSl (eVar 10) (zbs (eVar 11)) zeb) (eSl (eVar 10) zeb (zbs (eVar 11)))) (eSl (eVar 7) (zbs (eC (.int 6))) zeb)) zeb (zbs (eVar 0)))))) sNil)
  (ztf 7)))))))))
noncomputable def zcu : GF:=fnD 12 zix
noncomputable def zui : SF:=(sSeq (sSet 3 (eLst aNil))
  (sSeq (sSet 4 (eVar 0))
  (sSeq (sSet 5 (eCB lenD (zab (eVar 1) aNil)))
  (sSeq (sFor (zhy (zab (eVar 2) aNil)) (gN 6)
  (sSeq (sSet 7 (eOp modD (eVar 4) (eVar 5)))
  (sSeq (sSet 4 (eOp zde (eVar 4) (eVar 5)))
  (sSeq (sIf (zbh (eOp eqD (eOp modD (eVar 4) (eC (.int 4))) (eC (.int 2)))) (sApp 3 (eTup (zab (eIxV 1 (eOp subD (eOp subD (eVar 5) (eC (.int 1))) (eVar 7))) aNil))) (sIf (zkv (zbh (eOp eqD (eOp modD (eVar 4) (eC (.int 4))) (eC (.int 3)))) (zbh (eOp gtD (eVar 5) (eC (.int 1))))) (sSeq (sSet 8 (eOp modD (eOp addD (eOp addD (eVar 7) (eC (.int 1))) (eOp modD (eOp zde (eVar 4) (eC (.int 4))) (eOp subD (eVar 5) (eC (.int 1))))) (eVar 5)))
  (sSeq (sSet 9 (zdl ["_law_name"] [1, 7, 8] (zaw (eSl (eVar 1) (zbs (eOp subD (eVar 5) (eOp modD (eVar 4) (eC (.int 3))))) zeb)) (gN 0) (zbh (eOp (inD true) (eVar 0) (eTup (zab (eIxV 1 (eVar 2)) (zab (eIxV 1 (eVar 3)) aNil))))) (eVar 0)))
  (sApp 3 (eCB zib (zab (eOp addD (eLst (zab (eIxV 1 (eVar 7)) (zab (eIxV 1 (eVar 8)) aNil))) (eVar 9)) aNil))))) (sApp 3 (eIxV 1 (eOp subD (eOp subD (eVar 5) (eC (.int 1))) (eVar 7))))))
  (sSet 4 (eOp zde (eVar 4) (eOp mulD (eC (.int 4)) (eVar 5))))))))
  (sRet (eCB zib (zab (eVar 3) aNil)))))))
noncomputable def zge : GF:=fnD 10 zui
noncomputable def zsg : SF:=(sSeq (sSet 5 (eLst aNil))
  (sSeq (sFor (zmh (zab (eVar 4) aNil)) (gT 2 (zay 6 (zay 7 zds)))
  (sSeq (sSet 8 (eOp zde (eIxV 0 (eVar 6)) (eC (.int 4))))
  (sSeq (sSet 9 (eLst aNil))
  (sSeq (sFor (zaw (eVar 3)) (gN 10)
  (sSeq (sSet 11 (eVar 1))
  (sSeq (sIf (zbh (eOp gtD (eOp modD (eIxV 0 (eVar 6)) (eC (.int 4))) (eC (.int 0)))) (sSet 11 (zdl ["_law_name"] [2, 10] (zaw (eVar 1)) (gN 0) (tTru (eCB (anyD fun bs=>bs.any id) (zab (zdl ["_law_one"] [0, 1] (zaw (zav 1 zci (zab (eVar 2) aNil))) (gN 0) zdh (eOp (inD false) (eVar 1) (zbq 2 (eVar 0)))) aNil))) (eVar 0))) sNil)
  (sSeq (sApp 9 (eIxV 11 (eOp modD (eVar 8) (eCB lenD (zab (eVar 11) aNil)))))
  (sSet 8 (eOp zde (eVar 8) (eCB lenD (zab (eVar 11) aNil))))))))
  (sIf (zbh (eOp (inS true) (eCB zib (zab (eVar 9) aNil)) (zdl ["_law_one", "_law_row"] [] (zaw (eVar 5)) (gT 2 (zay 0 (zay 1 zds))) zdh (eVar 1)))) (sApp 5 (eTup (zab (eVar 7) (zab (eCB zib (zab (eVar 9) aNil)) aNil)))) sNil)))))
  (ztf 5)))
noncomputable def ziy : GF:=fnD 12 zsg
noncomputable def zuj : SF:=(sSeq (sFor (zyj (zab (eVar 1) aNil)) (gT 2 (zay 3 (zay 4 zds)))
  (sIf (zig (tTru (eCB (anyD fun bs=>bs.any id) (zab (zdl ["_law_name"] [0, 4] (zaw (zav 1 zci (zab (eIxV 2 (eVar 3)) aNil))) (gN 0) zdh (eOp (inD false) (eVar 2) (zbq 1 (eVar 0)))) aNil)))) (sRet (eC (.bool false))) sNil))
  (sRet (eC (.bool true))))
noncomputable def zgf : GF:=fnD 5 zuj
noncomputable def zpu : SF:=(sRet (eAnd (eOp neD (eVar 1) (eVar 2)) (zav 3 zgf (zab (eVar 0) (zab (eVar 2) (zab (eVar 1) aNil))))))
noncomputable def zbz : GF:=fnD 3 zpu
noncomputable def zny : SF:=(sRet (eTup (zab (eIxV 0 (eC (.int 0))) (zab (eIxV 0 (eC (.int 1))) (zab (zdl ["_law_rule"] [1] (zaw (eIxV 0 (eC (.int 2)))) (gN 0) (zbh (eOp (inD true) (eIxV 0 (eC (.int 0))) (eVar 1))) (eVar 0)) aNil)))))
noncomputable def zbx : GF:=fnD 2 zny
noncomputable def znz : SF:=(sSeq (sSet 3 zaeh)
  (sSeq (sFor (zaw (eIxV 0 (eC (.int 2)))) (gT 2 (zay 4 (zay 5 zds)))
  (sPut 3 (eVar 4) (eVar 5)))
  (sSeq (sAsg (zav 2 zsf (zab (eVar 0) (zab (eVar 2) aNil))) (gT 2 (zay 6 (zay 7 zds))))
  (sSeq (sSet 8 (eVar 0))
  (sSeq (sSet 9 (zav 2 zdk (zab (eVar 0) (zab (eVar 2) aNil))))
  (sSeq (sFor (zmh (zab (eVar 6) aNil)) (gT 2 (zay 10 (zay 4 zds)))
  (sSeq (sIf (tOrF (zbh (eOp neD (eVar 9) (eTup (zab (eC (.str "rule")) (zab (eVar 4) aNil))))) (zbh (eOp (inD false) (eVar 4) (eSl (eVar 6) zeb (zbs (eVar 10)))))) (sRet (eC (.bool false))) sNil)
  (sSeq (sIf (zkv (zbh (eOp gtD (eVar 10) (eC (.int 0)))) (zig (tTru (zav 3 zbz (zab (eVar 1) (zab (zbq 3 (eIxV 6 (eOp subD (eVar 10) (eC (.int 1))))) (zab (zbq 3 (eVar 4)) aNil))))))) (sRet (eC (.bool false))) sNil)
  (sSeq (sSet 8 (zav 2 zbx (zab (eVar 8) (zab (eLst (zab (eVar 4) aNil)) aNil))))
  (sSeq (sSet 9 (zav 2 zdk (zab (eVar 8) (zab (eVar 2) aNil))))
  (sIf (zbh (eOp neD (zav 3 zfx (zab (eVar 0) (zab (eVar 2) (zab (eVar 4) aNil)))) (eVar 9))) (sRet (eC (.bool false))) sNil))))))
  (sRet (eAnd (eOp eqD (eVar 9) (eVar 7)) (eOp neD (eIxV 7 (eC (.int 0))) (eC (.str "rule")))))))))))
noncomputable def zgy : GF:=fnD 11 znz
noncomputable def zoa : SF:=(sSeq (sAsg (zav 2 zsf (zab (eVar 0) (zab (eVar 1) aNil))) (gT 2 (zay 2 (zay 3 zds))))
  (sSeq (sSet 4 (zav 2 zfy (zab (eVar 0) (zab (eVar 1) aNil))))
  (sSeq (sIf (zbh (eOp neD (eSl (eVar 4) zeb (zbs (eCB lenD (zab (eVar 2) aNil)))) (zdl ["_law_name"] [] (zaw (eVar 2)) (gN 0) zdh (eLst (zab (eVar 0) aNil))))) (sRet (eC (.bool false))) sNil)
  (sSeq (sIf (zkv (zbh (eOp eqD (eVar 3) (eTup (zab (eC (.str "none")) aNil)))) (zbh (eOp neD (eCB lenD (zab (eVar 4) aNil)) (eCB lenD (zab (eVar 2) aNil))))) (sRet (eC (.bool false))) sNil)
  (sSeq (sIf (zkv (zbh (eOp eqD (eIxV 3 (eC (.int 0))) (eC (.str "quarrel")))) (zbh (eOp neD (eSl (eVar 4) (zbs (eCB lenD (zab (eVar 2) aNil))) (zbs (eOp addD (eCB lenD (zab (eVar 2) aNil)) (eC (.int 1))))) (eLst (zab (eCB zme (zab (eIxV 3 (eC (.int 1))) aNil)) aNil))))) (sRet (eC (.bool false))) sNil)
  (sSeq (sSet 5 (eLst aNil))
  (sSeq (sFor (zmh (zab (eVar 4) aNil)) (gT 2 (zay 6 (zay 7 zds)))
  (sSeq (sIf (zbh (eOp neD (zav 2 zfy (zab (zav 2 zbx (zab (eVar 0) (zab (eVar 5) aNil))) (zab (eVar 1) aNil))) (eSl (eVar 4) (zbs (eVar 6)) zeb))) (sRet (eC (.bool false))) sNil)
  (sSet 5 (eOp addD (eVar 5) (eVar 7)))))
  (sRet (eOp eqD (zav 2 zfy (zab (zav 2 zbx (zab (eVar 0) (zab (eVar 5) aNil))) (zab (eVar 1) aNil))) (eLst aNil))))))))))
noncomputable def zgz : GF:=fnD 8 zoa
noncomputable def zob : SF:=(sSeq (sSet 3 zaeh)
  (sSeq (sFor (zaw (eIxV 0 (eC (.int 2)))) (gT 2 (zay 5 (zay 4 zds)))
  (sPut 3 (eVar 5) (eVar 4)))
  (sSeq (sFor (zaw (zav 2 zlg (zab (eVar 0) (zab (eVar 2) aNil)))) (gN 5)
  (sSeq (sSet 6 (zav 3 zfx (zab (eVar 0) (zab (eVar 2) (zab (eVar 5) aNil)))))
  (sSeq (sSet 7 (eLst aNil))
  (sSeq (sIf (zbh (eOp eqD (eIxV 6 (eC (.int 0))) (eC (.str "rule")))) (sSet 7 (eLst (zab (eIxV 6 (eC (.int 1))) aNil))) sNil)
  (sSeq (sIf (zbh (eOp eqD (eIxV 6 (eC (.int 0))) (eC (.str "quarrel")))) (sSet 7 (eCB zme (zab (eIxV 6 (eC (.int 1))) aNil))) sNil)
  (sFor (zaw (eVar 7)) (gN 8)
  (sSeq (sIf (tOrF (zig (tTru (zav 3 zbz (zab (eVar 1) (zab (zbq 3 (eVar 5)) (zab (zbq 3 (eVar 8)) aNil)))))) (zig (tTru (zav 3 zgf (zab (eVar 1) (zab (zbq 3 (eVar 8)) (zab (eVar 2) aNil))))))) (sRet (eC (.bool false))) sNil)
  (sIf (tTru (eCB (anyD fun bs=>bs.any id) (zab (zdl ["_law_other"] [1, 3, 8] (zaw (eVar 7)) (gN 0) zdh (zav 3 zbz (zab (eVar 1) (zab (zbq 2 (eVar 0)) (zab (zbq 2 (eVar 3)) aNil))))) aNil))) (sRet (eC (.bool false))) sNil))))))))
  (sRet (eC (.bool true))))))
noncomputable def zha : GF:=fnD 9 zob
end Bc
namespace Bc
open PySem L2
theorem zada : bootBuiltins "all" = some (.builtin "all"):=by decide +kernel
theorem zqv : bootBuiltins "any" = some (.builtin "any"):=by decide +kernel
theorem zaid : bootBuiltins "dict" = some (.type "dict"):=by decide +kernel
theorem zlh : bootBuiltins "isinstance" = some (.builtin "isinstance"):=by decide +kernel
theorem zep : bootBuiltins "len" = some (.builtin "len"):=by decide +kernel
theorem zju : bootBuiltins "list" = some (.type "list"):=by decide +kernel
theorem zald : bootBuiltins "min" = some (.builtin "min"):=by decide +kernel
theorem zhf : bootBuiltins "tuple" = some (.type "tuple"):=by decide +kernel
noncomputable def top (i : Nat) : Stmt:=PySem.Challenge.pw_bestcalls_k21_whole_onward.main.body.getD i (.Pass ⟨0, 0, 0, 0⟩)
structure Txt (mg : Str → Option Value) : Prop where
 all : mg "all" = none
 any : mg "any" = none
 dict : mg "dict" = none
 enumerate : mg "enumerate" = none
 isinstance : mg "isinstance" = none
 len : mg "len" = none
 list : mg "list" = none
 min : mg "min" = none
 range : mg "range" = none
 tuple : mg "tuple" = none
 zip : mg "zip" = none
noncomputable abbrev zil : Stmt:=top 7
noncomputable abbrev zuk : List Str:=["web"]
theorem zaav : zuk.Nodup:=by decide +kernel
theorem zaaw : FnScope zuk ["web"] (zao zil):=⟨rfl, rfl, rfl, zaav, rfl, by decide +kernel, by decide +kernel⟩
noncomputable abbrev zim : Stmt:=top 8
noncomputable abbrev zul : List Str:=["arm"]
theorem zaax : zul.Nodup:=by decide +kernel
theorem zaay : FnScope zul ["arm"] (zao zim):=⟨rfl, rfl, rfl, zaax, rfl, by decide +kernel, by decide +kernel⟩
noncomputable abbrev zfi : Stmt:=top 9
noncomputable abbrev zoc : List Str:=["web", "names", "known", "name"]
theorem zjp : zoc.Nodup:=by decide +kernel
theorem ztj : FnScope zoc ["web", "names"] (zao zfi):=⟨rfl, rfl, rfl, zjp, rfl, by decide +kernel, by decide +kernel⟩
noncomputable abbrev zin : Stmt:=top 10
noncomputable abbrev zum : List Str:=["web", "roofs", "name", "elders", "roof", "elder"]
theorem zhg : zum.Nodup:=by decide +kernel
theorem zaaz : FnScope zum ["web"] (zao zin):=⟨rfl, rfl, rfl, zhg, rfl, by decide +kernel, by decide +kernel⟩
noncomputable abbrev zjv : Stmt:=top 11
noncomputable abbrev zyn : List Str:=["roofs", "arm", "roof", "name"]
theorem zoz : zyn.Nodup:=by decide +kernel
theorem zaeq : FnScope zyn ["roofs", "arm"] (zao zjv):=⟨rfl, rfl, rfl, zoz, rfl, by decide +kernel, by decide +kernel⟩
noncomputable abbrev zeh : Stmt:=top 13
noncomputable abbrev zli : List Str:=["call"]
theorem zqi : zli.Nodup:=by decide +kernel
theorem zqj : FnScope zli ["call"] (zao zeh):=⟨rfl, rfl, rfl, zqi, rfl, by decide +kernel, by decide +kernel⟩
noncomputable abbrev zgg : Stmt:=top 14
noncomputable abbrev zpv : List Str:=["web", "places", "call"]
theorem zvt : zpv.Nodup:=by decide +kernel
theorem zvu : FnScope zpv ["web", "places", "call"] (zao zgg):=⟨rfl, rfl, rfl, zvt, rfl, by decide +kernel, by decide +kernel⟩
noncomputable abbrev zei : Stmt:=top 15
noncomputable abbrev zlj : List Str:=["roofs", "call"]
theorem zqk : zlj.Nodup:=by decide +kernel
theorem zql : FnScope zlj ["roofs", "call"] (zao zei):=⟨rfl, rfl, rfl, zqk, rfl, by decide +kernel, by decide +kernel⟩
noncomputable abbrev zgh : Stmt:=top 16
noncomputable abbrev zpw : List Str:=["kinds", "call_roofs"]
theorem zvv : zpw.Nodup:=by decide +kernel
theorem zvw : FnScope zpw ["kinds", "call_roofs"] (zao zgh):=⟨rfl, rfl, rfl, zvv, rfl, by decide +kernel, by decide +kernel⟩
noncomputable abbrev zhh : Stmt:=top 17
noncomputable abbrev zsh : List Str:=["roofs", "one", "other"]
theorem zyo : zsh.Nodup:=by decide +kernel
theorem zyp : FnScope zsh ["roofs", "one", "other"] (zao zhh):=⟨rfl, rfl, rfl, zyo, rfl, by decide +kernel, by decide +kernel⟩
noncomputable abbrev zdr : Stmt:=top 19
noncomputable abbrev zkm : List Str:=["book", "call", "web", "places", "rules", "call_roofs"]
theorem zej : zkm.Nodup:=by decide +kernel
theorem zpa : FnScope zkm ["book", "call"] (zao zdr):=⟨rfl, rfl, rfl, zej, rfl, by decide +kernel, by decide +kernel⟩
noncomputable abbrev zgi : Stmt:=top 20
noncomputable abbrev zpx : List Str:=["roofs", "rules"]
theorem zvx : zpx.Nodup:=by decide +kernel
theorem zvy : FnScope zpx ["roofs", "rules"] (zao zgi):=⟨rfl, rfl, rfl, zvx, rfl, by decide +kernel, by decide +kernel⟩
noncomputable abbrev zgj : Stmt:=top 21
noncomputable abbrev zpy : List Str:=["rules"]
theorem zvz : zpy.Nodup:=by decide +kernel
theorem zwa : FnScope zpy ["rules"] (zao zgj):=⟨rfl, rfl, rfl, zvz, rfl, by decide +kernel, by decide +kernel⟩
noncomputable abbrev zhi : Stmt:=top 22
noncomputable abbrev zsi : List Str:=["names"]
theorem zyq : zsi.Nodup:=by decide +kernel
theorem zyr : FnScope zsi ["names"] (zao zhi):=⟨rfl, rfl, rfl, zyq, rfl, by decide +kernel, by decide +kernel⟩
noncomputable abbrev zet : Stmt:=top 23
noncomputable abbrev zmk : List Str:=["roofs", "rules"]
theorem zsj : zmk.Nodup:=by decide +kernel
theorem zsk : FnScope zmk ["roofs", "rules"] (zao zet):=⟨rfl, rfl, rfl, zsj, rfl, by decide +kernel, by decide +kernel⟩
noncomputable abbrev zjw : Stmt:=top 24
noncomputable abbrev zys : List Str:=["book", "call"]
theorem zaer : zys.Nodup:=by decide +kernel
theorem zaes : FnScope zys ["book", "call"] (zao zjw):=⟨rfl, rfl, rfl, zaer, rfl, by decide +kernel, by decide +kernel⟩
noncomputable abbrev zjx : Stmt:=top 25
noncomputable abbrev zyt : List Str:=["book", "call", "rules"]
theorem zun : zyt.Nodup:=by decide +kernel
theorem zaet : FnScope zyt ["book", "call"] (zao zjx):=⟨rfl, rfl, rfl, zun, rfl, by decide +kernel, by decide +kernel⟩
noncomputable abbrev zhj : Stmt:=top 26
noncomputable abbrev zsl : List Str:=["book", "call"]
theorem zyu : zsl.Nodup:=by decide +kernel
theorem zyv : FnScope zsl ["book", "call"] (zao zhj):=⟨rfl, rfl, rfl, zyu, rfl, by decide +kernel, by decide +kernel⟩
noncomputable abbrev zly : Stmt:=top 28
noncomputable abbrev zadb : List Str:=["book", "call", "name", "web", "places", "rules", "fit", "own", "roofs"]
theorem ziz : zadb.Nodup:=by decide +kernel
theorem zaie : FnScope zadb ["book", "call", "name"] (zao zly):=⟨rfl, rfl, rfl, ziz, rfl, by decide +kernel, by decide +kernel⟩
noncomputable abbrev zpb : Stmt:=top 29
noncomputable abbrev zaif : List Str:=["book", "call", "names", "end"]
theorem zqw : zaif.Nodup:=by decide +kernel
theorem zale : FnScope zaif ["book", "call"] (zao zpb):=⟨rfl, rfl, rfl, zqw, rfl, by decide +kernel, by decide +kernel⟩
noncomputable abbrev zlz : Stmt:=top 30
noncomputable abbrev zadc : List Str:=["book", "call", "left", "roofs", "told", "layer"]
theorem zjy : zadc.Nodup:=by decide +kernel
theorem zaig : FnScope zadc ["book", "call"] (zao zlz):=⟨rfl, rfl, rfl, zjy, rfl, by decide +kernel, by decide +kernel⟩
noncomputable abbrev zhk : Stmt:=top 32
noncomputable abbrev zsm : List Str:=["_law_script", "_law_many", "_law_seed", "_law_cell", "_law_found", "_law_k"]
theorem zgk : zsm.Nodup:=by decide +kernel
theorem zyw : FnScope zsm ["_law_script", "_law_many"] (zao zhk):=⟨rfl, rfl, rfl, zgk, rfl, by decide +kernel, by decide +kernel⟩
noncomputable abbrev zhl : Stmt:=top 33
noncomputable abbrev zsn : List Str:=["_law_many", "_law_cell", "_law_letters", "_law_step", "_law_origin", "_law_stem", "_law_at", "_law_names_here", "_law_k", "_law_sign", "_law_own", "_law_turn"]
theorem zcq : zsn.Nodup:=by decide +kernel
theorem zyx : FnScope zsn ["_law_many", "_law_cell"] (zao zhl):=⟨rfl, rfl, rfl, zcq, rfl, by decide +kernel, by decide +kernel⟩
noncomputable abbrev zjz : Stmt:=top 34
noncomputable abbrev zyy : List Str:=["_law_cells", "_law_names_here", "_law_web_here", "_law_k", "_law_name", "_law_left", "_law_rest", "_law_elders", "_law_turn", "_law_at"]
theorem zeu : zyy.Nodup:=by decide +kernel
theorem zaeu : FnScope zyy ["_law_cells", "_law_names_here"] (zao zjz):=⟨rfl, rfl, rfl, zeu, rfl, by decide +kernel, by decide +kernel⟩
noncomputable abbrev zma : Stmt:=top 35
noncomputable abbrev zadd : List Str:=["_law_web_here", "_law_up_here", "_law_name", "_law_elders", "_law_own", "_law_elder", "_law_one"]
theorem zja : zadd.Nodup:=by decide +kernel
theorem zaih : FnScope zadd ["_law_web_here"] (zao zma):=⟨rfl, rfl, rfl, zja, rfl, by decide +kernel, by decide +kernel⟩
noncomputable abbrev zhm : Stmt:=top 36
noncomputable abbrev zso : List Str:=["_law_arm"]
theorem zyz : zso.Nodup:=by decide +kernel
theorem zza : FnScope zso ["_law_arm"] (zao zhm):=⟨rfl, rfl, rfl, zyz, rfl, by decide +kernel, by decide +kernel⟩
noncomputable abbrev zio : Stmt:=top 37
noncomputable abbrev zuo : List Str:=["_law_cell", "_law_names_here", "_law_places", "_law_call_here", "_law_rest", "_law_many", "_law_place", "_law_at", "_law_by", "_law_more"]
theorem zdz : zuo.Nodup:=by decide +kernel
theorem zaba : FnScope zuo ["_law_cell", "_law_names_here", "_law_places"] (zao zio):=⟨rfl, rfl, rfl, zdz, rfl, by decide +kernel, by decide +kernel⟩
noncomputable abbrev zhn : Stmt:=top 38
noncomputable abbrev zsp : List Str:=["_law_cells", "_law_names_here", "_law_up_here", "_law_call_here", "_law_titles", "_law_rules_here", "_law_k", "_law_title", "_law_rest", "_law_kinds", "_law_arm", "_law_pool"]
theorem zdf : zsp.Nodup:=by decide +kernel
theorem zzb : FnScope zsp ["_law_cells", "_law_names_here", "_law_up_here", "_law_call_here", "_law_titles"] (zao zhn):=⟨rfl, rfl, rfl, zdf, rfl, by decide +kernel, by decide +kernel⟩
noncomputable abbrev ziq : Stmt:=top 39
noncomputable abbrev zup : List Str:=["_law_up_here", "_law_kinds", "_law_call_here", "_law_k", "_law_kind"]
theorem zmx : zup.Nodup:=by decide +kernel
theorem zabb : FnScope zup ["_law_up_here", "_law_kinds", "_law_call_here"] (zao ziq):=⟨rfl, rfl, rfl, zmx, rfl, by decide +kernel, by decide +kernel⟩
noncomputable abbrev zgl : Stmt:=top 40
noncomputable abbrev zpz : List Str:=["_law_up_here", "_law_one", "_law_other"]
theorem zwb : zpz.Nodup:=by decide +kernel
theorem zwc : FnScope zpz ["_law_up_here", "_law_one", "_law_other"] (zao zgl):=⟨rfl, rfl, rfl, zwb, rfl, by decide +kernel, by decide +kernel⟩
noncomputable abbrev zfj : Stmt:=top 41
noncomputable abbrev zod : List Str:=["_law_book", "_law_names_here"]
theorem ztk : zod.Nodup:=by decide +kernel
theorem ztl : FnScope zod ["_law_book", "_law_names_here"] (zao zfj):=⟨rfl, rfl, rfl, ztk, rfl, by decide +kernel, by decide +kernel⟩
noncomputable abbrev zfk : Stmt:=top 42
noncomputable abbrev zoe : List Str:=["_law_book", "_law_up_here", "_law_call_here", "_law_by", "_law_name", "_law_kinds", "_law_names_here", "_law_end", "_law_left", "_law_told", "_law_k"]
theorem zcc : zoe.Nodup:=by decide +kernel
theorem ztm : FnScope zoe ["_law_book", "_law_up_here", "_law_call_here"] (zao zfk):=⟨rfl, rfl, rfl, zcc, rfl, by decide +kernel, by decide +kernel⟩
noncomputable abbrev zfl : Stmt:=top 43
noncomputable abbrev zof : List Str:=["_law_book", "_law_call_here", "_law_names_here", "_law_end", "_law_rows", "_law_gone", "_law_k", "_law_row"]
theorem zdg : zof.Nodup:=by decide +kernel
theorem ztn : FnScope zof ["_law_book", "_law_call_here"] (zao zfl):=⟨rfl, rfl, rfl, zdg, rfl, by decide +kernel, by decide +kernel⟩
noncomputable abbrev zfm : Stmt:=top 44
noncomputable abbrev zog : List Str:=["_law_book", "_law_up_here", "_law_call_here", "_law_by", "_law_kinds", "_law_name", "_law_told", "_law_others", "_law_one"]
theorem zco : zog.Nodup:=by decide +kernel
theorem zto : FnScope zog ["_law_book", "_law_up_here", "_law_call_here"] (zao zfm):=⟨rfl, rfl, rfl, zco, rfl, by decide +kernel, by decide +kernel⟩
noncomputable abbrev zwd : Stmt:=top 45
noncomputable abbrev zaqu : List Str:=["_law_script", "_law_cells", "_law_places", "_law_names_here", "_law_web_here", "_law_up_here", "_law_calls", "_law_rules_here", "_law_book", "_law_call_here"]
theorem zml : zaqu.Nodup:=by decide +kernel
theorem zaqv : FnScope zaqu ["_law_script"] (zao zwd):=⟨rfl, rfl, rfl, zml, rfl, by decide +kernel, by decide +kernel⟩
theorem zmm : (["name", "elders"] : List Str).Nodup:=by decide +kernel
theorem zjb : (["arm", "name"] : List Str).Nodup:=by decide +kernel
theorem zmy : (["arm", "roofs"] : List Str).Nodup:=by decide +kernel
theorem zkn : (["kind", "roof"] : List Str).Nodup:=by decide +kernel
theorem zlk : (["low", "high", "roofs"] : List Str).Nodup:=by decide +kernel
theorem zmg : (["rule", "call_roofs"] : List Str).Nodup:=by decide +kernel
theorem zqm : (["rule", "roofs", "rules"] : List Str).Nodup:=by decide +kernel
theorem zko : (["name", "kinds", "rule", "roofs"] : List Str).Nodup:=by decide +kernel
theorem zkp : (["name", "kinds"] : List Str).Nodup:=by decide +kernel
theorem zzc : (["rule", "own", "roofs"] : List Str).Nodup:=by decide +kernel
theorem zzd : (["rule", "layer"] : List Str).Nodup:=by decide +kernel
theorem ztp : (["_law_name", "_law_names_here", "_law_at", "_law_by"] : List Str).Nodup:=by decide +kernel
theorem zsq : (["_law_name", "_law_up_here", "_law_arm"] : List Str).Nodup:=by decide +kernel
theorem zsr : (["_law_one", "_law_name", "_law_up_here"] : List Str).Nodup:=by decide +kernel
theorem zll : (["_law_one", "_law_row"] : List Str).Nodup:=by decide +kernel
theorem ztq : (["_law_name", "_law_up_here", "_law_kind"] : List Str).Nodup:=by decide +kernel
theorem zpc : (["_law_rule", "_law_names_here"] : List Str).Nodup:=by decide +kernel
theorem zpd : (["_law_name"] : List Str).Nodup:=by decide +kernel
theorem zpe : (["_law_other", "_law_up_here", "_law_by", "_law_one"] : List Str).Nodup:=by decide +kernel
theorem zaii : (["_law_cell", "_law_places", "_law_names_here"] : List Str).Nodup:=by decide +kernel
theorem zze : (["_law_name", "_law_elders"] : List Str).Nodup:=by decide +kernel
noncomputable abbrev zuq (P : Program) (w : World) (K : PySem.W.Frag) (mg : Str → Option Value) (base : Heap) : Prop:=Dn P w K mg base "names_of" ["web"] 1 (spD 1 zlu)
noncomputable abbrev zpf (P : Program) (w : World) (K : PySem.W.Frag) (mg : Str → Option Value) (base : Heap) : Prop:=Dn P w K mg base "names_in" ["arm"] 1 (spD 1 zci)
noncomputable abbrev zoh (P : Program) (w : World) (K : PySem.W.Frag) (mg : Str → Option Value) (base : Heap) : Prop:=Dn P w K mg base "check_kinds" ["web", "names"] 2 (spD 2 zgv)
noncomputable abbrev zka (P : Program) (w : World) (K : PySem.W.Frag) (mg : Str → Option Value) (base : Heap) : Prop:=Dn P w K mg base "roofs_of" ["web"] 1 (spD 1 zdp)
noncomputable abbrev zzf (P : Program) (w : World) (K : PySem.W.Frag) (mg : Str → Option Value) (base : Heap) : Prop:=Dn P w K mg base "roof_of" ["roofs", "arm"] 2 (spD 2 zlb)
noncomputable abbrev zlm (P : Program) (w : World) (K : PySem.W.Frag) (mg : Str → Option Value) (base : Heap) : Prop:=Dn P w K mg base "names_in_call" ["call"] 2 (spD 1 zgx)
noncomputable abbrev zqa (P : Program) (w : World) (K : PySem.W.Frag) (mg : Str → Option Value) (base : Heap) : Prop:=Dn P w K mg base "check_call" ["web", "places", "call"] 3 (spD 3 zjj)
noncomputable abbrev zln (P : Program) (w : World) (K : PySem.W.Frag) (mg : Str → Option Value) (base : Heap) : Prop:=Dn P w K mg base "roofs_in_call" ["roofs", "call"] 3 (spD 2 zfb)
noncomputable abbrev zqb (P : Program) (w : World) (K : PySem.W.Frag) (mg : Str → Option Value) (base : Heap) : Prop:=Dn P w K mg base "fits_under" ["kinds", "call_roofs"] 1 (spD 2 zhw)
noncomputable abbrev zmz (P : Program) (w : World) (K : PySem.W.Frag) (mg : Str → Option Value) (base : Heap) : Prop:=Dn P w K mg base "is_nearer" ["roofs", "one", "other"] 1 (spD 3 zfc)
noncomputable abbrev zer (P : Program) (w : World) (K : PySem.W.Frag) (mg : Str → Option Value) (base : Heap) : Prop:=Dn P w K mg base "rules_that_fit" ["book", "call"] 4 (spD 2 zcb)
noncomputable abbrev zjk (P : Program) (w : World) (K : PySem.W.Frag) (mg : Str → Option Value) (base : Heap) : Prop:=Dn P w K mg base "nearest_of" ["roofs", "rules"] 2 (spD 2 zdx)
noncomputable abbrev zgm (P : Program) (w : World) (K : PySem.W.Frag) (mg : Str → Option Value) (base : Heap) : Prop:=Dn P w K mg base "rule_names" ["rules"] 1 (spD 1 zcn)
noncomputable abbrev zna (P : Program) (w : World) (K : PySem.W.Frag) (mg : Str → Option Value) (base : Heap) : Prop:=Dn P w K mg base "answer_by" ["names"] 1 (spD 1 ziw)
noncomputable abbrev zmn (P : Program) (w : World) (K : PySem.W.Frag) (mg : Str → Option Value) (base : Heap) : Prop:=Dn P w K mg base "answer_among" ["roofs", "rules"] 3 (spD 2 zhr)
noncomputable abbrev zzg (P : Program) (w : World) (K : PySem.W.Frag) (mg : Str → Option Value) (base : Heap) : Prop:=Dn P w K mg base "fitting" ["book", "call"] 5 (spD 2 zlg)
noncomputable abbrev zzh (P : Program) (w : World) (K : PySem.W.Frag) (mg : Str → Option Value) (base : Heap) : Prop:=Dn P w K mg base "nearest" ["book", "call"] 5 (spD 2 znx)
noncomputable abbrev znb (P : Program) (w : World) (K : PySem.W.Frag) (mg : Str → Option Value) (base : Heap) : Prop:=Dn P w K mg base "answer_of" ["book", "call"] 6 (spD 2 zdk)
noncomputable abbrev zqx (P : Program) (w : World) (K : PySem.W.Frag) (mg : Str → Option Value) (base : Heap) : Prop:=Dn P w K mg base "onward" ["book", "call", "name"] 5 (spD 3 zfx)
noncomputable abbrev zabc (P : Program) (w : World) (K : PySem.W.Frag) (mg : Str → Option Value) (base : Heap) : Prop:=Dn P w K mg base "chain" ["book", "call"] 7 (spD 2 zsf)
noncomputable abbrev zade (P : Program) (w : World) (K : PySem.W.Frag) (mg : Str → Option Value) (base : Heap) : Prop:=Dn P w K mg base "layers" ["book", "call"] 5 (spD 2 zfy)
noncomputable abbrev zss (P : Program) (w : World) (K : PySem.W.Frag) (mg : Str → Option Value) (base : Heap) : Prop:=Dn P w K mg base "_law_names" ["_law_many", "_law_cell"] 1 (spD 2 zcu)
noncomputable abbrev zzi (P : Program) (w : World) (K : PySem.W.Frag) (mg : Str → Option Value) (base : Heap) : Prop:=Dn P w K mg base "_law_web" ["_law_cells", "_law_names_here"] 1 (spD 2 zkx)
noncomputable abbrev zadf (P : Program) (w : World) (K : PySem.W.Frag) (mg : Str → Option Value) (base : Heap) : Prop:=Dn P w K mg base "_law_up" ["_law_web_here"] 1 (spD 1 znp)
noncomputable abbrev znc (P : Program) (w : World) (K : PySem.W.Frag) (mg : Str → Option Value) (base : Heap) : Prop:=Dn P w K mg base "_law_parts" ["_law_arm"] 1 (spD 1 zci)
noncomputable abbrev zur (P : Program) (w : World) (K : PySem.W.Frag) (mg : Str → Option Value) (base : Heap) : Prop:=Dn P w K mg base "_law_call" ["_law_cell", "_law_names_here", "_law_places"] 1 (spD 3 zge)
noncomputable abbrev zst (P : Program) (w : World) (K : PySem.W.Frag) (mg : Str → Option Value) (base : Heap) : Prop:=Dn P w K mg base "_law_rules" ["_law_cells", "_law_names_here", "_law_up_here", "_law_call_here", "_law_titles"] 2 (spD 5 ziy)
noncomputable abbrev zpg (P : Program) (w : World) (K : PySem.W.Frag) (mg : Str → Option Value) (base : Heap) : Prop:=Dn P w K mg base "_law_fits" ["_law_up_here", "_law_kinds", "_law_call_here"] 2 (spD 3 zgf)
noncomputable abbrev zlo (P : Program) (w : World) (K : PySem.W.Frag) (mg : Str → Option Value) (base : Heap) : Prop:=Dn P w K mg base "_law_nearer" ["_law_up_here", "_law_one", "_law_other"] 3 (spD 3 zbz)
noncomputable abbrev zki (P : Program) (w : World) (K : PySem.W.Frag) (mg : Str → Option Value) (base : Heap) : Prop:=Dn P w K mg base "_law_without" ["_law_book", "_law_names_here"] 1 (spD 2 zbx)
noncomputable abbrev zoi (P : Program) (w : World) (K : PySem.W.Frag) (mg : Str → Option Value) (base : Heap) : Prop:=Dn P w K mg base "_law_chained" ["_law_book", "_law_up_here", "_law_call_here"] 8 (spD 3 zgy)
noncomputable abbrev zoj (P : Program) (w : World) (K : PySem.W.Frag) (mg : Str → Option Value) (base : Heap) : Prop:=Dn P w K mg base "_law_layered" ["_law_book", "_law_call_here"] 8 (spD 2 zgz)
noncomputable abbrev zok (P : Program) (w : World) (K : PySem.W.Frag) (mg : Str → Option Value) (base : Heap) : Prop:=Dn P w K mg base "_law_farther" ["_law_book", "_law_up_here", "_law_call_here"] 6 (spD 3 zha)
section
variable {P : Program} {w : World} {K : PySem.W.Frag} {mg : Str → Option Value} {base : Heap}
theorem zabd {f : Addr} {fd : FuncData} (F : Fun K "names_of" "names_of" zil f fd) (T : Txt mg)  : FnOk P w K mg base CX0 1 f fd ["web"] (spD 1 zlu):=by
 refine F.ok zaaw (fun vs H Q E h=>zcf h) (fun cdv A outer s H vs Q E hr h=>?_)
 have hu:=zfe hr
 apply Exists.intro
 apply And.intro
 ·refine' Bx.out (zak (zbj (zdc (zck (N':=["name", "elders"]) (own:=["name", "elders"]) (fr:=[]) (by kernel_rfl)) rfl (zbo (K:=K) rfl (bv 0)) ?hb1 (by intro _; rfl))))
  case hb1=>(intro cl C s H fp; refine' ⟨Bx.out (zcx (K:=K) (n:=2) rfl rfl (zba (zap (i:=0) zmm rfl (Or.inl rfl) (by first | exact .inl rfl | exact .inr rfl | assumption)) (zba (zap (i:=1) zmm rfl (Or.inl rfl) (by first | exact .inl rfl | exact .inr rfl | assumption)) zcw (by rfl)) (by rfl)) (by rfl) (by rfl)), Bx.out zga, Bx.out (bv 0)⟩)
 exact fn_d (f:=zjt) ((zcm (zef (zda (zad 0)) (zgd (zbf (zbf zed))) (zrp (zew (by decide) (zew (by decide) zms))) ziu (zad 0)))) h
theorem zabe {f : Addr} {fd : FuncData} (F : Fun K "names_in" "names_in" zim f fd) (T : Txt mg)  : FnOk P w K mg base CX0 1 f fd ["arm"] (spD 1 zci):=by
 refine F.ok zaay (fun vs H Q E h=>zcf h) (fun cdv A outer s H vs Q E hr h=>?_)
 have hu:=zfe hr
 apply Exists.intro
 apply And.intro
 ·refine' Bx.out (zah (zdo (zcp (K:=K) rfl (zby (zxk (K:=K) rfl) (by rfl) T.isinstance zlh (zaa (bv 0) (zaa (zacx (v:=.ty "tuple") (by rfl) T.tuple zhf rfl (by decide) (by decide)) zai (by rfl)) (by rfl)) (by decide) (by decide) (zaf (by rfl)) (by rfl)) (fun _=>rfl)) (zak (zbj (zdq (zij (K:=K) rfl) (by rfl) T.list zju (zaa (bv 0) zai (by rfl)) (by decide) (by decide) (zaf (by rfl)) (by rfl)))) zch)
 (zak (zbj (zeg (zaa (bv 0) zai (by rfl))))))
 exact fn_d (f:=zox) ((zar (zgo (zhz (zalz (zad 0) zxn)) (zcm (zfq zot (zae (zad 0) zal))) zem) (zcm (zgc (zae (zad 0) zal))))) h
theorem ztr {f : Addr} {fd : FuncData} (F : Fun K "check_kinds" "check_kinds" zfi f fd) (T : Txt mg) (D_names_of : zuq P w K mg base) : FnOk P w K mg base CX0 2 f fd ["web", "names"] (spD 2 zgv):=by
 refine F.ok ztj (fun vs H Q E h=>zcf h) (fun cdv A outer s H vs Q E hr h=>?_)
 have hu:=zfe hr
 apply Exists.intro
 apply And.intro
 ·refine' Bx.out (zah (zax (i:=2) zjp rfl (Or.inl rfl) (zbk D_names_of (hr.mono (by decide)) (by rfl) (zaa (bv 0) zai (by rfl)) (by decide) (zaf (by rfl)) (by rfl)) (by rfl) (.inl rfl))
 (zak (zdy PassesOwn.never rfl (zbo (K:=K) rfl (bv 1)) (zap (i:=3) zjp rfl (Or.inl rfl) (.inl rfl))
  (zak (zdo (zbu (zjq (K:=K) rfl) (bv 3) (bv 2) (by rfl)) (zak znv) zch)) (by intro _; rfl))))
 exact fn_d (f:=zgu) ((zar (zbg (zbb (zae (zad 0) zal))) (zfu (zda (zad 1)) zcr (zgo (st_t (zbd zvf (zad 3) (zad 2))) zqr zem)))) h
theorem zabf {f : Addr} {fd : FuncData} (F : Fun K "roofs_of" "roofs_of" zin f fd) (T : Txt mg)  : FnOk P w K mg base CX0 1 f fd ["web"] (spD 1 zdp):=by
 refine F.ok zaaz (fun vs H Q E h=>zcf h) (fun cdv A outer s H vs Q E hr h=>?_)
 have hu:=zfe hr
 apply Exists.intro
 apply And.intro
 ·refine' Bx.out (zah (zax (i:=1) zhg rfl (Or.inl rfl) zlc (by rfl) (.inl rfl))
 (zah (zdy PassesOwn.never rfl (zbo (K:=K) rfl (bv 0)) (zcx (K:=K) (n:=2) rfl rfl (zba (zap (i:=2) zhg rfl (Or.inl rfl) (.inl rfl)) (zba (zap (i:=3) zhg rfl (Or.inl rfl) (.inl rfl)) zcw (by rfl)) (by rfl)) (by rfl) (by rfl))
  (zah (zax (i:=4) zhg rfl (Or.inl rfl) (zalc (zahx (bv 2) ziv zalb) rfl rfl (by simp) (by decide)) (by rfl) (.inl rfl))
 (zah (zdy PassesOwn.never rfl (zbo (K:=K) rfl (bv 3)) (zap (i:=5) zhg rfl (Or.inl rfl) (.inl rfl))
  (zak (zdw (zfs (K:=K) rfl PySem.F.plainAttrs_dict PySem.F.slot_dict_update PySem.F.type_dict_update zxi (bv 4) (zaa (zex hu (bv 1) (bv 5) (fun _ _=>rfl)) zai (by rfl)) (by rfl) (by rfl) (by rfl) (zaf (by rfl)) (by rfl)) (by rfl))) (by intro _; rfl))
 (zak (zqu hu (bv 1) (bv 2) (bv 4) rfl)))) (by intro _; rfl))
 (zak (zbj (bv 1)))))
 exact fn_d (f:=zug) ((zar (zbg zrl) (zar (zfu (zda (zad 0)) (zgd (zbf (zbf zed))) (zar (zbg (zarm (zad 2) (se_c fun _=>zbl))) (zar (zfu (zda (zad 3)) zcr (zama (zfh (zad 5)))) (zacj (zad 2) (zad 4))))) zmr))) h
theorem zaev {f : Addr} {fd : FuncData} (F : Fun K "roof_of" "roof_of" zjv f fd) (T : Txt mg) (D_names_in : zpf P w K mg base) : FnOk P w K mg base CX0 2 f fd ["roofs", "arm"] (spD 2 zlb):=by
 refine F.ok zaeq (fun vs H Q E h=>zcf h) (fun cdv A outer s H vs Q E hr h=>?_)
 have hu:=zfe hr
 apply Exists.intro
 apply And.intro
 ·refine' Bx.out (zah (zax (i:=2) zoz rfl (Or.inl rfl) zlc (by rfl) (.inl rfl))
 (zah (zdy PassesOwn.never rfl (zbo (K:=K) rfl (zbk D_names_in (hr.mono (by decide)) (by rfl) (zaa (bv 1) zai (by rfl)) (by decide) (zaf (by rfl)) (by rfl))) (zap (i:=3) zoz rfl (Or.inl rfl) (.inl rfl))
  (zak (zdw (zfs (K:=K) rfl PySem.F.plainAttrs_dict PySem.F.slot_dict_update PySem.F.type_dict_update zxi (bv 2) (zaa (zex hu (bv 0) (bv 3) (fun _ _=>rfl)) zai (by rfl)) (by rfl) (by rfl) (by rfl) (zaf (by rfl)) (by rfl)) (by rfl))) (by intro _; rfl))
 (zak (zbj (bv 2)))))
 exact fn_d (f:=zyf) ((zar (zbg zrl) (zar (zfu (zda (zbb (zae (zad 1) zal))) zcr (zama (zfh (zad 3)))) zmr))) h
theorem zqn {f : Addr} {fd : FuncData} (F : Fun K "names_in_call" "names_in_call" zeh f fd) (T : Txt mg) (D_names_in : zpf P w K mg base) : FnOk P w K mg base CX0 2 f fd ["call"] (spD 1 zgx):=by
 refine F.ok zqj (fun vs H Q E h=>zcf h) (fun cdv A outer s H vs Q E hr h=>?_)
 have hu:=zfe hr
 apply Exists.intro
 apply And.intro
 ·refine' Bx.out (zak (zbj (zahz (zck (N':=["arm", "name"]) (own:=["arm", "name"]) (fr:=[]) (by kernel_rfl)) rfl (zbo (K:=K) rfl (bv 0)) ?hb1 (by intro _; rfl) (by intro _ _; rfl))))
  case hb1=>(intro cl C s H fp; refine' ⟨Bx.out (zap (i:=0) zjb rfl (Or.inl rfl) (by first | exact .inl rfl | exact .inr rfl | assumption)), Bx.out zga, Bx.out (zbo (K:=K) rfl (zbk D_names_in (hr.mono (by decide)) (by rfl) (zaa (bv 0) zai (by rfl)) (by decide) (zaf (by rfl)) (by rfl))), Bx.out (zap (i:=1) zjb rfl (Or.inl rfl) (by first | exact .inl rfl | exact .inr rfl | assumption)), Bx.out zga, Bx.out (bv 1)⟩)
 exact fn_d (f:=zle) ((zcm (zakt (k:=1) (zda (zad 0)) zcr (zahq (by decide) (by decide)) (by decide) ziu (zda (zbb (zae (zad 0) zal))) zcr (zahq (by decide) (by decide)) ziu (zad 1)))) h
theorem zwe {f : Addr} {fd : FuncData} (F : Fun K "check_call" "check_call" zgg f fd) (T : Txt mg) (D_check_kinds : zoh P w K mg base) (D_names_in_call : zlm P w K mg base) : FnOk P w K mg base CX0 3 f fd ["web", "places", "call"] (spD 3 zjj):=by
 refine F.ok zvu (fun vs H Q E h=>zcf h) (fun cdv A outer s H vs Q E hr h=>?_)
 have hu:=zfe hr
 apply Exists.intro
 apply And.intro
 ·refine' Bx.out (zah (zdo (zbu (zmi (K:=K) rfl hr.units) (zby (zdj (K:=K) rfl) (by rfl) T.len zep (zaa (bv 2) zai (by rfl)) (by decide) (by decide) (zaf (by rfl)) (by rfl)) (bv 1) (zea _)) (zak znv) zch)
 (zak (zdw (zbk D_check_kinds (hr.mono (by decide)) (by rfl) (zaa (bv 0) (zaa (zbk D_names_in_call (hr.mono (by decide)) (by rfl) (zaa (bv 2) zai (by rfl)) (by decide) (zaf (by rfl)) (by rfl)) zai (by rfl)) (by rfl)) (by decide) (zaf (by rfl)) (by rfl)) (by rfl))))
 exact fn_d (f:=zpq) ((zar (zgo (st_t (zbd zte (zfq zjf (zae (zad 2) zal)) (zad 1))) zqr zem) (zagr (zbb (zae (zad 0) (zae (zbb (zae (zad 2) zal)) zal)))))) h
theorem zqo {f : Addr} {fd : FuncData} (F : Fun K "roofs_in_call" "roofs_in_call" zei f fd) (T : Txt mg) (D_roof_of : zzf P w K mg base) : FnOk P w K mg base CX0 3 f fd ["roofs", "call"] (spD 2 zfb):=by
 refine F.ok zql (fun vs H Q E h=>zcf h) (fun cdv A outer s H vs Q E hr h=>?_)
 have hu:=zfe hr
 apply Exists.intro
 apply And.intro
 ·refine' Bx.out (zak (zbj (zdc (zck (N':=["arm", "roofs"]) (own:=["arm"]) (fr:=[0]) (by kernel_rfl)) rfl (zbo (K:=K) rfl (bv 1)) ?hb1 (by intro _; rfl))))
  case hb1=>(intro cl C s H fp; refine' ⟨Bx.out (zap (i:=0) zmy rfl (Or.inl rfl) (by first | exact .inl rfl | exact .inr rfl | assumption)), Bx.out zga, Bx.out (zbk D_roof_of (hr.mono (by decide)) (by rfl) (zaa (bv 1) (zaa (bv 0) zai (by rfl)) (by rfl)) (by decide) (zaf (by rfl)) (by rfl))⟩)
 exact fn_d (f:=zlf) ((zcm (zef (zda (zad 1)) zcr (zhc (by decide)) ziu (zbb (zae (zad 1) (zae (zad 0) zal)))))) h
theorem zwf {f : Addr} {fd : FuncData} (F : Fun K "fits_under" "fits_under" zgh f fd) (T : Txt mg)  : FnOk P w K mg base CX0 1 f fd ["kinds", "call_roofs"] (spD 2 zhw):=by
 refine F.ok zvw (fun vs H Q E h=>zcf h) (fun cdv A outer s H vs Q E hr h=>?_)
 have hu:=zfe hr
 apply Exists.intro
 apply And.intro
 ·refine' Bx.out (zak (zbj (zby (zxj (K:=K) rfl rfl) (by rfl) T.all zada (zaa (zdc (zck (N':=["kind", "roof"]) (own:=["kind", "roof"]) (fr:=[]) (by kernel_rfl)) rfl (zahy (K:=K) rfl rfl T.zip (zaa (bv 0) (zaa (bv 1) zai (by rfl)) (by rfl)) (by rfl) (by rfl)) ?hb1 (by intro _; rfl)) zai (by rfl)) (by decide) (by decide) (zaf (by rfl)) (by rfl))))
  case hb1=>(intro cl C s H fp; refine' ⟨Bx.out (zcx (K:=K) (n:=2) rfl rfl (zba (zap (i:=0) zkn rfl (Or.inl rfl) (by first | exact .inl rfl | exact .inr rfl | assumption)) (zba (zap (i:=1) zkn rfl (Or.inl rfl) (by first | exact .inl rfl | exact .inr rfl | assumption)) zcw (by rfl)) (by rfl)) (by rfl) (by rfl)), Bx.out zga, Bx.out (zaib (zaia hu (bv 0) (bv 1)) (by rfl))⟩)
 exact fn_d (f:=zpr) ((zcm (zfq zud (zae (zef (zamh (zae (zad 0) (zae (zad 1) zal))) (zgd (zbf (zbf zed))) (zrp (zew (by decide) (zew (by decide) zms))) ziu (zaly (zad 0) (zad 1))) zal)))) h
theorem zzj {f : Addr} {fd : FuncData} (F : Fun K "is_nearer" "is_nearer" zhh f fd) (T : Txt mg)  : FnOk P w K mg base CX0 1 f fd ["roofs", "one", "other"] (spD 3 zfc):=by
 refine F.ok zyp (fun vs H Q E h=>zcf h) (fun cdv A outer s H vs Q E hr h=>?_)
 have hu:=zfe hr
 apply Exists.intro
 apply And.intro
 ·refine' Bx.out (zak (zbj (zaau (zji (zmi (K:=K) rfl hr.units) (bv 1) (bv 2) (zea _)) (zaas (zby (zxj (K:=K) rfl rfl) (by rfl) T.all zada (zaa (zdc (zck (N':=["low", "high", "roofs"]) (own:=["low", "high"]) (fr:=[0]) (by kernel_rfl)) rfl (zahy (K:=K) rfl rfl T.zip (zaa (bv 1) (zaa (bv 2) zai (by rfl)) (by rfl)) (by rfl) (by rfl)) ?hb1 (by intro _; rfl)) zai (by rfl)) (by decide) (by decide) (zaf (by rfl)) (by rfl))))))
  case hb1=>(intro cl C s H fp; refine' ⟨Bx.out (zcx (K:=K) (n:=2) rfl rfl (zba (zap (i:=0) zlk rfl (Or.inl rfl) (by first | exact .inl rfl | exact .inr rfl | assumption)) (zba (zap (i:=1) zlk rfl (Or.inl rfl) (by first | exact .inl rfl | exact .inr rfl | assumption)) zcw (by rfl)) (by rfl)) (by rfl) (by rfl)), Bx.out zga, Bx.out (zaib (zaia hu (bv 1) (zex hu (bv 2) (bv 0) (fun _ _=>rfl))) (by rfl))⟩)
 exact fn_d (f:=zsc) ((zcm (zagn (zbd zte (zad 1) (zad 2)) (zfq zud (zae (zef (zamh (zae (zad 1) (zae (zad 2) zal))) (zgd (zbf (zbf zed))) (zrp (zew (by decide) (zew (by decide) zms))) ziu (zaly (zad 1) (zfh (zad 0)))) zal))))) h
theorem zph {f : Addr} {fd : FuncData} (F : Fun K "rules_that_fit" "rules_that_fit" zdr f fd) (T : Txt mg) (D_check_call : zqa P w K mg base) (D_fits_under : zqb P w K mg base) (D_roofs_in_call : zln P w K mg base) (D_roofs_of : zka P w K mg base) : FnOk P w K mg base CX0 4 f fd ["book", "call"] (spD 2 zcb):=by
 refine F.ok zpa (fun vs H Q E h=>zcf h) (fun cdv A outer s H vs Q E hr h=>?_)
 have hu:=zfe hr
 apply Exists.intro
 apply And.intro
 ·refine' Bx.out (zah (zvs (bv 0) (zcx (K:=K) (n:=3) rfl rfl (zba (zap (i:=2) zej rfl (Or.inl rfl) (.inl rfl)) (zba (zap (i:=3) zej rfl (Or.inl rfl) (.inl rfl)) (zba (zap (i:=4) zej rfl (Or.inl rfl) (.inl rfl)) zcw (by rfl)) (by rfl)) (by rfl)) (by rfl) (by rfl)) (by rfl) (by rfl) (by rfl))
 (zah (zdw (zbk D_check_call (hr.mono (by decide)) (by rfl) (zaa (bv 2) (zaa (bv 3) (zaa (bv 1) zai (by rfl)) (by rfl)) (by rfl)) (by decide) (zaf (by rfl)) (by rfl)) (by rfl))
 (zah (zax (i:=5) zej rfl (Or.inr rfl) (zbk D_roofs_in_call (hr.mono (by decide)) (by rfl) (zaa (zbk D_roofs_of (hr.mono (by decide)) (by rfl) (zaa (bv 2) zai (by rfl)) (by decide) (zaf (by rfl)) (by rfl)) (zaa (bv 1) zai (by rfl)) (by rfl)) (by decide) (zaf (by rfl)) (by rfl)) (by rfl) (.inl rfl))
 (zak (zbj (zdc (zck (N':=["rule", "call_roofs"]) (own:=["rule"]) (fr:=[5]) (by kernel_rfl)) rfl (zbo (K:=K) rfl (bv 4)) ?hb1 (by intro _; rfl)))))))
  case hb1=>(intro cl C s H fp; refine' ⟨Bx.out (zap (i:=0) zmg rfl (Or.inl rfl) (by first | exact .inl rfl | exact .inr rfl | assumption)), Bx.out (zmw (zcp (K:=K) rfl (zbk D_fits_under (hr.mono (by decide)) (by rfl) (zaa (zcd (zdi (K:=K) rfl) (bv 0) zam (fun _ _=>rfl)) (zaa (bv 1) zai (by rfl)) (by rfl)) (by decide) (zaf (by rfl)) (by rfl)) (fun _=>rfl))), Bx.out (bv 0)⟩)
 exact fn_d (f:=zkl) ((zar (zaci (zad 0) (zgd (zbf (zbf (zbf zed))))) (zar (zagr (zbb (zae (zad 2) (zae (zad 3) (zae (zad 1) zal))))) (zar (zbg (zbb (zae (zbb (zae (zad 2) zal)) (zae (zad 1) zal)))) (zcm (zef (zda (zad 4)) zcr (zhc (by decide)) (zhz (zbb (zae (zcg (se_c fun _=>zag)) (zae (zad 1) zal)))) (zad 0))))))) h
theorem zwg {f : Addr} {fd : FuncData} (F : Fun K "nearest_of" "nearest_of" zgi f fd) (T : Txt mg) (D_is_nearer : zmz P w K mg base) : FnOk P w K mg base CX0 2 f fd ["roofs", "rules"] (spD 2 zdx):=by
 refine F.ok zvy (fun vs H Q E h=>zcf h) (fun cdv A outer s H vs Q E hr h=>?_)
 have hu:=zfe hr
 apply Exists.intro
 apply And.intro
 ·refine' Bx.out (zak (zbj (zdc (zck (N':=["rule", "roofs", "rules"]) (own:=["rule"]) (fr:=[0, 1]) (by kernel_rfl)) rfl (zbo (K:=K) rfl (bv 1)) ?hb1 (by intro _; rfl))))
  case hb1=>(intro cl C s H fp; refine' ⟨Bx.out (zap (i:=0) zqm rfl (Or.inr rfl) (by first | exact .inl rfl | exact .inr rfl | assumption)), Bx.out (zmw (zkh (zcp (K:=K) rfl (zby (zni (K:=K) rfl rfl) (by rfl) T.any zqv (zaa (zdc (zck (N':=["name", "kinds", "rule", "roofs"]) (own:=["name", "kinds"]) (fr:=[0, 1]) (by kernel_rfl)) rfl (zbo (K:=K) rfl (bv 2)) ?hb2 (by intro _; rfl)) zai (by rfl)) (by decide) (by decide) (zaf (by rfl)) (by rfl)) (fun _=>rfl)))), Bx.out (bv 0)⟩; case hb2=>(intro cl C s H fp; refine' ⟨Bx.out (zcx (K:=K) (n:=2) rfl rfl (zba (zap (i:=0) zko rfl (Or.inl rfl) (by first | exact .inl rfl | exact .inr rfl | assumption)) (zba (zap (i:=1) zko rfl (Or.inl rfl) (by first | exact .inl rfl | exact .inr rfl | assumption)) zcw (by rfl)) (by rfl)) (by rfl) (by rfl)), Bx.out zga, Bx.out (zbk D_is_nearer (hr.mono (by decide)) (by rfl) (zaa (bv 3) (zaa (bv 1) (zaa (zcd (zdi (K:=K) rfl) (bv 2) zam (fun _ _=>rfl)) zai (by rfl)) (by rfl)) (by rfl)) (by decide) (zaf (by rfl)) (by rfl))⟩))
 exact fn_d (f:=zps) ((zcm (zef (zda (zad 1)) zcr (zhc (by decide)) (znk (zhz (zfq zud (zae (zef (zda (zad 2)) (zgd (zbf (zbf zed))) (zrp (zew (by decide) (zew (by decide) zms))) ziu (zbb (zae (zad 3) (zae (zad 1) (zae (zcg (se_c fun _=>zag)) zal))))) zal)))) (zad 0)))) h
theorem zwh {f : Addr} {fd : FuncData} (F : Fun K "rule_names" "rule_names" zgj f fd) (T : Txt mg)  : FnOk P w K mg base CX0 1 f fd ["rules"] (spD 1 zcn):=by
 refine F.ok zwa (fun vs H Q E h=>zcf h) (fun cdv A outer s H vs Q E hr h=>?_)
 have hu:=zfe hr
 apply Exists.intro
 apply And.intro
 ·refine' Bx.out (zak (zbj (zdc (zck (N':=["name", "kinds"]) (own:=["name", "kinds"]) (fr:=[]) (by kernel_rfl)) rfl (zbo (K:=K) rfl (bv 0)) ?hb1 (by intro _; rfl))))
  case hb1=>(intro cl C s H fp; refine' ⟨Bx.out (zcx (K:=K) (n:=2) rfl rfl (zba (zap (i:=0) zkp rfl (Or.inl rfl) (by first | exact .inl rfl | exact .inr rfl | assumption)) (zba (zap (i:=1) zkp rfl (Or.inl rfl) (by first | exact .inl rfl | exact .inr rfl | assumption)) zcw (by rfl)) (by rfl)) (by rfl) (by rfl)), Bx.out zga, Bx.out (bv 0)⟩)
 exact fn_d (f:=zpt) ((zcm (zef (zda (zad 0)) (zgd (zbf (zbf zed))) (zrp (zew (by decide) (zew (by decide) zms))) ziu (zad 0)))) h
theorem zzk {f : Addr} {fd : FuncData} (F : Fun K "answer_by" "answer_by" zhi f fd) (T : Txt mg)  : FnOk P w K mg base CX0 1 f fd ["names"] (spD 1 ziw):=by
 refine F.ok zyr (fun vs H Q E h=>zcf h) (fun cdv A outer s H vs Q E hr h=>?_)
 have hu:=zfe hr
 apply Exists.intro
 apply And.intro
 ·refine' Bx.out (zah (zdo (zkh (zcp (K:=K) rfl (bv 0) (fun _=>rfl))) (zak (zbj (zfr (zaa zfa zai (by rfl))))) zch)
 (zah (zdo (zbu (zjg (K:=K) rfl hr.units) (zby (zdj (K:=K) rfl) (by rfl) T.len zep (zaa (bv 0) zai (by rfl)) (by decide) (by decide) (zaf (by rfl)) (by rfl)) zam (zea _)) (zak (zbj (zfr (zaa zfa (zaa (zcd (zdi (K:=K) rfl) (bv 0) zam (fun _ _=>rfl)) zai (by rfl)) (by rfl))))) zch)
 (zak (zbj (zfr (zaa zfa (zaa (zdq (zit (K:=K) rfl) (by rfl) T.tuple zhf (zaa (bv 0) zai (by rfl)) (by decide) (by decide) (zaf (by rfl)) (by rfl)) zai (by rfl)) (by rfl)))))))
 exact fn_d (f:=zsd) ((zar (zgo (znk (zhz (zad 0))) (zcm (zia (zae (se_c fun _=>zcl) zal))) zem) (zar (zgo (st_t (zbd znj (zfq zjf (zae (zad 0) zal)) (se_c fun _=>zag))) (zcm (zia (zae (se_c fun _=>zcl) (zae (zcg (se_c fun _=>zag)) zal)))) zem) (zcm (zia (zae (se_c fun _=>zcl) (zae (zfq znm (zae (zad 0) zal)) zal))))))) h
theorem zsu {f : Addr} {fd : FuncData} (F : Fun K "answer_among" "answer_among" zet f fd) (T : Txt mg) (D_answer_by : zna P w K mg base) (D_nearest_of : zjk P w K mg base) (D_rule_names : zgm P w K mg base) : FnOk P w K mg base CX0 3 f fd ["roofs", "rules"] (spD 2 zhr):=by
 refine F.ok zsk (fun vs H Q E h=>zcf h) (fun cdv A outer s H vs Q E hr h=>?_)
 have hu:=zfe hr
 apply Exists.intro
 apply And.intro
 ·refine' Bx.out (zak (zbj (zbk D_answer_by (hr.mono (by decide)) (by rfl) (zaa (zbk D_rule_names (hr.mono (by decide)) (by rfl) (zaa (zbk D_nearest_of (hr.mono (by decide)) (by rfl) (zaa (bv 0) (zaa (bv 1) zai (by rfl)) (by rfl)) (by decide) (zaf (by rfl)) (by rfl)) zai (by rfl)) (by decide) (zaf (by rfl)) (by rfl)) zai (by rfl)) (by decide) (zaf (by rfl)) (by rfl))))
 exact fn_d (f:=zmj) ((zcm (zbb (zae (zbb (zae (zbb (zae (zad 0) (zae (zad 1) zal))) zal)) zal)))) h
theorem zaew {f : Addr} {fd : FuncData} (F : Fun K "fitting" "fitting" zjw f fd) (T : Txt mg) (D_rule_names : zgm P w K mg base) (D_rules_that_fit : zer P w K mg base) : FnOk P w K mg base CX0 5 f fd ["book", "call"] (spD 2 zlg):=by
 refine F.ok zaes (fun vs H Q E h=>zcf h) (fun cdv A outer s H vs Q E hr h=>?_)
 have hu:=zfe hr
 apply Exists.intro
 apply And.intro
 ·refine' Bx.out (zak (zbj (zbk D_rule_names (hr.mono (by decide)) (by rfl) (zaa (zbk D_rules_that_fit (hr.mono (by decide)) (by rfl) (zaa (bv 0) (zaa (bv 1) zai (by rfl)) (by rfl)) (by decide) (zaf (by rfl)) (by rfl)) zai (by rfl)) (by decide) (zaf (by rfl)) (by rfl))))
 exact fn_d (f:=zyl) ((zcm (zbb (zae (zbb (zae (zad 0) (zae (zad 1) zal))) zal)))) h
theorem zaex {f : Addr} {fd : FuncData} (F : Fun K "nearest" "nearest" zjx f fd) (T : Txt mg) (D_nearest_of : zjk P w K mg base) (D_roofs_of : zka P w K mg base) (D_rule_names : zgm P w K mg base) (D_rules_that_fit : zer P w K mg base) : FnOk P w K mg base CX0 5 f fd ["book", "call"] (spD 2 znx):=by
 refine F.ok zaet (fun vs H Q E h=>zcf h) (fun cdv A outer s H vs Q E hr h=>?_)
 have hu:=zfe hr
 apply Exists.intro
 apply And.intro
 ·refine' Bx.out (zah (zax (i:=2) zun rfl (Or.inl rfl) (zbk D_rules_that_fit (hr.mono (by decide)) (by rfl) (zaa (bv 0) (zaa (bv 1) zai (by rfl)) (by rfl)) (by decide) (zaf (by rfl)) (by rfl)) (by rfl) (.inl rfl))
 (zak (zbj (zbk D_rule_names (hr.mono (by decide)) (by rfl) (zaa (zbk D_nearest_of (hr.mono (by decide)) (by rfl) (zaa (zbk D_roofs_of (hr.mono (by decide)) (by rfl) (zaa (zcd (zdi (K:=K) rfl) (bv 0) zam (fun _ _=>rfl)) zai (by rfl)) (by decide) (zaf (by rfl)) (by rfl)) (zaa (bv 2) zai (by rfl)) (by rfl)) (by decide) (zaf (by rfl)) (by rfl)) zai (by rfl)) (by decide) (zaf (by rfl)) (by rfl)))))
 exact fn_d (f:=zym) ((zar (zbg (zbb (zae (zad 0) (zae (zad 1) zal)))) (zcm (zbb (zae (zbb (zae (zbb (zae (zcg (se_c fun _=>zag)) zal)) (zae (zad 2) zal))) zal))))) h
theorem zzl {f : Addr} {fd : FuncData} (F : Fun K "answer_of" "answer_of" zhj f fd) (T : Txt mg) (D_answer_by : zna P w K mg base) (D_nearest : zzh P w K mg base) : FnOk P w K mg base CX0 6 f fd ["book", "call"] (spD 2 zdk):=by
 refine F.ok zyv (fun vs H Q E h=>zcf h) (fun cdv A outer s H vs Q E hr h=>?_)
 have hu:=zfe hr
 apply Exists.intro
 apply And.intro
 ·refine' Bx.out (zak (zbj (zbk D_answer_by (hr.mono (by decide)) (by rfl) (zaa (zbk D_nearest (hr.mono (by decide)) (by rfl) (zaa (bv 0) (zaa (bv 1) zai (by rfl)) (by rfl)) (by decide) (zaf (by rfl)) (by rfl)) zai (by rfl)) (by decide) (zaf (by rfl)) (by rfl))))
 exact fn_d (f:=zse) ((zcm (zbb (zae (zbb (zae (zad 0) (zae (zad 1) zal))) zal)))) h
theorem zaij {f : Addr} {fd : FuncData} (F : Fun K "onward" "onward" zly f fd) (T : Txt mg) (D_answer_among : zmn P w K mg base) (D_is_nearer : zmz P w K mg base) (D_roofs_of : zka P w K mg base) (D_rule_names : zgm P w K mg base) (D_rules_that_fit : zer P w K mg base) : FnOk P w K mg base CX0 5 f fd ["book", "call", "name"] (spD 3 zfx):=by
 refine F.ok zaie (fun vs H Q E h=>zcf h) (fun cdv A outer s H vs Q E hr h=>?_)
 have hu:=zfe hr
 apply Exists.intro
 apply And.intro
 ·refine' Bx.out (zah (zvs (bv 0) (zcx (K:=K) (n:=3) rfl rfl (zba (zap (i:=3) ziz rfl (Or.inl rfl) (.inl rfl)) (zba (zap (i:=4) ziz rfl (Or.inl rfl) (.inl rfl)) (zba (zap (i:=5) ziz rfl (Or.inl rfl) (.inl rfl)) zcw (by rfl)) (by rfl)) (by rfl)) (by rfl) (by rfl)) (by rfl) (by rfl) (by rfl))
 (zah (zdo (zbu (zjq (K:=K) rfl) (bv 2) (zbk D_rule_names (hr.mono (by decide)) (by rfl) (zaa (bv 5) zai (by rfl)) (by decide) (zaf (by rfl)) (by rfl)) (by rfl)) (zak znv) zch)
 (zah (zax (i:=6) ziz rfl (Or.inl rfl) (zbk D_rules_that_fit (hr.mono (by decide)) (by rfl) (zaa (bv 0) (zaa (bv 1) zai (by rfl)) (by rfl)) (by decide) (zaf (by rfl)) (by rfl)) (by rfl) (.inl rfl))
 (zah (zdo (zbu (zjq (K:=K) rfl) (bv 2) (zbk D_rule_names (hr.mono (by decide)) (by rfl) (zaa (bv 6) zai (by rfl)) (by decide) (zaf (by rfl)) (by rfl)) (by rfl)) (zak znv) zch)
 (zah (zax (i:=7) ziz rfl (Or.inr rfl) (zex hu (zdq (zaek rfl) (by rfl) T.dict zaid (zaa (bv 6) zai (by rfl)) (by decide) (by decide) (zaf (by rfl)) (by rfl)) (bv 2) (fun _ _=>rfl)) (by rfl) (.inl rfl))
 (zah (zax (i:=8) ziz rfl (Or.inr rfl) (zbk D_roofs_of (hr.mono (by decide)) (by rfl) (zaa (bv 3) zai (by rfl)) (by decide) (zaf (by rfl)) (by rfl)) (by rfl) (.inl rfl))
 (zak (zbj (zbk D_answer_among (hr.mono (by decide)) (by rfl) (zaa (bv 8) (zaa (zdc (zck (N':=["rule", "own", "roofs"]) (own:=["rule"]) (fr:=[7, 8]) (by kernel_rfl)) rfl (zbo (K:=K) rfl (bv 6)) ?hb1 (by intro _; rfl)) zai (by rfl)) (by rfl)) (by decide) (zaf (by rfl)) (by rfl))))))))))
  case hb1=>(intro cl C s H fp; refine' ⟨Bx.out (zap (i:=0) zzc rfl (Or.inl rfl) (by first | exact .inl rfl | exact .inr rfl | assumption)), Bx.out (zmw (zcp (K:=K) rfl (zbk D_is_nearer (hr.mono (by decide)) (by rfl) (zaa (bv 2) (zaa (bv 1) (zaa (zcd (zdi (K:=K) rfl) (bv 0) zam (fun _ _=>rfl)) zai (by rfl)) (by rfl)) (by rfl)) (by decide) (zaf (by rfl)) (by rfl)) (fun _=>rfl))), Bx.out (bv 0)⟩)
 exact fn_d (f:=zacy) ((zar (zaci (zad 0) (zgd (zbf (zbf (zbf zed))))) (zar (zgo (st_t (zbd zvf (zad 2) (zbb (zae (zad 5) zal)))) zqr zem) (zar (zbg (zbb (zae (zad 0) (zae (zad 1) zal)))) (zar (zgo (st_t (zbd zvf (zad 2) (zbb (zae (zad 6) zal)))) zqr zem) (zar (zbg (zanr (zfq zany (zae (zad 6) zal)) (zad 2))) (zar (zbg (zbb (zae (zad 3) zal))) (zcm (zbb (zae (zad 8) (zae (zef (zda (zad 6)) zcr (zhc (by decide)) (zhz (zbb (zae (zad 2) (zae (zad 1) (zae (zcg (se_c fun _=>zag)) zal))))) (zad 0)) zal))))))))))) h
theorem zalf {f : Addr} {fd : FuncData} (F : Fun K "chain" "chain" zpb f fd) (T : Txt mg) (D_answer_of : znb P w K mg base) (D_onward : zqx P w K mg base) : FnOk P w K mg base CX0 7 f fd ["book", "call"] (spD 2 zsf):=by
 refine F.ok zale (fun vs H Q E h=>zcf h) (fun cdv A outer s H vs Q E hr h=>?_)
 have hu:=zfe hr
 apply Exists.intro
 apply And.intro
 ·refine' Bx.out (zah (zax (i:=2) zqw rfl (Or.inl rfl) (zeg zai) (by rfl) (.inl rfl))
 (zah (zax (i:=3) zqw rfl (Or.inl rfl) (zbk D_answer_of (hr.mono (by decide)) (by rfl) (zaa (bv 0) (zaa (bv 1) zai (by rfl)) (by rfl)) (by decide) (zaf (by rfl)) (by rfl)) (by rfl) (.inl rfl))
 (zah (zyk PassesOwn.never (zbu (zjg (K:=K) rfl hr.units) (zcd (zdi (K:=K) rfl) (bv 3) zam (fun _ _=>rfl)) zfa (zea _)) (zah (zdw (zfs (K:=K) rfl PySem.F.plainAttrs_list PySem.F.slot_list_append PySem.F.type_list_append zcz (bv 2) (zaa (zcd (zdi (K:=K) rfl) (bv 3) zam (fun _ _=>rfl)) zai (by rfl)) (by rfl) (by rfl) (by rfl) (zaf (by rfl)) (by rfl)) (by rfl))
 (zak (zax (i:=3) zqw rfl (Or.inl rfl) (zbk D_onward (hr.mono (by decide)) (by rfl) (zaa (bv 0) (zaa (bv 1) (zaa (zcd (zdi (K:=K) rfl) (bv 3) zam (fun _ _=>rfl)) zai (by rfl)) (by rfl)) (by rfl)) (by decide) (zaf (by rfl)) (by rfl)) (by rfl) (.inl rfl)))))
 (zak (zbj (zfr (zaa (bv 2) (zaa (bv 3) zai (by rfl)) (by rfl))))))))
 exact fn_d (f:=zaic) ((zar (zbg (zgc zal)) (zar (zbg (zbb (zae (zad 0) (zae (zad 1) zal)))) (zar (zack 1000 (st_t (zbd znj (zcg (se_c fun _=>zag)) (se_c fun _=>zcl))) (zar (zkk (zcg (se_c fun _=>zag))) (zbg (zbb (zae (zad 0) (zae (zad 1) (zae (zcg (se_c fun _=>zag)) zal))))))) (zcm (zia (zae (zad 2) (zae (zad 3) zal)))))))) h
theorem zaik {f : Addr} {fd : FuncData} (F : Fun K "layers" "layers" zlz f fd) (T : Txt mg) (D_nearest_of : zjk P w K mg base) (D_roofs_of : zka P w K mg base) (D_rule_names : zgm P w K mg base) (D_rules_that_fit : zer P w K mg base) : FnOk P w K mg base CX0 5 f fd ["book", "call"] (spD 2 zfy):=by
 refine F.ok zaig (fun vs H Q E h=>zcf h) (fun cdv A outer s H vs Q E hr h=>?_)
 have hu:=zfe hr
 apply Exists.intro
 apply And.intro
 ·refine' Bx.out (zah (zax (i:=2) zjy rfl (Or.inl rfl) (zbk D_rules_that_fit (hr.mono (by decide)) (by rfl) (zaa (bv 0) (zaa (bv 1) zai (by rfl)) (by rfl)) (by decide) (zaf (by rfl)) (by rfl)) (by rfl) (.inl rfl))
 (zah (zax (i:=3) zjy rfl (Or.inl rfl) (zbk D_roofs_of (hr.mono (by decide)) (by rfl) (zaa (zcd (zdi (K:=K) rfl) (bv 0) zam (fun _ _=>rfl)) zai (by rfl)) (by decide) (zaf (by rfl)) (by rfl)) (by rfl) (.inl rfl))
 (zah (zax (i:=4) zjy rfl (Or.inl rfl) (zeg zai) (by rfl) (.inl rfl))
 (zah (zyk PassesOwn.never (zcp (K:=K) rfl (bv 2) (fun _=>rfl)) (zah (zax (i:=5) zjy rfl (Or.inr rfl) (zbk D_nearest_of (hr.mono (by decide)) (by rfl) (zaa (bv 3) (zaa (bv 2) zai (by rfl)) (by rfl)) (by decide) (zaf (by rfl)) (by rfl)) (by rfl) (.inl rfl))
 (zah (zdw (zfs (K:=K) rfl PySem.F.plainAttrs_list PySem.F.slot_list_append PySem.F.type_list_append zcz (bv 4) (zaa (zbk D_rule_names (hr.mono (by decide)) (by rfl) (zaa (bv 5) zai (by rfl)) (by decide) (zaf (by rfl)) (by rfl)) zai (by rfl)) (by rfl) (by rfl) (by rfl) (zaf (by rfl)) (by rfl)) (by rfl))
 (zak (znw (i:=2) (zck (N':=["rule", "layer"]) (own:=["rule"]) (fr:=[5]) (by kernel_rfl)) rfl (zbo (K:=K) rfl (bv 2)) ?hb1 (by rfl) zjy rfl rfl (by intro _; rfl))))))
 (zak (zbj (bv 4)))))))
  case hb1=>(intro cl C s H fp; refine' ⟨Bx.out (zap (i:=0) zzd rfl (Or.inl rfl) (by first | exact .inl rfl | exact .inr rfl | assumption)), Bx.out (zmw (zbu (zyh (K:=K) rfl hr.units) (bv 0) (bv 1) (by rfl))), Bx.out (bv 0)⟩)
 exact fn_d (f:=zacz) ((zar (zbg (zbb (zae (zad 0) (zae (zad 1) zal)))) (zar (zbg (zbb (zae (zcg (se_c fun _=>zag)) zal))) (zar (zbg (zgc zal)) (zar (zack 1000 (zhz (zad 2)) (zar (zbg (zbb (zae (zad 3) (zae (zad 2) zal)))) (zar (zkk (zbb (zae (zad 5) zal))) (zbg (zef (zda (zad 2)) zcr (zhc (by decide)) (st_t (zbd zami (zad 0) (zad 1))) (zad 0)))))) zmr))))) h
theorem zzm {f : Addr} {fd : FuncData} (F : Fun K "_law_names" "_law_names" zhl f fd) (T : Txt mg)  : FnOk P w K mg base CX0 1 f fd ["_law_many", "_law_cell"] (spD 2 zcu):=by
 refine F.ok zyx (fun vs H Q E h=>zcf h) (fun cdv A outer s H vs Q E hr h=>?_)
 have hu:=zfe hr
 apply Exists.intro
 apply And.intro
 ·refine' Bx.out (zah (zax (i:=2) zcq rfl (Or.inl rfl) zfa (by rfl) (.inl rfl))
 (zah (zax (i:=3) zcq rfl (Or.inl rfl) (zcd (zdi (K:=K) rfl) (zfr (zaa zam (zaa zam (zaa zam (zaa zam (zaa zam (zaa zam (zaa zam (zaa zam zai (by rfl)) (by rfl)) (by rfl)) (by rfl)) (by rfl)) (by rfl)) (by rfl)) (by rfl))) (zbe zdm (zbe zey (bv 1) zam) zam) (fun _ _=>rfl)) (by rfl) (.inl rfl))
 (zah (zax (i:=4) zcq rfl (Or.inl rfl) (zbe zdm (zbe zey (bv 1) zam) zam) (by rfl) (.inl rfl))
 (zah (zax (i:=5) zcq rfl (Or.inl rfl) (zbe zjm (zcd (zdi (K:=K) rfl) (bv 2) (zbe zdm (zbe zey (bv 1) zam) zam) (fun _ _=>rfl)) (zbe zdm (zbe zey (bv 1) zam) zam)) (by rfl) (.inl rfl))
 (zah (zax (i:=6) zcq rfl (Or.inl rfl) (zbe zdm (zbe zey (bv 1) zam) (zbe (zcs (K:=K) rfl) (zby (zdj (K:=K) rfl) (by rfl) T.len zep (zaa (bv 5) zai (by rfl)) (by decide) (by decide) (zaf (by rfl)) (by rfl)) zam)) (by rfl) (.inl rfl))
 (zah (zax (i:=7) zcq rfl (Or.inl rfl) (zeg zai) (by rfl) (.inl rfl))
 (zah (zdy PassesOwn.never rfl (zoy rfl T.range (zaa (bv 0) zai (by rfl)) (by rfl)) (zap (i:=8) zcq rfl (Or.inl rfl) (.inl rfl))
  (zah (zax (i:=9) zcq rfl (Or.inl rfl) (zcd (zdi (K:=K) rfl) (bv 2) (zbe zdm (zbe (zcs (K:=K) rfl) (bv 4) (zbe zjm (bv 3) (bv 8))) zam) (fun _ _=>rfl)) (by rfl) (.inl rfl))
 (zak (zdo (zbu (zjg (K:=K) rfl hr.units) (zbe zdm (bv 1) zam) zam (zea _)) (zak (zdw (zfs (K:=K) rfl PySem.F.plainAttrs_list PySem.F.slot_list_append PySem.F.type_list_append zcz (bv 7) (zaa (zbe (zcs (K:=K) rfl) (zbe (zcs (K:=K) rfl) (zdb (zkt (K:=K) rfl) (bv 5) zfw (zcv (bv 6))) (bv 9)) (zdb (zkt (K:=K) rfl) (bv 5) (zcv (bv 6)) zfw)) zai (by rfl)) (by rfl) (by rfl) (by rfl) (zaf (by rfl)) (by rfl)) (by rfl))) (zak (zdo (zbu (zjg (K:=K) rfl hr.units) (zbe zdm (bv 1) zam) zam (zea _)) (zak (zdw (zfs (K:=K) rfl PySem.F.plainAttrs_list PySem.F.slot_list_append PySem.F.type_list_append zcz (bv 7) (zaa (zbe (zcs (K:=K) rfl) (zdb (zkt (K:=K) rfl) (bv 5) zfw (zcv (zbe zdm (zbe zjm (bv 8) (bv 3)) (zbe (zcs (K:=K) rfl) (zby (zdj (K:=K) rfl) (by rfl) T.len zep (zaa (bv 5) zai (by rfl)) (by decide) (by decide) (zaf (by rfl)) (by rfl)) zam)))) (bv 9)) zai (by rfl)) (by rfl) (by rfl) (by rfl) (zaf (by rfl)) (by rfl)) (by rfl))) (zak (zdw (zfs (K:=K) rfl PySem.F.plainAttrs_list PySem.F.slot_list_append PySem.F.type_list_append zcz (bv 7) (zaa (zbe zjm (zcd (zdi (K:=K) rfl) (bv 2) (zbe zdm (zbe (zcs (K:=K) rfl) (bv 4) (zbe zey (bv 8) zam)) zam) (fun _ _=>rfl)) (zbe (zcs (K:=K) rfl) zam (zbe zdm (zbe zjm (bv 8) (bv 3)) zam))) zai (by rfl)) (by rfl) (by rfl) (by rfl) (zaf (by rfl)) (by rfl)) (by rfl)))))))) (by intro _; rfl))
 (zah (zdo (zbu (zjg (K:=K) rfl hr.units) (zbe zdm (zbe zey (bv 1) zam) zam) zam (zea _)) (zah (zax (i:=10) zcq rfl (Or.inl rfl) (zeg (zaa zfa (zaa zfa (zaa zfa (zaa zfa (zaa zfa (zaa zfa zai (by rfl)) (by rfl)) (by rfl)) (by rfl)) (by rfl)) (by rfl))) (by rfl) (.inl rfl))
 (zah (zax (i:=11) zcq rfl (Or.inl rfl) (zbe zdm (zbe zey (bv 1) zam) zam) (by rfl) (.inl rfl))
 (zak (zax (i:=7) zcq rfl (Or.inl rfl) (zdb (zkt (K:=K) rfl) (zbe (zcs (K:=K) rfl) (zbe (zcs (K:=K) rfl) (zdb (zkt (K:=K) rfl) (bv 10) (zcv (bv 11)) zfw) (zdb (zkt (K:=K) rfl) (bv 10) zfw (zcv (bv 11)))) (zdb (zkt (K:=K) rfl) (bv 7) (zcv zam) zfw)) zfw (zcv (bv 0))) (by rfl) (.inl rfl))))) zch)
 (zak (zbj (bv 7)))))))))))
 exact fn_d (f:=zix) ((zar (zbg (se_c fun _=>zcl)) (zar (zbg (zbd zanq (zia (zae (se_c fun _=>zag) (zae (se_c fun _=>zag) (zae (se_c fun _=>zag) (zae (se_c fun _=>zag) (zae (se_c fun _=>zag) (zae (se_c fun _=>zag) (zae (se_c fun _=>zag) (zae (se_c fun _=>zag) zal))))))))) (zbd zel (zbd zfp (zad 1) (se_c fun _=>zag)) (se_c fun _=>zag)))) (zar (zbg (zbd zel (zbd zfp (zad 1) (se_c fun _=>zag)) (se_c fun _=>zag))) (zar (zbg (zbd zuc (zcg (zbd zel (zbd zfp (zad 1) (se_c fun _=>zag)) (se_c fun _=>zag))) (zbd zel (zbd zfp (zad 1) (se_c fun _=>zag)) (se_c fun _=>zag)))) (zar (zbg (zbd zel (zbd zfp (zad 1) (se_c fun _=>zag)) (zbd zhu (zfq zjf (zae (zad 5) zal)) (se_c fun _=>zag)))) (zar (zbg (zgc zal)) (zar (zfu (zro (zae (zad 0) zal)) zcr (zar (zbg (zcg (zbd zel (zbd zhu (zad 4) (zbd zuc (zad 3) (zad 8))) (se_c fun _=>zag)))) (zgo (st_t (zbd znj (zbd zel (zad 1) (se_c fun _=>zag)) (se_c fun _=>zag))) (zkk (zbd zhu (zbd zhu (zmf (zad 5) zhx (zec (zad 6))) (zad 9)) (zmf (zad 5) (zec (zad 6)) zhx))) (zgo (st_t (zbd znj (zbd zel (zad 1) (se_c fun _=>zag)) (se_c fun _=>zag))) (zkk (zbd zhu (zmf (zad 5) zhx (zec (zbd zel (zbd zuc (zad 8) (zad 3)) (zbd zhu (zfq zjf (zae (zad 5) zal)) (se_c fun _=>zag))))) (zad 9))) (zkk (zbd zuc (zcg (zbd zel (zbd zhu (zad 4) (zbd zfp (zad 8) (se_c fun _=>zag))) (se_c fun _=>zag))) (zbd zhu (se_c fun _=>zag) (zbd zel (zbd zuc (zad 8) (zad 3)) (se_c fun _=>zag))))))))) (zar (zgo (st_t (zbd znj (zbd zel (zbd zfp (zad 1) (se_c fun _=>zag)) (se_c fun _=>zag)) (se_c fun _=>zag))) (zar (zbg (zgc (zae (se_c fun _=>zcl) (zae (se_c fun _=>zcl) (zae (se_c fun _=>zcl) (zae (se_c fun _=>zcl) (zae (se_c fun _=>zcl) (zae (se_c fun _=>zcl) zal)))))))) (zar (zbg (zbd zel (zbd zfp (zad 1) (se_c fun _=>zag)) (se_c fun _=>zag))) (zbg (zmf (zbd zhu (zbd zhu (zmf (zad 10) (zec (zad 11)) zhx) (zmf (zad 10) zhx (zec (zad 11)))) (zmf (zad 7) (zec (se_c fun _=>zag)) zhx)) zhx (zec (zad 0)))))) zem) zmr))))))))) h
theorem zaey {f : Addr} {fd : FuncData} (F : Fun K "_law_web" "_law_web" zjz f fd) (T : Txt mg)  : FnOk P w K mg base CX0 1 f fd ["_law_cells", "_law_names_here"] (spD 2 zkx):=by
 refine F.ok zaeu (fun vs H Q E h=>zcf h) (fun cdv A outer s H vs Q E hr h=>?_)
 have hu:=zfe hr
 apply Exists.intro
 apply And.intro
 ·refine' Bx.out (zah (zax (i:=2) zeu rfl (Or.inl rfl) (zeg zai) (by rfl) (.inl rfl))
 (zah (zdy PassesOwn.never rfl (zld (K:=K) rfl rfl T.enumerate (zaa (bv 1) zai (by rfl)) (by rfl)) (zcx (K:=K) (n:=2) rfl rfl (zba (zap (i:=3) zeu rfl (Or.inl rfl) (.inl rfl)) (zba (zap (i:=4) zeu rfl (Or.inl rfl) (.inl rfl)) zcw (by rfl)) (by rfl)) (by rfl) (by rfl))
  (zah (zax (i:=5) zeu rfl (Or.inl rfl) (zdb (zkt (K:=K) rfl) (bv 1) zfw (zcv (bv 3))) (by rfl) (.inl rfl))
 (zah (zax (i:=6) zeu rfl (Or.inl rfl) (zbe zey (zcd (zdi (K:=K) rfl) (bv 0) (bv 3) (fun _ _=>rfl)) zam) (by rfl) (.inl rfl))
 (zah (zax (i:=7) zeu rfl (Or.inl rfl) (zeg zai) (by rfl) (.inl rfl))
 (zah (zdy PassesOwn.never rfl (zoy rfl T.range (zaa (zby (zafm rfl) (by rfl) T.min zald (zaa (zbe zdm (zcd (zdi (K:=K) rfl) (bv 0) (bv 3) (fun _ _=>rfl)) zam) (zaa (bv 3) zai (by rfl)) (by rfl)) (by decide) (by decide) (zaf (by rfl)) (by rfl)) zai (by rfl)) (by rfl)) (zap (i:=8) zeu rfl (Or.inl rfl) (.inl rfl))
  (zah (zax (i:=9) zeu rfl (Or.inl rfl) (zbe zdm (bv 6) (zby (zdj (K:=K) rfl) (by rfl) T.len zep (zaa (bv 5) zai (by rfl)) (by decide) (by decide) (zaf (by rfl)) (by rfl))) (by rfl) (.inl rfl))
 (zah (zax (i:=6) zeu rfl (Or.inl rfl) (zbe zey (bv 6) (zby (zdj (K:=K) rfl) (by rfl) T.len zep (zaa (bv 5) zai (by rfl)) (by decide) (by decide) (zaf (by rfl)) (by rfl))) (by rfl) (.inl rfl))
 (zak (zdw (zfs (K:=K) rfl PySem.F.plainAttrs_list PySem.F.slot_list_append PySem.F.type_list_append zcz (bv 7) (zaa (zfs (K:=K) rfl PySem.F.plainAttrs_list PySem.F.slot_list_pop PySem.F.type_list_pop zajn (bv 5) (zaa (bv 9) zai (by rfl)) (by rfl) (by rfl) (by rfl) (zaf (by rfl)) (by rfl)) zai (by rfl)) (by rfl) (by rfl) (by rfl) (zaf (by rfl)) (by rfl)) (by rfl))))) (by intro _; rfl))
 (zak (zdw (zfs (K:=K) rfl PySem.F.plainAttrs_list PySem.F.slot_list_append PySem.F.type_list_append zcz (bv 2) (zaa (zfr (zaa (bv 4) (zaa (bv 7) zai (by rfl)) (by rfl))) zai (by rfl)) (by rfl) (by rfl) (by rfl) (zaf (by rfl)) (by rfl)) (by rfl))))))) (by intro _; rfl))
 (zak (zbj (bv 2)))))
 exact fn_d (f:=zxt) ((zar (zbg (zgc zal)) (zar (zfu (znu (zae (zad 1) zal)) (zgd (zbf (zbf zed))) (zar (zbg (zmf (zad 1) zhx (zec (zad 3)))) (zar (zbg (zbd zfp (zcg (zad 3)) (se_c fun _=>zag))) (zar (zbg (zgc zal)) (zar (zfu (zro (zae (zfq zaqg (zae (zbd zel (zcg (zad 3)) (se_c fun _=>zag)) (zae (zad 3) zal))) zal)) zcr (zar (zbg (zbd zel (zad 6) (zfq zjf (zae (zad 5) zal)))) (zar (zbg (zbd zfp (zad 6) (zfq zjf (zae (zad 5) zal)))) (zagy (zad 9))))) (zkk (zia (zae (zad 4) (zae (zad 7) zal))))))))) zmr))) h
theorem zail {f : Addr} {fd : FuncData} (F : Fun K "_law_up" "_law_up" zma f fd) (T : Txt mg)  : FnOk P w K mg base CX0 1 f fd ["_law_web_here"] (spD 1 znp):=by
 refine F.ok zaih (fun vs H Q E h=>zcf h) (fun cdv A outer s H vs Q E hr h=>?_)
 have hu:=zfe hr
 apply Exists.intro
 apply And.intro
 ·refine' Bx.out (zah (zax (i:=1) zja rfl (Or.inl rfl) zlc (by rfl) (.inl rfl))
 (zah (zdy PassesOwn.never rfl (zbo (K:=K) rfl (bv 0)) (zcx (K:=K) (n:=2) rfl rfl (zba (zap (i:=2) zja rfl (Or.inl rfl) (.inl rfl)) (zba (zap (i:=3) zja rfl (Or.inl rfl) (.inl rfl)) zcw (by rfl)) (by rfl)) (by rfl) (by rfl))
  (zah (zax (i:=4) zja rfl (Or.inl rfl) (zeg (zaa (bv 2) zai (by rfl))) (by rfl) (.inl rfl))
 (zah (zdy PassesOwn.never rfl (zbo (K:=K) rfl (bv 3)) (zap (i:=5) zja rfl (Or.inl rfl) (.inl rfl))
  (zak (zdy PassesOwn.never rfl (zbo (K:=K) rfl (zex hu (bv 1) (bv 5) (fun _ _=>rfl))) (zap (i:=6) zja rfl (Or.inl rfl) (.inl rfl))
  (zak (zdo (zbu (zjq (K:=K) rfl) (bv 6) (bv 4) (by rfl)) (zak (zdw (zfs (K:=K) rfl PySem.F.plainAttrs_list PySem.F.slot_list_append PySem.F.type_list_append zcz (bv 4) (zaa (bv 6) zai (by rfl)) (by rfl) (by rfl) (by rfl) (zaf (by rfl)) (by rfl)) (by rfl))) zch)) (by intro _; rfl))) (by intro _; rfl))
 (zak (zqu hu (bv 1) (bv 2) (bv 4) rfl)))) (by intro _; rfl))
 (zak (zbj (bv 1)))))
 exact fn_d (f:=zacl) ((zar (zbg zrl) (zar (zfu (zda (zad 0)) (zgd (zbf (zbf zed))) (zar (zbg (zgc (zae (zad 2) zal))) (zar (zfu (zda (zad 3)) zcr (zfu (zda (zfh (zad 5))) zcr (zgo (st_t (zbd zvf (zad 6) (zad 4))) (zkk (zad 6)) zem))) (zacj (zad 2) (zad 4))))) zmr))) h
theorem zzn {f : Addr} {fd : FuncData} (F : Fun K "_law_parts" "_law_parts" zhm f fd) (T : Txt mg)  : FnOk P w K mg base CX0 1 f fd ["_law_arm"] (spD 1 zci):=by
 refine F.ok zza (fun vs H Q E h=>zcf h) (fun cdv A outer s H vs Q E hr h=>?_)
 have hu:=zfe hr
 apply Exists.intro
 apply And.intro
 ·refine' Bx.out (zah (zdo (zcp (K:=K) rfl (zby (zxk (K:=K) rfl) (by rfl) T.isinstance zlh (zaa (bv 0) (zaa (zacx (v:=.ty "tuple") (by rfl) T.tuple zhf rfl (by decide) (by decide)) zai (by rfl)) (by rfl)) (by decide) (by decide) (zaf (by rfl)) (by rfl)) (fun _=>rfl)) (zak (zbj (zdq (zij (K:=K) rfl) (by rfl) T.list zju (zaa (bv 0) zai (by rfl)) (by decide) (by decide) (zaf (by rfl)) (by rfl)))) zch)
 (zak (zbj (zeg (zaa (bv 0) zai (by rfl))))))
 exact fn_d (f:=zox) ((zar (zgo (zhz (zalz (zad 0) zxn)) (zcm (zfq zot (zae (zad 0) zal))) zem) (zcm (zgc (zae (zad 0) zal))))) h
theorem zabg {f : Addr} {fd : FuncData} (F : Fun K "_law_call" "_law_call" zio f fd) (T : Txt mg)  : FnOk P w K mg base CX0 1 f fd ["_law_cell", "_law_names_here", "_law_places"] (spD 3 zge):=by
 refine F.ok zaba (fun vs H Q E h=>zcf h) (fun cdv A outer s H vs Q E hr h=>?_)
 have hu:=zfe hr
 apply Exists.intro
 apply And.intro
 ·refine' Bx.out (zah (zax (i:=3) zdz rfl (Or.inl rfl) (zeg zai) (by rfl) (.inl rfl))
 (zah (zax (i:=4) zdz rfl (Or.inl rfl) (bv 0) (by rfl) (.inl rfl))
 (zah (zax (i:=5) zdz rfl (Or.inl rfl) (zby (zdj (K:=K) rfl) (by rfl) T.len zep (zaa (bv 1) zai (by rfl)) (by decide) (by decide) (zaf (by rfl)) (by rfl)) (by rfl) (.inl rfl))
 (zah (zdy PassesOwn.never rfl (zoy rfl T.range (zaa (bv 2) zai (by rfl)) (by rfl)) (zap (i:=6) zdz rfl (Or.inl rfl) (.inl rfl))
  (zah (zax (i:=7) zdz rfl (Or.inr rfl) (zbe zdm (bv 4) (bv 5)) (by rfl) (.inl rfl))
 (zah (zax (i:=4) zdz rfl (Or.inl rfl) (zbe zey (bv 4) (bv 5)) (by rfl) (.inl rfl))
 (zah (zdo (zbu (zjg (K:=K) rfl hr.units) (zbe zdm (bv 4) zam) zam (zea _)) (zak (zdw (zfs (K:=K) rfl PySem.F.plainAttrs_list PySem.F.slot_list_append PySem.F.type_list_append zcz (bv 3) (zaa (zfr (zaa (zcd (zdi (K:=K) rfl) (bv 1) (zbe zpk (zbe zpk (bv 5) zam) (bv 7)) (fun _ _=>rfl)) zai (by rfl))) zai (by rfl)) (by rfl) (by rfl) (by rfl) (zaf (by rfl)) (by rfl)) (by rfl))) (zak (zdo (zvr (zbu (zjg (K:=K) rfl hr.units) (zbe zdm (bv 4) zam) zam (zea _)) (zqt (zbu zamu (bv 5) zam (zea _)))).pt (zah (zax (i:=8) zdz rfl (Or.inr rfl) (zbe zdm (zbe (zcs (K:=K) rfl) (zbe (zcs (K:=K) rfl) (bv 7) zam) (zbe zdm (zbe zey (bv 4) zam) (zbe zpk (bv 5) zam))) (bv 5)) (by rfl) (.inl rfl))
 (zah (znw (i:=9) (zck (N':=["_law_name", "_law_names_here", "_law_at", "_law_by"]) (own:=["_law_name"]) (fr:=[1, 7, 8]) (by kernel_rfl)) rfl (zbo (K:=K) rfl (zdb (zkt (K:=K) rfl) (bv 1) (zcv (zbe zpk (bv 5) (zbe zdm (bv 4) zam))) zfw)) ?hb1 (by rfl) zdz rfl rfl (by intro _; rfl))
 (zak (zdw (zfs (K:=K) rfl PySem.F.plainAttrs_list PySem.F.slot_list_append PySem.F.type_list_append zcz (bv 3) (zaa (zdq (zit (K:=K) rfl) (by rfl) T.tuple zhf (zaa (zbe (zcs (K:=K) rfl) (zeg (zaa (zcd (zdi (K:=K) rfl) (bv 1) (bv 7) (fun _ _=>rfl)) (zaa (zcd (zdi (K:=K) rfl) (bv 1) (bv 8) (fun _ _=>rfl)) zai (by rfl)) (by rfl))) (bv 9)) zai (by rfl)) (by decide) (by decide) (zaf (by rfl)) (by rfl)) zai (by rfl)) (by rfl) (by rfl) (by rfl) (zaf (by rfl)) (by rfl)) (by rfl))))) (zak (zdw (zfs (K:=K) rfl PySem.F.plainAttrs_list PySem.F.slot_list_append PySem.F.type_list_append zcz (bv 3) (zaa (zcd (zdi (K:=K) rfl) (bv 1) (zbe zpk (zbe zpk (bv 5) zam) (bv 7)) (fun _ _=>rfl)) zai (by rfl)) (by rfl) (by rfl) (by rfl) (zaf (by rfl)) (by rfl)) (by rfl))))))
 (zak (zax (i:=4) zdz rfl (Or.inl rfl) (zbe zey (bv 4) (zbe zjm zam (bv 5))) (by rfl) (.inl rfl)))))) (by intro _; rfl))
 (zak (zbj (zdq (zit (K:=K) rfl) (by rfl) T.tuple zhf (zaa (bv 3) zai (by rfl)) (by decide) (by decide) (zaf (by rfl)) (by rfl))))))))
  case hb1=>(intro cl C s H fp; refine' ⟨Bx.out (zap (i:=0) ztp rfl (Or.inl rfl) (by first | exact .inl rfl | exact .inr rfl | assumption)), Bx.out (zmw (zbu (zjq (K:=K) rfl) (bv 0) (zfr (zaa (zcd (zdi (K:=K) rfl) (bv 1) (bv 2) (fun _ _=>rfl)) (zaa (zcd (zdi (K:=K) rfl) (bv 1) (bv 3) (fun _ _=>rfl)) zai (by rfl)) (by rfl))) (by rfl))), Bx.out (bv 0)⟩)
 exact fn_d (f:=zui) ((zar (zbg (zgc zal)) (zar (zbg (zad 0)) (zar (zbg (zfq zjf (zae (zad 1) zal))) (zar (zfu (zro (zae (zad 2) zal)) zcr (zar (zbg (zbd zel (zad 4) (zad 5))) (zar (zbg (zbd zfp (zad 4) (zad 5))) (zar (zgo (st_t (zbd znj (zbd zel (zad 4) (se_c fun _=>zag)) (se_c fun _=>zag))) (zkk (zia (zae (zcg (zbd zpm (zbd zpm (zad 5) (se_c fun _=>zag)) (zad 7))) zal))) (zgo (zach (st_t (zbd znj (zbd zel (zad 4) (se_c fun _=>zag)) (se_c fun _=>zag))) (st_t (zbd zanm (zad 5) (se_c fun _=>zag)))) (zar (zbg (zbd zel (zbd zhu (zbd zhu (zad 7) (se_c fun _=>zag)) (zbd zel (zbd zfp (zad 4) (se_c fun _=>zag)) (zbd zpm (zad 5) (se_c fun _=>zag)))) (zad 5))) (zar (zbg (zef (zda (zmf (zad 1) (zec (zbd zpm (zad 5) (zbd zel (zad 4) (se_c fun _=>zag)))) zhx)) zcr (zhc (by decide)) (st_t (zbd zvf (zad 0) (zia (zae (zcg (zad 2)) (zae (zcg (zad 3)) zal))))) (zad 0))) (zkk (zfq znm (zae (zbd zhu (zgc (zae (zcg (zad 7)) (zae (zcg (zad 8)) zal))) (zad 9)) zal))))) (zkk (zcg (zbd zpm (zbd zpm (zad 5) (se_c fun _=>zag)) (zad 7)))))) (zbg (zbd zfp (zad 4) (zbd zuc (se_c fun _=>zag) (zad 5)))))))) (zcm (zfq znm (zae (zad 3) zal)))))))) h
theorem zzo {f : Addr} {fd : FuncData} (F : Fun K "_law_rules" "_law_rules" zhn f fd) (T : Txt mg) (D_law_parts : znc P w K mg base) : FnOk P w K mg base CX0 2 f fd ["_law_cells", "_law_names_here", "_law_up_here", "_law_call_here", "_law_titles"] (spD 5 ziy):=by
 refine F.ok zzb (fun vs H Q E h=>zcf h) (fun cdv A outer s H vs Q E hr h=>?_)
 have hu:=zfe hr
 apply Exists.intro
 apply And.intro
 ·refine' Bx.out (zah (zax (i:=5) zdf rfl (Or.inl rfl) (zeg zai) (by rfl) (.inl rfl))
 (zah (zdy PassesOwn.never rfl (zld (K:=K) rfl rfl T.enumerate (zaa (bv 4) zai (by rfl)) (by rfl)) (zcx (K:=K) (n:=2) rfl rfl (zba (zap (i:=6) zdf rfl (Or.inl rfl) (.inl rfl)) (zba (zap (i:=7) zdf rfl (Or.inl rfl) (.inl rfl)) zcw (by rfl)) (by rfl)) (by rfl) (by rfl))
  (zah (zax (i:=8) zdf rfl (Or.inl rfl) (zbe zey (zcd (zdi (K:=K) rfl) (bv 0) (bv 6) (fun _ _=>rfl)) zam) (by rfl) (.inl rfl))
 (zah (zax (i:=9) zdf rfl (Or.inl rfl) (zeg zai) (by rfl) (.inl rfl))
 (zah (zdy PassesOwn.never rfl (zbo (K:=K) rfl (bv 3)) (zap (i:=10) zdf rfl (Or.inr rfl) (.inl rfl))
  (zah (zax (i:=11) zdf rfl (Or.inl rfl) (bv 1) (by rfl) (.inl rfl))
 (zah (zdo (zbu zamu (zbe zdm (zcd (zdi (K:=K) rfl) (bv 0) (bv 6) (fun _ _=>rfl)) zam) zam (zea _)) (zak (znw (i:=11) (zck (N':=["_law_name", "_law_up_here", "_law_arm"]) (own:=["_law_name"]) (fr:=[2, 10]) (by kernel_rfl)) rfl (zbo (K:=K) rfl (bv 1)) ?hb1 (by rfl) zdf rfl rfl (by intro _; rfl))) zch)
 (zah (zdw (zfs (K:=K) rfl PySem.F.plainAttrs_list PySem.F.slot_list_append PySem.F.type_list_append zcz (bv 9) (zaa (zcd (zdi (K:=K) rfl) (bv 11) (zbe zdm (bv 8) (zby (zdj (K:=K) rfl) (by rfl) T.len zep (zaa (bv 11) zai (by rfl)) (by decide) (by decide) (zaf (by rfl)) (by rfl))) (fun _ _=>rfl)) zai (by rfl)) (by rfl) (by rfl) (by rfl) (zaf (by rfl)) (by rfl)) (by rfl))
 (zak (zax (i:=8) zdf rfl (Or.inl rfl) (zbe zey (bv 8) (zby (zdj (K:=K) rfl) (by rfl) T.len zep (zaa (bv 11) zai (by rfl)) (by decide) (by decide) (zaf (by rfl)) (by rfl))) (by rfl) (.inl rfl)))))) (by intro _; rfl))
 (zak (zdo (zbu (zyh (K:=K) rfl hr.units) (zdq (zit (K:=K) rfl) (by rfl) T.tuple zhf (zaa (bv 9) zai (by rfl)) (by decide) (by decide) (zaf (by rfl)) (by rfl)) (zdc (zck (N':=["_law_one", "_law_row"]) (own:=["_law_one", "_law_row"]) (fr:=[]) (by kernel_rfl)) rfl (zbo (K:=K) rfl (bv 5)) ?hb3 (by intro _; rfl)) (by rfl)) (zak (zdw (zfs (K:=K) rfl PySem.F.plainAttrs_list PySem.F.slot_list_append PySem.F.type_list_append zcz (bv 5) (zaa (zfr (zaa (bv 7) (zaa (zdq (zit (K:=K) rfl) (by rfl) T.tuple zhf (zaa (bv 9) zai (by rfl)) (by decide) (by decide) (zaf (by rfl)) (by rfl)) zai (by rfl)) (by rfl))) zai (by rfl)) (by rfl) (by rfl) (by rfl) (zaf (by rfl)) (by rfl)) (by rfl))) zch))))) (by intro _; rfl))
 (zak (zbj (bv 5)))))
  case hb1=>(intro cl C s H fp; refine' ⟨Bx.out (zap (i:=0) zsq rfl (Or.inr rfl) (by first | exact .inl rfl | exact .inr rfl | assumption)), Bx.out (zmw (zcp (K:=K) rfl (zby (zni (K:=K) rfl rfl) (by rfl) T.any zqv (zaa (zdc (zck (N':=["_law_one", "_law_name", "_law_up_here"]) (own:=["_law_one"]) (fr:=[0, 1]) (by kernel_rfl)) rfl (zbo (K:=K) rfl (zbk D_law_parts (hr.mono (by decide)) (by rfl) (zaa (bv 2) zai (by rfl)) (by decide) (zaf (by rfl)) (by rfl))) ?hb2 (by intro _; rfl)) zai (by rfl)) (by decide) (by decide) (zaf (by rfl)) (by rfl)) (fun _=>rfl))), Bx.out (bv 0)⟩; case hb2=>(intro cl C s H fp; refine' ⟨Bx.out (zap (i:=0) zsr rfl (Or.inl rfl) (by first | exact .inl rfl | exact .inr rfl | assumption)), Bx.out zga, Bx.out (zji (zagg (K:=K) rfl) (bv 1) (zex hu (bv 2) (bv 0) (fun _ _=>rfl)) (by rfl))⟩))
  case hb3=>(intro cl C s H fp; refine' ⟨Bx.out (zcx (K:=K) (n:=2) rfl rfl (zba (zap (i:=0) zll rfl (Or.inl rfl) (by first | exact .inl rfl | exact .inr rfl | assumption)) (zba (zap (i:=1) zll rfl (Or.inl rfl) (by first | exact .inl rfl | exact .inr rfl | assumption)) zcw (by rfl)) (by rfl)) (by rfl) (by rfl)), Bx.out zga, Bx.out (bv 1)⟩)
 exact fn_d (f:=zsg) ((zar (zbg (zgc zal)) (zar (zfu (znu (zae (zad 4) zal)) (zgd (zbf (zbf zed))) (zar (zbg (zbd zfp (zcg (zad 6)) (se_c fun _=>zag))) (zar (zbg (zgc zal)) (zar (zfu (zda (zad 3)) zcr (zar (zbg (zad 1)) (zar (zgo (st_t (zbd zanm (zbd zel (zcg (zad 6)) (se_c fun _=>zag)) (se_c fun _=>zag))) (zbg (zef (zda (zad 1)) zcr (zhc (by decide)) (zhz (zfq zud (zae (zef (zda (zbb (zae (zad 2) zal))) zcr (zhc (by decide)) ziu (zbd zvf (zad 1) (zfh (zad 0)))) zal))) (zad 0))) zem) (zar (zkk (zcg (zbd zel (zad 8) (zfq zjf (zae (zad 11) zal))))) (zbg (zbd zfp (zad 8) (zfq zjf (zae (zad 11) zal)))))))) (zgo (st_t (zbd zami (zfq znm (zae (zad 9) zal)) (zef (zda (zad 5)) (zgd (zbf (zbf zed))) (zrp (zew (by decide) (zew (by decide) zms))) ziu (zad 1)))) (zkk (zia (zae (zad 7) (zae (zfq znm (zae (zad 9) zal)) zal)))) zem))))) zmr))) h
theorem zabh {f : Addr} {fd : FuncData} (F : Fun K "_law_fits" "_law_fits" ziq f fd) (T : Txt mg) (D_law_parts : znc P w K mg base) : FnOk P w K mg base CX0 2 f fd ["_law_up_here", "_law_kinds", "_law_call_here"] (spD 3 zgf):=by
 refine F.ok zabb (fun vs H Q E h=>zcf h) (fun cdv A outer s H vs Q E hr h=>?_)
 have hu:=zfe hr
 apply Exists.intro
 apply And.intro
 ·refine' Bx.out (zah (zdy PassesOwn.never rfl (zld (K:=K) rfl rfl T.enumerate (zaa (bv 1) zai (by rfl)) (by rfl)) (zcx (K:=K) (n:=2) rfl rfl (zba (zap (i:=3) zmx rfl (Or.inl rfl) (.inl rfl)) (zba (zap (i:=4) zmx rfl (Or.inr rfl) (.inl rfl)) zcw (by rfl)) (by rfl)) (by rfl) (by rfl))
  (zak (zdo (zkh (zcp (K:=K) rfl (zby (zni (K:=K) rfl rfl) (by rfl) T.any zqv (zaa (zdc (zck (N':=["_law_name", "_law_up_here", "_law_kind"]) (own:=["_law_name"]) (fr:=[0, 4]) (by kernel_rfl)) rfl (zbo (K:=K) rfl (zbk D_law_parts (hr.mono (by decide)) (by rfl) (zaa (zcd (zdi (K:=K) rfl) (bv 2) (bv 3) (fun _ _=>rfl)) zai (by rfl)) (by decide) (zaf (by rfl)) (by rfl))) ?hb1 (by intro _; rfl)) zai (by rfl)) (by decide) (by decide) (zaf (by rfl)) (by rfl)) (fun _=>rfl))) (zak (zbj ziv)) zch)) (by intro _; rfl))
 (zak (zbj ziv)))
  case hb1=>(intro cl C s H fp; refine' ⟨Bx.out (zap (i:=0) ztq rfl (Or.inl rfl) (by first | exact .inl rfl | exact .inr rfl | assumption)), Bx.out zga, Bx.out (zji (zagg (K:=K) rfl) (bv 2) (zex hu (bv 1) (bv 0) (fun _ _=>rfl)) (by rfl))⟩)
 exact fn_d (f:=zuj) ((zar (zfu (zacw (zae (zad 1) zal)) (zgd (zbf (zbf zed))) (zgo (znk (zhz (zfq zud (zae (zef (zda (zbb (zae (zcg (zad 3)) zal))) zcr (zhc (by decide)) ziu (zbd zvf (zad 2) (zfh (zad 0)))) zal)))) (zcm (se_c fun _=>zbl)) zem)) (zcm (se_c fun _=>zbl)))) h
theorem zwi {f : Addr} {fd : FuncData} (F : Fun K "_law_nearer" "_law_nearer" zgl f fd) (T : Txt mg) (D_law_fits : zpg P w K mg base) : FnOk P w K mg base CX0 3 f fd ["_law_up_here", "_law_one", "_law_other"] (spD 3 zbz):=by
 refine F.ok zwc (fun vs H Q E h=>zcf h) (fun cdv A outer s H vs Q E hr h=>?_)
 have hu:=zfe hr
 apply Exists.intro
 apply And.intro
 ·refine' Bx.out (zak (zbj (zaau (zji (zmi (K:=K) rfl hr.units) (bv 1) (bv 2) (zea _)) (zaas (zbk D_law_fits (hr.mono (by decide)) (by rfl) (zaa (bv 0) (zaa (bv 2) (zaa (bv 1) zai (by rfl)) (by rfl)) (by rfl)) (by decide) (zaf (by rfl)) (by rfl))))))
 exact fn_d (f:=zpu) ((zcm (zagn (zbd zte (zad 1) (zad 2)) (zbb (zae (zad 0) (zae (zad 2) (zae (zad 1) zal))))))) h
theorem zts {f : Addr} {fd : FuncData} (F : Fun K "_law_without" "_law_without" zfj f fd) (T : Txt mg)  : FnOk P w K mg base CX0 1 f fd ["_law_book", "_law_names_here"] (spD 2 zbx):=by
 refine F.ok ztl (fun vs H Q E h=>zcf h) (fun cdv A outer s H vs Q E hr h=>?_)
 have hu:=zfe hr
 apply Exists.intro
 apply And.intro
 ·refine' Bx.out (zak (zbj (zfr (zaa (zcd (zdi (K:=K) rfl) (bv 0) zam (fun _ _=>rfl)) (zaa (zcd (zdi (K:=K) rfl) (bv 0) zam (fun _ _=>rfl)) (zaa (zdc (zck (N':=["_law_rule", "_law_names_here"]) (own:=["_law_rule"]) (fr:=[1]) (by kernel_rfl)) rfl (zbo (K:=K) rfl (zcd (zdi (K:=K) rfl) (bv 0) zam (fun _ _=>rfl))) ?hb1 (by intro _; rfl)) zai (by rfl)) (by rfl)) (by rfl)))))
  case hb1=>(intro cl C s H fp; refine' ⟨Bx.out (zap (i:=0) zpc rfl (Or.inl rfl) (by first | exact .inl rfl | exact .inr rfl | assumption)), Bx.out (zmw (zbu (zjq (K:=K) rfl) (zcd (zdi (K:=K) rfl) (bv 0) zam (fun _ _=>rfl)) (bv 1) (by rfl))), Bx.out (bv 0)⟩)
 exact fn_d (f:=zny) ((zcm (zia (zae (zcg (se_c fun _=>zag)) (zae (zcg (se_c fun _=>zag)) (zae (zef (zda (zcg (se_c fun _=>zag))) zcr (zhc (by decide)) (st_t (zbd zvf (zcg (se_c fun _=>zag)) (zad 1))) (zad 0)) zal)))))) h
theorem ztt {f : Addr} {fd : FuncData} (F : Fun K "_law_chained" "_law_chained" zfk f fd) (T : Txt mg) (D_law_nearer : zlo P w K mg base) (D_law_without : zki P w K mg base) (D_answer_of : znb P w K mg base) (D_chain : zabc P w K mg base) (D_onward : zqx P w K mg base) : FnOk P w K mg base CX0 8 f fd ["_law_book", "_law_up_here", "_law_call_here"] (spD 3 zgy):=by
 refine F.ok ztm (fun vs H Q E h=>zcf h) (fun cdv A outer s H vs Q E hr h=>?_)
 have hu:=zfe hr
 apply Exists.intro
 apply And.intro
 ·refine' Bx.out (zah (zax (i:=3) zcc rfl (Or.inl rfl) zlc (by rfl) (.inl rfl))
 (zah (zdy PassesOwn.never rfl (zbo (K:=K) rfl (zcd (zdi (K:=K) rfl) (bv 0) zam (fun _ _=>rfl))) (zcx (K:=K) (n:=2) rfl rfl (zba (zap (i:=4) zcc rfl (Or.inl rfl) (.inl rfl)) (zba (zap (i:=5) zcc rfl (Or.inl rfl) (.inl rfl)) zcw (by rfl)) (by rfl)) (by rfl) (by rfl))
  (zak (zqu hu (bv 3) (bv 4) (bv 5) rfl)) (by intro _; rfl))
 (zah (zvs (zbk D_chain (hr.mono (by decide)) (by rfl) (zaa (bv 0) (zaa (bv 2) zai (by rfl)) (by rfl)) (by decide) (zaf (by rfl)) (by rfl)) (zcx (K:=K) (n:=2) rfl rfl (zba (zap (i:=6) zcc rfl (Or.inl rfl) (.inl rfl)) (zba (zap (i:=7) zcc rfl (Or.inl rfl) (.inl rfl)) zcw (by rfl)) (by rfl)) (by rfl) (by rfl)) (by rfl) (by rfl) (by rfl))
 (zah (zax (i:=8) zcc rfl (Or.inl rfl) (bv 0) (by rfl) (.inl rfl))
 (zah (zax (i:=9) zcc rfl (Or.inl rfl) (zbk D_answer_of (hr.mono (by decide)) (by rfl) (zaa (bv 0) (zaa (bv 2) zai (by rfl)) (by rfl)) (by decide) (zaf (by rfl)) (by rfl)) (by rfl) (.inl rfl))
 (zah (zdy PassesOwn.never rfl (zld (K:=K) rfl rfl T.enumerate (zaa (bv 6) zai (by rfl)) (by rfl)) (zcx (K:=K) (n:=2) rfl rfl (zba (zap (i:=10) zcc rfl (Or.inl rfl) (.inl rfl)) (zba (zap (i:=4) zcc rfl (Or.inl rfl) (.inl rfl)) zcw (by rfl)) (by rfl)) (by rfl) (by rfl))
  (zah (zdo (zahw (zbu (zmi (K:=K) rfl hr.units) (bv 9) (zfr (zaa zfa (zaa (bv 4) zai (by rfl)) (by rfl))) (zea _)) (zaat (zbu (zagg (K:=K) rfl) (bv 4) (zdb (zkt (K:=K) rfl) (bv 6) zfw (zcv (bv 10))) (by rfl)))).pt (zak (zbj ziv)) zch)
 (zah (zdo (zvr (zbu zamu (bv 10) zam (zea _)) (zqt (zkh (zcp (K:=K) rfl (zbk D_law_nearer (hr.mono (by decide)) (by rfl) (zaa (bv 1) (zaa (zex hu (bv 3) (zcd (zdi (K:=K) rfl) (bv 6) (zbe zpk (bv 10) zam) (fun _ _=>rfl)) (fun _ _=>rfl)) (zaa (zex hu (bv 3) (bv 4) (fun _ _=>rfl)) zai (by rfl)) (by rfl)) (by rfl)) (by decide) (zaf (by rfl)) (by rfl)) (fun _=>rfl))))).pt (zak (zbj ziv)) zch)
 (zah (zax (i:=8) zcc rfl (Or.inl rfl) (zbk D_law_without (hr.mono (by decide)) (by rfl) (zaa (bv 8) (zaa (zeg (zaa (bv 4) zai (by rfl))) zai (by rfl)) (by rfl)) (by decide) (zaf (by rfl)) (by rfl)) (by rfl) (.inl rfl))
 (zah (zax (i:=9) zcc rfl (Or.inl rfl) (zbk D_answer_of (hr.mono (by decide)) (by rfl) (zaa (bv 8) (zaa (bv 2) zai (by rfl)) (by rfl)) (by decide) (zaf (by rfl)) (by rfl)) (by rfl) (.inl rfl))
 (zak (zdo (zbu (zmi (K:=K) rfl hr.units) (zbk D_onward (hr.mono (by decide)) (by rfl) (zaa (bv 0) (zaa (bv 2) (zaa (bv 4) zai (by rfl)) (by rfl)) (by rfl)) (by decide) (zaf (by rfl)) (by rfl)) (bv 9) (zea _)) (zak (zbj ziv)) zch)))))) (by intro _; rfl))
 (zak (zbj (zaau (zji (zjg (K:=K) rfl hr.units) (bv 9) (bv 7) (zea _)) (zaas (zji (zmi (K:=K) rfl hr.units) (zcd (zdi (K:=K) rfl) (bv 7) zam (fun _ _=>rfl)) zfa (zea _))))))))))))
 exact fn_d (f:=znz) ((zar (zbg zrl) (zar (zfu (zda (zcg (se_c fun _=>zag))) (zgd (zbf (zbf zed))) (zacj (zad 4) (zad 5))) (zar (zaci (zbb (zae (zad 0) (zae (zad 2) zal))) (zgd (zbf (zbf zed)))) (zar (zbg (zad 0)) (zar (zbg (zbb (zae (zad 0) (zae (zad 2) zal)))) (zar (zfu (znu (zae (zad 6) zal)) (zgd (zbf (zbf zed))) (zar (zgo (zant (st_t (zbd zte (zad 9) (zia (zae (se_c fun _=>zcl) (zae (zad 4) zal))))) (st_t (zbd zvf (zad 4) (zmf (zad 6) zhx (zec (zad 10)))))) (zcm (se_c fun _=>zbl)) zem) (zar (zgo (zach (st_t (zbd zanm (zad 10) (se_c fun _=>zag))) (znk (zhz (zbb (zae (zad 1) (zae (zfh (zcg (zbd zpm (zad 10) (se_c fun _=>zag)))) (zae (zfh (zad 4)) zal))))))) (zcm (se_c fun _=>zbl)) zem) (zar (zbg (zbb (zae (zad 8) (zae (zgc (zae (zad 4) zal)) zal)))) (zar (zbg (zbb (zae (zad 8) (zae (zad 2) zal)))) (zgo (st_t (zbd zte (zbb (zae (zad 0) (zae (zad 2) (zae (zad 4) zal)))) (zad 9))) (zcm (se_c fun _=>zbl)) zem)))))) (zcm (zagn (zbd znj (zad 9) (zad 7)) (zbd zte (zcg (se_c fun _=>zag)) (se_c fun _=>zcl))))))))))) h
theorem ztu {f : Addr} {fd : FuncData} (F : Fun K "_law_layered" "_law_layered" zfl f fd) (T : Txt mg) (D_law_without : zki P w K mg base) (D_chain : zabc P w K mg base) (D_layers : zade P w K mg base) : FnOk P w K mg base CX0 8 f fd ["_law_book", "_law_call_here"] (spD 2 zgz):=by
 refine F.ok ztn (fun vs H Q E h=>zcf h) (fun cdv A outer s H vs Q E hr h=>?_)
 have hu:=zfe hr
 apply Exists.intro
 apply And.intro
 ·refine' Bx.out (zah (zvs (zbk D_chain (hr.mono (by decide)) (by rfl) (zaa (bv 0) (zaa (bv 1) zai (by rfl)) (by rfl)) (by decide) (zaf (by rfl)) (by rfl)) (zcx (K:=K) (n:=2) rfl rfl (zba (zap (i:=2) zdg rfl (Or.inl rfl) (.inl rfl)) (zba (zap (i:=3) zdg rfl (Or.inl rfl) (.inl rfl)) zcw (by rfl)) (by rfl)) (by rfl) (by rfl)) (by rfl) (by rfl) (by rfl))
 (zah (zax (i:=4) zdg rfl (Or.inl rfl) (zbk D_layers (hr.mono (by decide)) (by rfl) (zaa (bv 0) (zaa (bv 1) zai (by rfl)) (by rfl)) (by decide) (zaf (by rfl)) (by rfl)) (by rfl) (.inl rfl))
 (zah (zdo (zbu (zmi (K:=K) rfl hr.units) (zdb (zkt (K:=K) rfl) (bv 4) zfw (zcv (zby (zdj (K:=K) rfl) (by rfl) T.len zep (zaa (bv 2) zai (by rfl)) (by decide) (by decide) (zaf (by rfl)) (by rfl)))) (zdc (zck (N':=["_law_name"]) (own:=["_law_name"]) (fr:=[]) (by kernel_rfl)) rfl (zbo (K:=K) rfl (bv 2)) ?hb1 (by intro _; rfl)) (zea _)) (zak (zbj ziv)) zch)
 (zah (zdo (zvr (zbu (zjg (K:=K) rfl hr.units) (bv 3) (zfr (zaa zfa zai (by rfl))) (zea _)) (zqt (zbu (zmi (K:=K) rfl hr.units) (zby (zdj (K:=K) rfl) (by rfl) T.len zep (zaa (bv 4) zai (by rfl)) (by decide) (by decide) (zaf (by rfl)) (by rfl)) (zby (zdj (K:=K) rfl) (by rfl) T.len zep (zaa (bv 2) zai (by rfl)) (by decide) (by decide) (zaf (by rfl)) (by rfl)) (zea _)))).pt (zak (zbj ziv)) zch)
 (zah (zdo (zvr (zbu (zjg (K:=K) rfl hr.units) (zcd (zdi (K:=K) rfl) (bv 3) zam (fun _ _=>rfl)) zfa (zea _)) (zqt (zbu (zmi (K:=K) rfl hr.units) (zdb (zkt (K:=K) rfl) (bv 4) (zcv (zby (zdj (K:=K) rfl) (by rfl) T.len zep (zaa (bv 2) zai (by rfl)) (by decide) (by decide) (zaf (by rfl)) (by rfl))) (zcv (zbe (zcs (K:=K) rfl) (zby (zdj (K:=K) rfl) (by rfl) T.len zep (zaa (bv 2) zai (by rfl)) (by decide) (by decide) (zaf (by rfl)) (by rfl)) zam))) (zeg (zaa (zdq (zij (K:=K) rfl) (by rfl) T.list zju (zaa (zcd (zdi (K:=K) rfl) (bv 3) zam (fun _ _=>rfl)) zai (by rfl)) (by decide) (by decide) (zaf (by rfl)) (by rfl)) zai (by rfl))) (zea _)))).pt (zak (zbj ziv)) zch)
 (zah (zax (i:=5) zdg rfl (Or.inl rfl) (zeg zai) (by rfl) (.inl rfl))
 (zah (zdy PassesOwn.never rfl (zld (K:=K) rfl rfl T.enumerate (zaa (bv 4) zai (by rfl)) (by rfl)) (zcx (K:=K) (n:=2) rfl rfl (zba (zap (i:=6) zdg rfl (Or.inl rfl) (.inl rfl)) (zba (zap (i:=7) zdg rfl (Or.inl rfl) (.inl rfl)) zcw (by rfl)) (by rfl)) (by rfl) (by rfl))
  (zah (zdo (zbu (zmi (K:=K) rfl hr.units) (zbk D_layers (hr.mono (by decide)) (by rfl) (zaa (zbk D_law_without (hr.mono (by decide)) (by rfl) (zaa (bv 0) (zaa (bv 5) zai (by rfl)) (by rfl)) (by decide) (zaf (by rfl)) (by rfl)) (zaa (bv 1) zai (by rfl)) (by rfl)) (by decide) (zaf (by rfl)) (by rfl)) (zdb (zkt (K:=K) rfl) (bv 4) (zcv (bv 6)) zfw) (zea _)) (zak (zbj ziv)) zch)
 (zak (zax (i:=5) zdg rfl (Or.inl rfl) (zbe (zcs (K:=K) rfl) (bv 5) (bv 7)) (by rfl) (.inl rfl)))) (by intro _; rfl))
 (zak (zbj (zji (zjg (K:=K) rfl hr.units) (zbk D_layers (hr.mono (by decide)) (by rfl) (zaa (zbk D_law_without (hr.mono (by decide)) (by rfl) (zaa (bv 0) (zaa (bv 5) zai (by rfl)) (by rfl)) (by decide) (zaf (by rfl)) (by rfl)) (zaa (bv 1) zai (by rfl)) (by rfl)) (by decide) (zaf (by rfl)) (by rfl)) (zeg zai) (zea _)))))))))))
  case hb1=>(intro cl C s H fp; refine' ⟨Bx.out (zap (i:=0) zpd rfl (Or.inl rfl) (by first | exact .inl rfl | exact .inr rfl | assumption)), Bx.out zga, Bx.out (zeg (zaa (bv 0) zai (by rfl)))⟩)
 exact fn_d (f:=zoa) ((zar (zaci (zbb (zae (zad 0) (zae (zad 1) zal))) (zgd (zbf (zbf zed)))) (zar (zbg (zbb (zae (zad 0) (zae (zad 1) zal)))) (zar (zgo (st_t (zbd zte (zmf (zad 4) zhx (zec (zfq zjf (zae (zad 2) zal)))) (zef (zda (zad 2)) zcr (zhc (by decide)) ziu (zgc (zae (zad 0) zal))))) (zcm (se_c fun _=>zbl)) zem) (zar (zgo (zach (st_t (zbd znj (zad 3) (zia (zae (se_c fun _=>zcl) zal)))) (st_t (zbd zte (zfq zjf (zae (zad 4) zal)) (zfq zjf (zae (zad 2) zal))))) (zcm (se_c fun _=>zbl)) zem) (zar (zgo (zach (st_t (zbd znj (zcg (se_c fun _=>zag)) (se_c fun _=>zcl))) (st_t (zbd zte (zmf (zad 4) (zec (zfq zjf (zae (zad 2) zal))) (zec (zbd zhu (zfq zjf (zae (zad 2) zal)) (se_c fun _=>zag)))) (zgc (zae (zfq zot (zae (zcg (se_c fun _=>zag)) zal)) zal))))) (zcm (se_c fun _=>zbl)) zem) (zar (zbg (zgc zal)) (zar (zfu (znu (zae (zad 4) zal)) (zgd (zbf (zbf zed))) (zar (zgo (st_t (zbd zte (zbb (zae (zbb (zae (zad 0) (zae (zad 5) zal))) (zae (zad 1) zal))) (zmf (zad 4) (zec (zad 6)) zhx))) (zcm (se_c fun _=>zbl)) zem) (zbg (zbd zhu (zad 5) (zad 7))))) (zcm (zbd znj (zbb (zae (zbb (zae (zad 0) (zae (zad 5) zal))) (zae (zad 1) zal))) (zgc zal))))))))))) h
theorem ztv {f : Addr} {fd : FuncData} (F : Fun K "_law_farther" "_law_farther" zfm f fd) (T : Txt mg) (D_law_fits : zpg P w K mg base) (D_law_nearer : zlo P w K mg base) (D_fitting : zzg P w K mg base) (D_onward : zqx P w K mg base) : FnOk P w K mg base CX0 6 f fd ["_law_book", "_law_up_here", "_law_call_here"] (spD 3 zha):=by
 refine F.ok zto (fun vs H Q E h=>zcf h) (fun cdv A outer s H vs Q E hr h=>?_)
 have hu:=zfe hr
 apply Exists.intro
 apply And.intro
 ·refine' Bx.out (zah (zax (i:=3) zco rfl (Or.inr rfl) zlc (by rfl) (.inl rfl))
 (zah (zdy PassesOwn.never rfl (zbo (K:=K) rfl (zcd (zdi (K:=K) rfl) (bv 0) zam (fun _ _=>rfl))) (zcx (K:=K) (n:=2) rfl rfl (zba (zap (i:=5) zco rfl (Or.inl rfl) (.inl rfl)) (zba (zap (i:=4) zco rfl (Or.inl rfl) (.inl rfl)) zcw (by rfl)) (by rfl)) (by rfl) (by rfl))
  (zak (zqu hu (bv 3) (bv 5) (bv 4) rfl)) (by intro _; rfl))
 (zah (zdy PassesOwn.never rfl (zbo (K:=K) rfl (zbk D_fitting (hr.mono (by decide)) (by rfl) (zaa (bv 0) (zaa (bv 2) zai (by rfl)) (by rfl)) (by decide) (zaf (by rfl)) (by rfl))) (zap (i:=5) zco rfl (Or.inl rfl) (.inl rfl))
  (zah (zax (i:=6) zco rfl (Or.inl rfl) (zbk D_onward (hr.mono (by decide)) (by rfl) (zaa (bv 0) (zaa (bv 2) (zaa (bv 5) zai (by rfl)) (by rfl)) (by rfl)) (by decide) (zaf (by rfl)) (by rfl)) (by rfl) (.inl rfl))
 (zah (zax (i:=7) zco rfl (Or.inl rfl) (zeg zai) (by rfl) (.inl rfl))
 (zah (zdo (zbu (zjg (K:=K) rfl hr.units) (zcd (zdi (K:=K) rfl) (bv 6) zam (fun _ _=>rfl)) zfa (zea _)) (zak (zax (i:=7) zco rfl (Or.inl rfl) (zeg (zaa (zcd (zdi (K:=K) rfl) (bv 6) zam (fun _ _=>rfl)) zai (by rfl))) (by rfl) (.inl rfl))) zch)
 (zah (zdo (zbu (zjg (K:=K) rfl hr.units) (zcd (zdi (K:=K) rfl) (bv 6) zam (fun _ _=>rfl)) zfa (zea _)) (zak (zax (i:=7) zco rfl (Or.inl rfl) (zdq (zij (K:=K) rfl) (by rfl) T.list zju (zaa (zcd (zdi (K:=K) rfl) (bv 6) zam (fun _ _=>rfl)) zai (by rfl)) (by decide) (by decide) (zaf (by rfl)) (by rfl)) (by rfl) (.inl rfl))) zch)
 (zak (zdy PassesOwn.never rfl (zbo (K:=K) rfl (bv 7)) (zap (i:=8) zco rfl (Or.inr rfl) (.inl rfl))
  (zah (zdo (zahw (zkh (zcp (K:=K) rfl (zbk D_law_nearer (hr.mono (by decide)) (by rfl) (zaa (bv 1) (zaa (zex hu (bv 3) (bv 5) (fun _ _=>rfl)) (zaa (zex hu (bv 3) (bv 8) (fun _ _=>rfl)) zai (by rfl)) (by rfl)) (by rfl)) (by decide) (zaf (by rfl)) (by rfl)) (fun _=>rfl))) (zaat (zkh (zcp (K:=K) rfl (zbk D_law_fits (hr.mono (by decide)) (by rfl) (zaa (bv 1) (zaa (zex hu (bv 3) (bv 8) (fun _ _=>rfl)) (zaa (bv 2) zai (by rfl)) (by rfl)) (by rfl)) (by decide) (zaf (by rfl)) (by rfl)) (fun _=>rfl))))).pt (zak (zbj ziv)) zch)
 (zak (zdo (zcp (K:=K) rfl (zby (zni (K:=K) rfl rfl) (by rfl) T.any zqv (zaa (zdc (zck (N':=["_law_other", "_law_up_here", "_law_by", "_law_one"]) (own:=["_law_other"]) (fr:=[1, 3, 8]) (by kernel_rfl)) rfl (zbo (K:=K) rfl (bv 7)) ?hb1 (by intro _; rfl)) zai (by rfl)) (by decide) (by decide) (zaf (by rfl)) (by rfl)) (fun _=>rfl)) (zak (zbj ziv)) zch))) (by intro _; rfl))))))) (by intro _; rfl))
 (zak (zbj ziv)))))
  case hb1=>(intro cl C s H fp; refine' ⟨Bx.out (zap (i:=0) zpe rfl (Or.inl rfl) (by first | exact .inl rfl | exact .inr rfl | assumption)), Bx.out zga, Bx.out (zbk D_law_nearer (hr.mono (by decide)) (by rfl) (zaa (bv 1) (zaa (zex hu (bv 2) (bv 0) (fun _ _=>rfl)) (zaa (zex hu (bv 2) (bv 3) (fun _ _=>rfl)) zai (by rfl)) (by rfl)) (by rfl)) (by decide) (zaf (by rfl)) (by rfl))⟩)
 exact fn_d (f:=zob) ((zar (zbg zrl) (zar (zfu (zda (zcg (se_c fun _=>zag))) (zgd (zbf (zbf zed))) (zacj (zad 5) (zad 4))) (zar (zfu (zda (zbb (zae (zad 0) (zae (zad 2) zal)))) zcr (zar (zbg (zbb (zae (zad 0) (zae (zad 2) (zae (zad 5) zal))))) (zar (zbg (zgc zal)) (zar (zgo (st_t (zbd znj (zcg (se_c fun _=>zag)) (se_c fun _=>zcl))) (zbg (zgc (zae (zcg (se_c fun _=>zag)) zal))) zem) (zar (zgo (st_t (zbd znj (zcg (se_c fun _=>zag)) (se_c fun _=>zcl))) (zbg (zfq zot (zae (zcg (se_c fun _=>zag)) zal))) zem) (zfu (zda (zad 7)) zcr (zar (zgo (zant (znk (zhz (zbb (zae (zad 1) (zae (zfh (zad 5)) (zae (zfh (zad 8)) zal)))))) (znk (zhz (zbb (zae (zad 1) (zae (zfh (zad 8)) (zae (zad 2) zal))))))) (zcm (se_c fun _=>zbl)) zem) (zgo (zhz (zfq zud (zae (zef (zda (zad 7)) zcr (zhc (by decide)) ziu (zbb (zae (zad 1) (zae (zfh (zad 0)) (zae (zfh (zad 3)) zal))))) zal))) (zcm (se_c fun _=>zbl)) zem)))))))) (zcm (se_c fun _=>zbl)))))) h
end
end Bc
namespace Bc
open PySem L2
inductive Arm where
 | one (n : Str)
 | many (ns : List Str)
noncomputable def Arm.parts : Arm → List Str
 | .one n=>[n]
 | .many ns=>ns
noncomputable def armD : Arm → PyData
 | .one n=>.str n
 | .many ns=>.tuple (ns.map .str)
noncomputable def zan (c : List Arm) : PyData:=.tuple (c.map armD)
noncomputable def zaj (ks : List Str) : PyData:=.tuple (ks.map .str)
noncomputable def zbt (r : Str × List Str) : PyData:=.tuple [.str r.1, zaj r.2]
noncomputable def zau (rs : List (Str × List Str)) : PyData:=.list (rs.map zbt)
noncomputable def zas (W : Web) (p : Nat) (rs : List (Str × List Str)) : PyData:=.tuple [webD W, .int p, zau rs]
theorem zhs (a : Arm) : zci [armD a] = some (zac a.parts, true):=by
 cases a with
 | one n=>rfl
 | many ns=>rfl
theorem zsv {c : List Arm} (hc : c.length < 300) (ha : ∀ a ∈ c, a.parts.length < 300) : zgx [zan c] = some (zac (c.flatMap Arm.parts), true):=by
 have k : zla (gN 0) zdh (zaw (zav 1 zci (zab (eVar 0) aNil))) (gN 1) zdh (eVar 1) [.no, .no] (c.map armD) = some (c.flatMap fun a=>a.parts.map .str):=by
  refine zsb fun a hm=>⟨[.pl (armD a), .no], rfl, rfl, ?_⟩
  have e : zaw (zav 1 zci (zab (eVar 0) aNil)) [.pl (armD a), .no] = some (a.parts.map .str, []):=by
   unfold zaw
   rw [zbc (n:=1) (rs:=[⟨armD a, false, []⟩]) rfl rfl (zhs a)]
   rfl
  unfold innL
  rw [e]
  show (if (a.parts.map PyData.str).length < 300 then zee (gN 1) zdh (eVar 1) [.pl (armD a), .no] (a.parts.map .str) else none) = _
  rw [if_pos (by rw [List.length_map]; exact ha a hm)]
  exact zdu fun x _=>⟨[.pl (armD a), .pl (.str x)], rfl, rfl, vs x, rfl, rfl⟩
 have fl : (c.flatMap fun a=>a.parts.map PyData.str) = (c.flatMap Arm.parts).map .str:=by
  rw [List.map_flatMap]
 rw [fl] at k
 exact zgp (env:=[.pl (zan c)]) rfl (zgw (zaku (own:=["arm", "name"]) (fr:=[]) (fi:=zaw (eVar 0)) (ds:=c.map armD) (bs:=[]) rfl (by rw [List.length_map]; exact hc) k))
theorem zzp {W : Web} (h : WebOk W) {c : List Arm} (hc : c.length < 300) (ha : ∀ a ∈ c, a.parts.length < 300) (hk : ∀ a ∈ c, ∀ n ∈ a.parts, n ∈ nm W) : zjj [webD W, .int c.length, zan c] = some (.none, false):=by
 have hW : W.length ≤ 12:=h.len
 have e2 : eCB lenD (zab (eVar 2) aNil) [.pl (webD W), .pl (.int c.length), .pl (zan c)] = some (vi (c.map armD).length):=rfl
 have t : zbh (eOp neD (eCB lenD (zab (eVar 2) aNil)) (eVar 1)) [.pl (webD W), .pl (.int c.length), .pl (zan c)] = some false:=by
  refine zez ?_
  unfold eOp
  rw [e2]
  show ((neD (.int ((c.map armD).length : Nat)) (.int (c.length : Nat))).bind fun z=>some (⟨z.1, z.2, bsOf z.1 ([] ++ [])⟩ : Val)) = _
  rw [List.length_map]
  rw [zxu]; rfl
 have cn : zgv [webD W, zac (c.flatMap Arm.parts)] = some (.none, false):=zvj (by omega) fun n hn=>by
  obtain ⟨a, ha', hn'⟩:=List.mem_flatMap.mp hn
  exact hk a ha' n hn'
 exact zaro (env:=[.pl (webD W), .pl (.int c.length), .pl (zan c)]) rfl (zaq (if_f t rfl) (zagz (zbc (n:=2) (rs:=[⟨webD W, false, []⟩, ⟨zac (c.flatMap Arm.parts), true, []⟩]) (zbm rfl (zdv (zbc (n:=1) (rs:=[⟨zan c, false, []⟩]) rfl rfl (zsv hc ha)))) rfl cn)))
noncomputable def upA (W : Web) (a : Arm) : List Str:=a.parts.foldl (fun ks n=>(up W n).foldl insS ks) []
theorem zwj {W : Web} {a : Arm} {x : Str} : x ∈ upA W a ↔ ∃ n ∈ a.parts, x ∈ up W n:=by
 unfold upA
 have : ∀ (l ks : List Str), x ∈ l.foldl (fun ks n=>(up W n).foldl insS ks) ks ↔ x ∈ ks ∨ ∃ n ∈ l, x ∈ up W n:=by
  intro l
  induction l with
  | nil=>intro ks; simp
  | cons n l ih=>intro ks; rw [List.foldl_cons, ih, znq]; simp [or_assoc]
 rw [this]; simp
theorem zaez {W : Web} (h : WebOk W) {a : Arm} (hk : ∀ n ∈ a.parts, n ∈ nm W) : zlb [.dict (dS zbi (ups W)), armD a] = some (zbi (upA W a), true):=by
 have nd : ∀ (l ks : List Str), ks.Nodup → (∀ x ∈ ks, x ∈ nm W) → (l.foldl (fun ks n=>(up W n).foldl insS ks) ks).Nodup ∧ ∀ x ∈ l.foldl (fun ks n=>(up W n).foldl insS ks) ks, x ∈ nm W:=by
  intro l
  induction l with
  | nil=>intro ks h1 h2; exact ⟨h1, h2⟩
  | cons n l ih =>
   intro ks h1 h2
   refine ih _ (zvk h1) fun x hx=>?_
   rcases znq.mp hx with z | z
   ·exact h2 x z
   ·exact zacq h z
 obtain ⟨env', lp, s3, rfl⟩:=zfv (enc:=PyData.str) (g:=gN 3) (body:=sUpd 2 (zbq 0 (eVar 3))) (l:=a.parts) (env:=[.pl (.dict (dS zbi (ups W))), .pl (armD a), .ac (zbi []), .no])
  (fun pre env=>∃ s3, env = [.pl (.dict (dS zbi (ups W))), .pl (armD a), .ac (zbi (pre.foldl (fun ks n=>(up W n).foldl insS ks) [])), s3]) ⟨_, rfl⟩ (by
   rintro pre n post env hp ⟨s3, rfl⟩
   have hn : n ∈ nm W:=hk n (by rw [← hp]; simp)
   refine ⟨[.pl (.dict (dS zbi (ups W))), .pl (armD a), .ac (zbi (pre.foldl (fun ks n=>(up W n).foldl insS ks) [])), .pl (.str n)], [.pl (.dict (dS zbi (ups W))), .pl (armD a), .ac (zbi ((pre ++ [n]).foldl (fun ks n=>(up W n).foldl insS ks) [])), .pl (.str n)], rfl, .inl ?_, _, rfl⟩
   ·have l1:=zaha h n
    obtain ⟨n1, n2⟩:=nd pre [] List.nodup_nil (by simp)
    have l2:=zks _ _ n1 n2
    have l3:=zre h
    have lz : (zjc (pre.foldl (fun ks n=>(up W n).foldl insS ks) [])).length + (zjc (up W n)).length ≤ 100000:=by unfold zjc; rw [List.length_map, List.length_map]; omega
    simp only [sUpd, zbi, zbq, eVar, List.getElem?_cons_succ, List.getElem?_cons_zero, Option.bind_some, keyD, zkf, zlx hn, Option.map_some]
    rw [if_pos ⟨lz, by simp⟩, zmv, List.foldl_append]
    simp [frzs])
 exact zgp (env:=[.pl (.dict (dS zbi (ups W))), .pl (armD a), .no, .no]) rfl (zaq rfl (zaq (for_list (zbc (n:=1) (rs:=[⟨armD a, false, []⟩]) rfl rfl (zhs a)) lp) rfl))
theorem zsw {W : Web} (h : WebOk W) {c : List Arm} (hc : c.length < 300) (hk : ∀ a ∈ c, ∀ n ∈ a.parts, n ∈ nm W) : zfb [.dict (dS zbi (ups W)), zan c] = some (.list (c.map fun a=>zbi (upA W a)), true):=by
 have k : zee (gN 0) zdh (zav 2 zlb (zab (eVar 1) (zab (eVar 0) aNil))) [.no, .pl (.dict (dS zbi (ups W)))] (c.map armD) = some (c.map fun a=>zbi (upA W a)) :=
  zdu fun a hm=>⟨[.pl (armD a), .pl (.dict (dS zbi (ups W)))], rfl, rfl, _, zbc (n:=2) (rs:=[⟨.dict (dS zbi (ups W)), false, []⟩, ⟨armD a, false, []⟩]) rfl rfl (zaez h (hk a hm)), rfl⟩
 exact zgp (env:=[.pl (.dict (dS zbi (ups W))), .pl (zan c)]) rfl (zgw (zeo (own:=["arm"]) (fr:=[0]) (fi:=zaw (eVar 1)) (ds:=c.map armD) (bs:=[]) rfl (by rw [List.length_map]; omega) k))
theorem zadg {α β : Type} (f : α → PyData) (g : β → PyData) (l : List α) (r : List β) : List.zipWith (fun d e=>PyData.tuple [d, e]) (l.map f) (r.map g) = (l.zip r).map fun z=>PyData.tuple [f z.1, g z.2]:=by
 induction l generalizing r with
 | nil=>rfl
 | cons a l ih=>cases r with
  | nil=>rfl
  | cons b r=>rw [List.map_cons, List.map_cons, List.zipWith_cons_cons, ih, List.zip_cons_cons, List.map_cons]
noncomputable def fitB (W : Web) (ks : List Str) (c : List Arm) : Bool:=(ks.zip c).all fun z=>decide (z.1 ∈ upA W z.2)
theorem zzq {W : Web} {ks : List Str} {c : List Arm} (hc : c.length < 300) : zhw [zaj ks, .list (c.map fun a=>zbi (upA W a))] = some (.bool (fitB W ks c), false):=by
 have it : zaeo (zab (eVar 0) (zab (eVar 1) aNil)) [.pl (zaj ks), .pl (.list (c.map fun a=>zbi (upA W a)))] = some ((ks.zip c).map fun z=>PyData.tuple [.str z.1, zbi (upA W z.2)], []):=by
  show some (List.zipWith (fun d e=>PyData.tuple [d, e]) (ks.map .str) (c.map fun a=>zbi (upA W a)), [] ++ []) = _
  rw [zadg]; rfl
 have k : zee (gT 2 (zay 0 (zay 1 zds))) zdh (eDIn false (eVar 0) (eVar 1)) [.no, .no] ((ks.zip c).map fun z=>PyData.tuple [.str z.1, zbi (upA W z.2)]) = some ((ks.zip c).map fun z=>.bool (decide (z.1 ∈ upA W z.2))) :=
  zdu fun z _=>⟨[.pl (.str z.1), .pl (zbi (upA W z.2))], rfl, rfl, vb (decide (z.1 ∈ upA W z.2)), zamf (neg:=false) (fr:=false) (bs:=[]) rfl rfl, rfl⟩
 have lz : (ks.zip c).length ≤ c.length:=by rw [List.length_zip]; exact Nat.min_le_right _ _
 exact zgp (env:=[.pl (zaj ks), .pl (.list (c.map fun a=>zbi (upA W a)))]) rfl (zgw (bs:=[]) (zaqr (zeo (own:=["kind", "roof"]) (fr:=[]) it (by rw [List.length_map]; omega) k)))
noncomputable def zca (W : Web) (ks ls : List Str) : Bool:=!(ks == ls) && (ks.zip ls).all fun z=>decide (z.2 ∈ up W z.1)
end Bc
namespace Bc
open PySem L2
theorem zqy : ∀ (a b : List Str), PyData.eqvAll (a.map .str) (b.map .str) = (a == b)
 | [], []=>rfl
 | [], _ :: _=>rfl
 | _ :: _, []=>rfl
 | x :: a, y :: b=>by
  show (PyData.eqv (.str x) (.str y) && PyData.eqvAll (a.map .str) (b.map .str)) = _
  rw [zqy a b]
  show ((x == y) && (a == b)) = _
  rfl
noncomputable def LowS (ks : List Str) : Prop:=∀ k ∈ ks, PyData.strOk k = true
theorem zlp {ks : List Str} (h : LowS ks) : SeqAt.shaped (zaj ks) = true:=by
 obtain ⟨h1, h2⟩:=zjh ks h
 unfold SeqAt.shaped zaj
 rw [Bool.and_eq_true]
 refine ⟨h1, decide_eq_true ?_⟩
 show PyData.depthAll (ks.map .str) + 1 ≤ 64
 omega
theorem zadh {ks ls : List Str} (h1 : LowS ks) (h2 : LowS ls) : neD (zaj ks) (zaj ls) = some (.bool (!(ks == ls)), false):=by
 unfold neD eqOk
 rw [zlp h1, zlp h2, Bool.and_self, Bool.or_true, if_pos rfl]
 show some (PyData.bool (!PyData.eqvAll (ks.map .str) (ls.map .str)), false) = _
 rw [zqy]
theorem zsx {W : Web} (h : WebOk W) {ks ls : List Str} (h1 : LowS ks) (h2 : LowS ls) (hk : ∀ k ∈ ks, k ∈ nm W) (hl : ks.length < 300) : zfc [.dict (dS zbi (ups W)), zaj ks, zaj ls] = some (.bool (zca W ks ls), false):=by
 have it : zaeo (zab (eVar 1) (zab (eVar 2) aNil)) [.pl (.dict (dS zbi (ups W))), .pl (zaj ks), .pl (zaj ls)] = some ((ks.zip ls).map fun z=>PyData.tuple [.str z.1, .str z.2], []):=by
  show some (List.zipWith (fun d e=>PyData.tuple [d, e]) (ks.map .str) (ls.map .str), [] ++ []) = _
  rw [zadg]; rfl
 have k : zee (gT 2 (zay 0 (zay 1 zds))) zdh (eDIn false (eVar 1) (zbq 2 (eVar 0))) [.no, .no, .pl (.dict (dS zbi (ups W)))] ((ks.zip ls).map fun z=>PyData.tuple [.str z.1, .str z.2]) = some ((ks.zip ls).map fun z=>.bool (decide (z.2 ∈ up W z.1))) :=
  zdu fun z hz=>⟨[.pl (.str z.1), .pl (.str z.2), .pl (.dict (dS zbi (ups W)))], rfl, rfl, vb (decide (z.2 ∈ up W z.1)), zamf (neg:=false) (fr:=false) (bs:=[]) rfl (znt (d:=zbi (up W z.1)) (.inl rfl) rfl (by rw [zkf, zlx (hk z.1 (List.of_mem_zip hz).1)]; rfl)), rfl⟩
 have lz : (ks.zip ls).length ≤ ks.length:=by rw [List.length_zip]; exact Nat.min_le_left _ _
 have e1 : eOp neD (eVar 1) (eVar 2) [.pl (.dict (dS zbi (ups W))), .pl (zaj ks), .pl (zaj ls)] = some (vb (!(ks == ls))):=by
  show ((neD (zaj ks) (zaj ls)).bind fun z=>some (⟨z.1, z.2, bsOf z.1 ([] ++ [])⟩ : Val)) = _
  rw [zadh h1 h2]; rfl
 have e2:=zaqr (f:=fun z : Str × Str=>decide (z.2 ∈ up W z.1)) (zeo (own:=["low", "high"]) (fr:=[0]) it (by rw [List.length_map]; omega) k)
 refine zgp (env:=[.pl (.dict (dS zbi (ups W))), .pl (zaj ks), .pl (zaj ls)]) rfl (zgw (bs:=[]) ?_)
 unfold eAnd
 rw [e1, Option.bind_some]
 unfold zca
 cases ks == ls with
 | true=>rfl
 | false=>exact e2
structure RulesOk (W : Web) (rs : List (Str × List Str)) : Prop where
 low : ∀ r ∈ rs, LowS r.2
 kinds : ∀ r ∈ rs, ∀ k ∈ r.2, k ∈ nm W
 few : ∀ r ∈ rs, r.2.length < 300
 len : rs.length < 300
theorem RulesOk.filter {W : Web} {rs : List (Str × List Str)} (h : RulesOk W rs) (p : Str × List Str → Bool) : RulesOk W (rs.filter p) :=
 ⟨fun r hr=>h.low r (List.mem_filter.mp hr).1, fun r hr=>h.kinds r (List.mem_filter.mp hr).1, fun r hr=>h.few r (List.mem_filter.mp hr).1, Nat.lt_of_le_of_lt (List.length_filter_le _ _) h.len⟩
structure CallOk (W : Web) (c : List Arm) : Prop where
 len : c.length < 300
 few : ∀ a ∈ c, a.parts.length < 300
 kinds : ∀ a ∈ c, ∀ n ∈ a.parts, n ∈ nm W
noncomputable def fitL (W : Web) (rs : List (Str × List Str)) (c : List Arm) : List (Str × List Str):=rs.filter fun r=>fitB W r.2 c
noncomputable def zaz (W : Web) (rs : List (Str × List Str)) : List (Str × List Str):=rs.filter fun r=>!(rs.any fun q=>zca W q.2 r.2)
theorem zadi {n : Nat} {g : GF} {f : AF} {env : DEnv} {rs : List Val} {b : Bool} (h : f env = some rs) (hn : rs.length = n) (k : g (zmq rs) = some (.bool b, false)) : tTru (zav n g f) env = some b:=by
 unfold tTru; rw [zbc h hn k]; rfl
theorem zalg {α : Type} {f : α → Bool} {l : List α} {a : EF} {env : DEnv} {fr : Bool} {bs : List Nat} (ha : a env = some ⟨.list (l.map fun x=>.bool (f x)), fr, bs⟩) : eCB (anyD fun bs=>bs.any id) (zab a aNil) env = some (vb (l.any f)):=by
 unfold eCB
 rw [zdv ha, Option.bind_some]
 show ((zrm (l.map fun x=>.bool (f x))).map _).bind _ = _
 rw [zsa]
 simp only [Option.map_some, Option.bind_some, List.any_map]
 rfl
theorem zlq {W : Web} (h : WebOk W) {rs : List (Str × List Str)} (hr : RulesOk W rs) : zdx [.dict (dS zbi (ups W)), zau rs] = some (zau (zaz W rs), true):=by
 have hlen:=hr.len
 have k : zee (gN 0) (zig (tTru (eCB (anyD fun bs=>bs.any id) (zab (zdl ["name", "kinds"] [0, 1] (zaw (eVar 2)) (gT 2 (zay 0 (zay 1 zds))) zdh (zav 3 zfc (zab (eVar 3) (zab (eVar 1) (zab (eIxV 2 (eC (.int 1))) aNil))))) aNil)))) (eVar 0) [.no, .pl (.dict (dS zbi (ups W))), .pl (zau rs)] (rs.map zbt) = some ((zaz W rs).map zbt):=by
  refine zdt (enc:=zbt) (out:=zbt) (e:=eVar 0) (fun r=>!(rs.any fun q=>zca W q.2 r.2)) fun r hm=>⟨[.pl (zbt r), .pl (.dict (dS zbi (ups W))), .pl (zau rs)], rfl, ?_, fun _=>⟨⟨zbt r, false, []⟩, rfl, rfl⟩⟩
  have k2 : zee (gT 2 (zay 0 (zay 1 zds))) zdh (zav 3 zfc (zab (eVar 3) (zab (eVar 1) (zab (eIxV 2 (eC (.int 1))) aNil)))) [.no, .no, .pl (zbt r), .pl (.dict (dS zbi (ups W)))] (rs.map zbt) = some (rs.map fun q=>.bool (zca W q.2 r.2)) :=
   zdu fun q hq=>⟨[.pl (.str q.1), .pl (zaj q.2), .pl (zbt r), .pl (.dict (dS zbi (ups W)))], rfl, rfl, _, zbc (n:=3) (rs:=[⟨.dict (dS zbi (ups W)), false, []⟩, ⟨zaj q.2, false, []⟩, ⟨zaj r.2, false, []⟩]) rfl rfl (zsx h (hr.low q hq) (hr.low r hm) (hr.kinds q hq) (hr.few q hq)), rfl⟩
  exact zpp (zalg (f:=fun q : Str × List Str=>zca W q.2 r.2) (zeo (own:=["name", "kinds"]) (fr:=[0, 1]) (fi:=zaw (eVar 2)) (env:=[.pl (zbt r), .pl (.dict (dS zbi (ups W))), .pl (zau rs)]) (ds:=rs.map zbt) (bs:=[]) rfl (by rw [List.length_map]; omega) k2))
 exact zgp (env:=[.pl (.dict (dS zbi (ups W))), .pl (zau rs)]) rfl (zgw (zeo (own:=["rule"]) (fr:=[0, 1]) (fi:=zaw (eVar 1)) (ds:=rs.map zbt) (bs:=[]) rfl (by rw [List.length_map]; omega) k))
theorem zgn {rs : List (Str × List Str)} (hl : rs.length < 300) : zcn [zau rs] = some (zac (rs.map (·.1)), true):=by
 have k : zee (gT 2 (zay 0 (zay 1 zds))) zdh (eVar 0) [.no, .no] (rs.map zbt) = some (rs.map fun r=>.str r.1):=zdu fun r _=>⟨[.pl (.str r.1), .pl (zaj r.2)], rfl, rfl, vs r.1, rfl, rfl⟩
 have e : (rs.map fun r=>PyData.str r.1) = (rs.map (·.1)).map .str:=by rw [List.map_map]; rfl
 rw [e] at k
 exact zgp (env:=[.pl (zau rs)]) rfl (zgw (zeo (own:=["name", "kinds"]) (fr:=[]) (fi:=zaw (eVar 0)) (ds:=rs.map zbt) (bs:=[]) rfl (by rw [List.length_map]; omega) k))
noncomputable def zat : List Str → PyData
 | []=>.tuple [.str "none"]
 | [x]=>.tuple [.str "rule", .str x]
 | xs=>.tuple [.str "quarrel", zaj xs]
theorem zsy : ∀ (xs : List Str), ziw [zac xs] = some (zat xs, false)
 | []=>rfl
 | [x]=>rfl
 | x :: y :: xs=>by
  have t : zbh (eOp eqD (eCB lenD (zab (eVar 0) aNil)) (eC (.int 1))) [.pl (zac (x :: y :: xs))] = some false:=by
   rw [zez (zxz (i:=((x :: y :: xs).map PyData.str).length) (j:=1) (zrv rfl) rfl)]
   congr 1
  exact zgp (env:=[.pl (zac (x :: y :: xs))]) rfl (zaq (if_f rfl rfl) (zaq (if_f t rfl) rfl))
end Bc
namespace Bc
open PySem L2
theorem zfz {W : Web} (h : WebOk W) {rs : List (Str × List Str)} {c : List Arm} (hr : RulesOk W rs) (hc : CallOk W c) : zcb [zas W c.length rs, zan c] = some (zau (fitL W rs c), true):=by
 have hl:=hr.len
 have e5 : sSet 5 (zav 2 zfb (zab (zav 1 zdp (zab (eVar 2) aNil)) (zab (eVar 1) aNil))) [.pl (zas W c.length rs), .pl (zan c), .pl (webD W), .pl (.int c.length), .pl (zau rs), .no] = some (.nx [.pl (zas W c.length rs), .pl (zan c), .pl (webD W), .pl (.int c.length), .pl (zau rs), .ac (.list (c.map fun a=>zbi (upA W a)))]) :=
  zbv (r:=⟨.list (c.map fun a=>zbi (upA W a)), true, []⟩) (zbc (n:=2) (rs:=[⟨.dict (dS zbi (ups W)), true, []⟩, ⟨zan c, false, []⟩]) (zbm (zbc (n:=1) (rs:=[⟨webD W, false, []⟩]) rfl rfl (zlw h)) (zdv rfl)) rfl (zsw h hc.len hc.kinds))
 have k : zee (gN 0) (tTru (zav 2 zhw (zab (eIxV 0 (eC (.int 1))) (zab (eVar 1) aNil)))) (eVar 0) [.no, .pl (.list (c.map fun a=>zbi (upA W a)))] (rs.map zbt) = some ((fitL W rs c).map zbt) :=
  zdt (enc:=zbt) (out:=zbt) (e:=eVar 0) (fun r=>fitB W r.2 c) fun r hm=>⟨[.pl (zbt r), .pl (.list (c.map fun a=>zbi (upA W a)))], rfl, zadi (n:=2) (rs:=[⟨zaj r.2, false, []⟩, ⟨.list (c.map fun a=>zbi (upA W a)), false, []⟩]) rfl rfl (zzq hc.len), fun _=>⟨⟨zbt r, false, []⟩, rfl, rfl⟩⟩
 exact zgp (env:=[.pl (zas W c.length rs), .pl (zan c), .no, .no, .no, .no]) rfl (zaq rfl (zaq (zagz (zbc (n:=3) (rs:=[⟨webD W, false, []⟩, vi c.length, ⟨zan c, false, []⟩]) rfl rfl (zzp h hc.len hc.few hc.kinds))) (zaq e5 (zgw (zeo (own:=["rule"]) (fr:=[5]) (fi:=zaw (eVar 4)) (ds:=rs.map zbt) (bs:=[]) rfl (by rw [List.length_map]; omega) k)))))
theorem zaim {W : Web} (h : WebOk W) {rs : List (Str × List Str)} {c : List Arm} (hr : RulesOk W rs) (hc : CallOk W c) : zlg [zas W c.length rs, zan c] = some (zac ((fitL W rs c).map (·.1)), true) :=
 zgp (env:=[.pl (zas W c.length rs), .pl (zan c)]) rfl (zgw (zbc (n:=1) (rs:=[⟨zau (fitL W rs c), true, []⟩]) (zdv (zbc (n:=2) (rs:=[⟨zas W c.length rs, false, []⟩, ⟨zan c, false, []⟩]) rfl rfl (zfz h hr hc))) rfl (zgn (hr.filter _).len)))
theorem zain {W : Web} (h : WebOk W) {rs : List (Str × List Str)} {c : List Arm} (hr : RulesOk W rs) (hc : CallOk W c) : znx [zas W c.length rs, zan c] = some (zac ((zaz W (fitL W rs c)).map (·.1)), true):=by
 have e2 : sSet 2 (zav 2 zcb (zab (eVar 0) (zab (eVar 1) aNil))) [.pl (zas W c.length rs), .pl (zan c), .no] = some (.nx [.pl (zas W c.length rs), .pl (zan c), .ac (zau (fitL W rs c))]) :=
  zbv (r:=⟨zau (fitL W rs c), true, []⟩) (zbc (n:=2) (rs:=[⟨zas W c.length rs, false, []⟩, ⟨zan c, false, []⟩]) rfl rfl (zfz h hr hc))
 have e3 : zav 1 zdp (zab (eIxV 0 (eC (.int 0))) aNil) [.pl (zas W c.length rs), .pl (zan c), .ac (zau (fitL W rs c))] = some ⟨.dict (dS zbi (ups W)), true, []⟩:=zbc (n:=1) (rs:=[⟨webD W, false, []⟩]) rfl rfl (zlw h)
 have e4 : zav 2 zdx (zab (zav 1 zdp (zab (eIxV 0 (eC (.int 0))) aNil)) (zab (eVar 2) aNil)) [.pl (zas W c.length rs), .pl (zan c), .ac (zau (fitL W rs c))] = some ⟨zau (zaz W (fitL W rs c)), true, [2]⟩:=zbc (n:=2) (rs:=[⟨.dict (dS zbi (ups W)), true, []⟩, ⟨zau (fitL W rs c), false, [2]⟩]) (zbm e3 (zdv rfl)) rfl (zlq h (hr.filter _))
 exact zgp (env:=[.pl (zas W c.length rs), .pl (zan c), .no]) rfl (zaq e2 (zgw (zbc (n:=1) (rs:=[⟨zau (zaz W (fitL W rs c)), true, [2]⟩]) (zdv e4) rfl (zgn ((hr.filter _).filter _).len))))
theorem znd {W : Web} (h : WebOk W) {rs : List (Str × List Str)} {c : List Arm} (hr : RulesOk W rs) (hc : CallOk W c) : zdk [zas W c.length rs, zan c] = some (zat ((zaz W (fitL W rs c)).map (·.1)), false) :=
 zgp (env:=[.pl (zas W c.length rs), .pl (zan c)]) rfl (zgw (zbc (n:=1) (rs:=[⟨zac ((zaz W (fitL W rs c)).map fun r : Str × List Str=>r.1), true, []⟩]) (zdv (zbc (n:=2) (rs:=[⟨zas W c.length rs, false, []⟩, ⟨zan c, false, []⟩]) rfl rfl (zain h hr hc))) rfl (zsy _)))
theorem ztw {W : Web} (h : WebOk W) {rs : List (Str × List Str)} (hr : RulesOk W rs) : zhr [.dict (dS zbi (ups W)), zau rs] = some (zat ((zaz W rs).map (·.1)), false) :=
 zgp (env:=[.pl (.dict (dS zbi (ups W))), .pl (zau rs)]) rfl (zgw (zbc (n:=1) (rs:=[⟨zac ((zaz W rs).map fun r : Str × List Str=>r.1), true, []⟩]) (zdv (zbc (n:=1) (rs:=[⟨zau (zaz W rs), true, []⟩]) (zdv (zbc (n:=2) (rs:=[⟨.dict (dS zbi (ups W)), false, []⟩, ⟨zau rs, false, []⟩]) rfl rfl (zlq h hr))) rfl (zgn (rs:=zaz W rs) (hr.filter _).len))) rfl (zsy _)))
end Bc
namespace Bc
open PySem L2
noncomputable def Two (x : Str) : Prop:=∃ a b, ∀ c ∈ x.cps.toList, c = a ∨ c = b
theorem zsz {x : Str} {l u : Option Int} {c : Nat} (h : c ∈ (Txt.slice x l u).cps.toList) : c ∈ x.cps.toList:=by
 unfold Txt.slice at h
 split at h
 ·exact h
 ·have h : c ∈ (List.filterMap (x.cps[·]?) (Builtin.Str.strSliceIndices l u 1 x.length)):=by simpa using h
  obtain ⟨i, _, e⟩:=List.mem_filterMap.mp h
  have:=Array.mem_of_getElem? e
  simpa using this
theorem zadj {a b : EF} {env : DEnv} {x y : List Str} {f1 f2 : Bool} {b1 b2 : List Nat} (ha : a env = some ⟨zac x, f1, b1⟩) (hb : b env = some ⟨zac y, f2, b2⟩) (h : x.length + y.length ≤ 100000) : eOp addD a b env = some ⟨zac (x ++ y), true, b1 ++ b2⟩:=by
 unfold eOp
 rw [ha, hb]
 show ((if (x.map PyData.str).length + (y.map PyData.str).length ≤ 100000 then some (PyData.list (x.map .str ++ y.map .str), true) else none).bind fun z=>some (⟨z.1, z.2, bsOf z.1 (b1 ++ b2)⟩ : Val)) = _
 rw [if_pos (by rw [List.length_map, List.length_map]; exact h), ← List.map_append]
 rfl
theorem zafa {a : EF} {l h : PF'} {env : DEnv} {x y : List Str} {f : Bool} {bs : List Nat} {lo hi : Option Int} (ha : a env = some ⟨zac x, f, bs⟩) (hl : l env = some lo) (hh : h env = some hi) (e : cutD (x.map .str) lo hi = y.map .str) : eSl a l h env = some ⟨zac y, true, bs⟩:=by
 unfold eSl
 rw [ha, hl, hh]
 show (some (PyData.list (cutD (x.map .str) lo hi), true)).bind (fun z=>some (⟨z.1, z.2, bsOf z.1 bs⟩ : Val)) = _
 rw [e]
 rfl
theorem zaio {md o st at_ : Int} {stem : Str} (h : ∃ a, ∀ x ∈ stem.cps.toList, x = a) (hst : 0 ≤ st) (k : Nat) : Two (zkq md o st stem at_ k):=by
 obtain ⟨a, ha⟩:=h
 have l1 : ∀ (z : Int) (x : Nat), x ∈ (ltr z).cps.toList → x = 97 + z.toNat:=fun z x hx=>by unfold ltr at hx; simpa using hx
 unfold zkq
 split
 ·refine ⟨a, 97 + ((o + st * k) % 26).toNat, fun x hx=>?_⟩
  rw [zkg, zkg] at hx
  rcases List.mem_append.mp hx with hx | hx
  ·rcases List.mem_append.mp hx with hx | hx
   ·exact .inl (ha x (zsz hx))
   ·exact .inr (l1 _ x hx)
  ·exact .inl (ha x (zsz hx))
 ·split
  ·refine ⟨a, 97 + ((o + st * k) % 26).toNat, fun x hx=>?_⟩
   rw [zkg] at hx
   rcases List.mem_append.mp hx with hx | hx
   ·exact .inl (ha x (zsz hx))
   ·exact .inr (l1 _ x hx)
  ·refine ⟨97 + ((o + (k : Int) / 8) % 26).toNat, 0, fun x hx=>.inl ?_⟩
   unfold ltr at hx
   have:=Int.emod_nonneg ((k : Int) * st) (show (8 : Int) ≠ 0 by decide)
   rw [zns (by omega)] at hx
   exact List.eq_of_mem_replicate hx
noncomputable def zfd : List Str:=["none", "rule", "quarrel", "near", "far", "out"]
theorem zpi {x : Str} {a b c : Nat} (h1 : a ∈ x.cps.toList) (h2 : b ∈ x.cps.toList) (h3 : c ∈ x.cps.toList) (n1 : a ≠ b) (n2 : a ≠ c) (n3 : b ≠ c) : ¬ Two x:=by
 rintro ⟨p, q, h⟩
 rcases h a h1 with e1 | e1 <;> rcases h b h2 with e2 | e2
 ·exact n1 (e1.trans e2.symm)
 ·exact (h c h3).elim (fun e=>n2 (e1.trans e.symm)) fun e=>n3 (e2.trans e.symm)
 ·exact (h c h3).elim (fun e=>n3 (e2.trans e.symm)) fun e=>n2 (e1.trans e.symm)
 ·exact n1 (e1.trans e2.symm)
theorem zafb : ∀ x ∈ zfd, ¬ Two x:=by
 intro x hx
 unfold zfd at hx
 simp only [List.mem_cons, List.not_mem_nil, or_false] at hx
 rcases hx with rfl | rfl | rfl | rfl | rfl | rfl
 ·exact zpi (a:=110) (b:=111) (c:=101) (by decide +kernel) (by decide +kernel) (by decide +kernel) (by decide) (by decide) (by decide)
 ·exact zpi (a:=114) (b:=117) (c:=108) (by decide +kernel) (by decide +kernel) (by decide +kernel) (by decide) (by decide) (by decide)
 ·exact zpi (a:=113) (b:=117) (c:=97) (by decide +kernel) (by decide +kernel) (by decide +kernel) (by decide) (by decide) (by decide)
 ·exact zpi (a:=110) (b:=101) (c:=97) (by decide +kernel) (by decide +kernel) (by decide +kernel) (by decide) (by decide) (by decide)
 ·exact zpi (a:=102) (b:=97) (c:=114) (by decide +kernel) (by decide +kernel) (by decide +kernel) (by decide) (by decide) (by decide)
 ·exact zpi (a:=111) (b:=117) (c:=116) (by decide +kernel) (by decide +kernel) (by decide +kernel) (by decide) (by decide) (by decide)
theorem zalh : zfd.Nodup:=by decide +kernel
theorem zaip : ∀ x ∈ zfd, Low x:=by
 intro x hx
 unfold zfd at hx
 simp only [List.mem_cons, List.not_mem_nil, or_false] at hx
 unfold Low
 rcases hx with rfl | rfl | rfl | rfl | rfl | rfl <;> decide +kernel
theorem zwk (ds : List PyData) (k : Nat) : cutD ds (some (k : Int)) none = ds.drop k:=by
 unfold cutD
 have e1 : HT.sIx ds.length ds.length none = ds.length:=rfl
 rw [e1, HT.sIx_nat]
 rcases Nat.le_total k ds.length with h | h
 ·rw [Nat.min_eq_left h, List.take_of_length_le (by rw [List.length_drop]; exact Nat.le_refl _)]
 ·rw [Nat.min_eq_right h, List.drop_length, List.drop_of_length_le h, List.take_nil]
theorem zqc {m c : Int} (m0 : 0 ≤ m) (m16 : m ≤ 16) (c0 : 0 ≤ c) : ∃ xs : List Str, zcu [.int m, .int c] = some (zac xs, true) ∧ xs.length = m.toNat ∧ xs.Nodup ∧ ∀ x ∈ xs, Low x:=by
 have md : ∀ (z j : Int), 0 < j → 0 ≤ z % j ∧ z % j < j:=fun z j hj=>⟨Int.emod_nonneg z (by omega), Int.emod_lt_of_pos z hj⟩
 have i8:=md (c / 3) 8 (by decide)
 obtain ⟨st, hst, hmem⟩:=zaoi i8.1 i8.2
 have st0 : 0 ≤ st ∧ st < 100:=by
  simp only [List.mem_cons, List.mem_nil_iff, or_false] at hmem
  rcases hmem with rfl | rfl | rfl | rfl | rfl | rfl | rfl | rfl <;> decide
 have o26:=md (c / 24) 26 (by decide)
 have j26:=md (c / 624) 26 (by decide)
 have n8:=md (c / 16224) 8 (by decide)
 have lowS : Low (Txt.mul (ltr (c / 624 % 26)) (c / 16224 % 8)):=Low.mul (by omega) n8.1
 have lenS : (Txt.mul (ltr (c / 624 % 26)) (c / 16224 % 8)).length ≤ 7:=by unfold ltr; rw [zaod n8.1]; omega
 have s3 : sSet 3 (eOp ixD (eTup (zab (eC (.int 1)) (zab (eC (.int 3)) (zab (eC (.int 5)) (zab (eC (.int 7)) (zab (eC (.int 9)) (zab (eC (.int 11)) (zab (eC (.int 15)) (zab (eC (.int 17)) aNil))))))))) (eOp modD (eOp zde (eVar 1) (eC (.int 3))) (eC (.int 8)))) [.pl (.int m), .pl (.int c), .pl (.str abc), .no, .no, .no, .no, .no, .no, .no, .no, .no] = some (.nx [.pl (.int m), .pl (.int c), .pl (.str abc), .pl (.int st), .no, .no, .no, .no, .no, .no, .no, .no]):=by
  refine zbv (r:=vi st) ?_
  unfold eOp
  show ((some (⟨.tuple [PyData.int 1, .int 3, .int 5, .int 7, .int 9, .int 11, .int 15, .int 17], false, []⟩ : Val)).bind fun x=>((some (vi (c / 3 % 8))).bind fun y=>(ixD x.d y.d).bind fun z=>some (⟨z.1, z.2, bsOf z.1 (x.bs ++ y.bs)⟩ : Val))) = _
  simp only [Option.bind_some, ixD]
  rw [hst]; rfl
 have s5 : sSet 5 (eOp mulD (eIxV 2 (eOp modD (eOp zde (eVar 1) (eC (.int 624))) (eC (.int 26)))) (eOp modD (eOp zde (eVar 1) (eC (.int 16224))) (eC (.int 8)))) [.pl (.int m), .pl (.int c), .pl (.str abc), .pl (.int st), .pl (.int (c / 24 % 26)), .no, .no, .no, .no, .no, .no, .no] =
   some (.nx [.pl (.int m), .pl (.int c), .pl (.str abc), .pl (.int st), .pl (.int (c / 24 % 26)), .pl (.str (Txt.mul (ltr (c / 624 % 26)) (c / 16224 % 8))), .no, .no, .no, .no, .no, .no]) :=
  zbv (r:=vs _) (zamd (zaoh rfl rfl j26.1 j26.2) rfl ⟨by show 1 ≤ 1000; decide, by omega, by omega⟩)
 have oneS : ∃ a, ∀ x ∈ (Txt.mul (ltr (c / 624 % 26)) (c / 16224 % 8)).cps.toList, x = a:=⟨_, fun x hx=>by
  unfold ltr at hx
  rw [zns n8.1] at hx
  exact List.eq_of_mem_replicate hx⟩
 generalize hO : c / 24 % 26 = o at o26 s5
 generalize Txt.mul (ltr (c / 624 % 26)) (c / 16224 % 8) = stem at lowS lenS s5 oneS
 clear j26 n8 i8
 have s6 : ∃ at_ : Int, sSet 6 (eOp modD (eOp zde (eVar 1) (eC (.int 129792))) (eOp addD (eCB lenD (zab (eVar 5) aNil)) (eC (.int 1)))) [.pl (.int m), .pl (.int c), .pl (.str abc), .pl (.int st), .pl (.int o), .pl (.str stem), .no, .no, .no, .no, .no, .no] = some (.nx [.pl (.int m), .pl (.int c), .pl (.str abc), .pl (.int st), .pl (.int o), .pl (.str stem), .pl (.int at_), .no, .no, .no, .no, .no]) :=
  ⟨_, zbv (r:=vi _) (zii rfl (zti (zame rfl (by omega)) rfl) (by omega))⟩
 obtain ⟨at_, s6⟩:=s6
 have loop : ∃ env', forL (gN 8) (sSeq (sSet 9 (eIxV 2 (eOp modD (eOp addD (eVar 4) (eOp mulD (eVar 3) (eVar 8))) (eC (.int 26)))))
  (sIf (zbh (eOp eqD (eOp modD (eVar 1) (eC (.int 3))) (eC (.int 0)))) (sApp 7 (eOp addD (eOp addD (eSl (eVar 5) zeb (zbs (eVar 6))) (eVar 9)) (eSl (eVar 5) (zbs (eVar 6)) zeb))) (sIf (zbh (eOp eqD (eOp modD (eVar 1) (eC (.int 3))) (eC (.int 1)))) (sApp 7 (eOp addD (eSl (eVar 5) zeb (zbs (eOp modD (eOp mulD (eVar 8) (eVar 3)) (eOp addD (eCB lenD (zab (eVar 5) aNil)) (eC (.int 1)))))) (eVar 9))) (sApp 7 (eOp mulD (eIxV 2 (eOp modD (eOp addD (eVar 4) (eOp zde (eVar 8) (eC (.int 8)))) (eC (.int 26)))) (eOp addD (eC (.int 1)) (eOp modD (eOp mulD (eVar 8) (eVar 3)) (eC (.int 8)))))))))
   ((List.range m.toNat).map fun (k : Nat)=>PyData.int (k : Int)) [.pl (.int m), .pl (.int c), .pl (.str abc), .pl (.int st), .pl (.int o), .pl (.str stem), .pl (.int at_), .ac (.list []), .no, .no, .no, .no] = some (.nx env') ∧
   ∃ s8 s9, env' = [.pl (.int m), .pl (.int c), .pl (.str abc), .pl (.int st), .pl (.int o), .pl (.str stem), .pl (.int at_), .ac (zac ((List.range m.toNat).map (zkq (c % 3) o st stem at_))), s8, s9, .no, .no]:=by
  refine zfv (fun pre env=>∃ s8 s9, env = [.pl (.int m), .pl (.int c), .pl (.str abc), .pl (.int st), .pl (.int o), .pl (.str stem), .pl (.int at_), .ac (zac (pre.map (zkq (c % 3) o st stem at_))), s8, s9, .no, .no]) ⟨_, _, rfl⟩ ?_
  rintro pre k post env hk ⟨s8, s9, rfl⟩
  have hkm : k < m.toNat:=List.mem_range.mp (by rw [← hk]; simp)
  have hpl : pre.length < 100:=by
   have:=congrArg List.length hk
   simp at this
   omega
  have b1 : 0 ≤ st * (k : Int):=Int.mul_nonneg st0.1 (Int.natCast_nonneg _)
  have s26:=md (o + st * (k : Int)) 26 (by decide)
  have sl : ∀ a b, (Txt.slice stem a b).length ≤ 7:=fun a b=>Nat.le_trans (Txt.slice_le stem a b) lenS
  have lz : stem.length ≤ 100000:=Nat.le_trans lenS (by decide)
  have l1 : (ltr ((o + st * (k : Int)) % 26)).length = 1:=rfl
  refine ⟨_, [.pl (.int m), .pl (.int c), .pl (.str abc), .pl (.int st), .pl (.int o), .pl (.str stem), .pl (.int at_), .ac (zac ((pre ++ [k]).map (zkq (c % 3) o st stem at_))), .pl (.int (k : Int)), .pl (.str (ltr ((o + st * (k : Int)) % 26))), .no, .no], rfl, .inl ?_, _, _, rfl⟩
  refine zaq (zbv (r:=vs _) (zaoh rfl (zii (zti rfl (zakl rfl rfl (.inl ⟨by omega, by omega⟩))) rfl (by decide)) s26.1 s26.2)) ?_
  have fin : ∀ x : Str, x = zkq (c % 3) o st stem at_ k → (PyData.list ((pre.map (zkq (c % 3) o st stem at_)).map PyData.str ++ [.str x])) = zac ((pre ++ [k]).map (zkq (c % 3) o st stem at_)):=fun x e=>by
   unfold zac
   rw [List.map_append, List.map_append, e]; rfl
  have lp : ((pre.map (zkq (c % 3) o st stem at_)).map PyData.str).length < 100000:=by rw [List.length_map, List.length_map]; exact Nat.lt_trans hpl (by decide)
  by_cases h0 : c % 3 = 0
  ·refine if_t (zez (by rw [zxz (zii rfl rfl (by decide)) rfl]; rw [h0]; rfl)) ?_
   have z1:=sl none (some at_)
   have z2:=sl (some at_) none
   refine (zrw rfl (zahj (zahj (zaoe rfl rfl (zkz rfl) lz) rfl (by omega)) (zaoe rfl (zkz rfl) rfl lz) (by rw [zaoj]; omega)) lp).trans ?_
   rw [fin _ (by unfold zkq; rw [if_pos h0])]; rfl
  ·refine if_f (zez (by rw [zxz (zii rfl rfl (by decide)) rfl]; rw [beq_eq_false_iff_ne.mpr h0])) ?_
   by_cases h1 : c % 3 = 1
   ·refine if_t (zez (by rw [zxz (zii rfl rfl (by decide)) rfl]; rw [h1]; rfl)) ?_
    have z1:=sl none (some ((k : Int) * st % ((stem.length : Int) + 1)))
    refine (zrw rfl (zahj (zaoe rfl rfl (zkz (zii (zakl rfl rfl (.inr ⟨by omega, by omega⟩)) (zti (zame rfl lz) rfl) (by omega))) lz) rfl (by omega)) lp).trans ?_
    rw [fin _ (by unfold zkq; rw [if_neg h0, if_pos h1])]; rfl
   ·refine if_f (zez (by rw [zxz (zii rfl rfl (by decide)) rfl]; rw [beq_eq_false_iff_ne.mpr h1])) ?_
    have t26:=md (o + (k : Int) / 8) 26 (by decide)
    have u8:=md ((k : Int) * st) 8 (by decide)
    refine (zrw rfl (zamd (zaoh rfl (zii (zti rfl (zky rfl rfl (by decide) (by decide))) rfl (by decide)) t26.1 t26.2) (zti rfl (zii (zakl rfl rfl (.inr ⟨by omega, by omega⟩)) rfl (by decide))) ⟨by show 1 ≤ 1000; decide, by omega, by omega⟩) lp).trans ?_
    rw [fin _ (by unfold zkq; rw [if_neg h0, if_neg h1])]; rfl
 obtain ⟨env', hl, s8, s9, rfl⟩:=loop
 generalize hN : (List.range m.toNat).map (zkq (c % 3) o st stem at_) = xs at hl
 have lx : xs.length = m.toNat:=by rw [← hN]; simp
 have nx : xs.Nodup:=by rw [← hN]; exact zru fun a b ha hb e=>zahg hmem o26.1 (by omega) (by omega) e
 have lo : ∀ x ∈ xs, Low x:=fun x hx=>by
  rw [← hN] at hx
  obtain ⟨j, _, rfl⟩:=List.mem_map.mp hx
  exact zahh lowS o26.1 st0.1 j
 have tw : ∀ x ∈ xs, Two x:=fun x hx=>by
  rw [← hN] at hx
  obtain ⟨j, _, rfl⟩:=List.mem_map.mp hx
  exact zaio oneS st0.1 j
 have it : zhy (zab (eVar 0) aNil) [.pl (.int m), .pl (.int c), .pl (.str abc), .pl (.int st), .pl (.int o), .pl (.str stem), .pl (.int at_), .ac (.list []), .no, .no, .no, .no] = some ((List.range m.toNat).map fun (k : Nat)=>PyData.int (k : Int), []):=by
  unfold zhy
  rw [zdv (r:=vi m) rfl]
  simp only [Option.bind_some]
  rw [if_pos ⟨by omega, by omega⟩, zrx]
 have run : ∀ o', (sSeq (sIf (zbh (eOp eqD (eOp modD (eOp zde (eVar 1) (eC (.int 1038336))) (eC (.int 6))) (eC (.int 5)))) (sSeq (sSet 10 (eLst (zab (eC (.str "none")) (zab (eC (.str "rule")) (zab (eC (.str "quarrel")) (zab (eC (.str "near")) (zab (eC (.str "far")) (zab (eC (.str "out")) aNil))))))))
  (sSeq (sSet 11 (eOp modD (eOp zde (eVar 1) (eC (.int 6230016))) (eC (.int 6))))
  (sSet 7 (eSl (eOp addD (eOp addD (eSl (eVar 10) (zbs (eVar 11)) zeb) (eSl (eVar 10) zeb (zbs (eVar 11)))) (eSl (eVar 7) (zbs (eC (.int 6))) zeb)) zeb (zbs (eVar 0)))))) sNil)
  (ztf 7)) [.pl (.int m), .pl (.int c), .pl (.str abc), .pl (.int st), .pl (.int o), .pl (.str stem), .pl (.int at_), .ac (zac xs), s8, s9, .no, .no] = o' → (zix [.pl (.int m), .pl (.int c), .no, .no, .no, .no, .no, .no, .no, .no, .no, .no] = o'):=fun o' e =>
  zaq rfl (zaq s3 (zaq (e1:=[.pl (.int m), .pl (.int c), .pl (.str abc), .pl (.int st), .pl (.int o), .no, .no, .no, .no, .no, .no, .no]) (by rw [← hO]; rfl) (zaq s5 (zaq s6 (zaq rfl (zaq (zic it hl) e))))))
 have t1 : zbh (eOp eqD (eOp modD (eOp zde (eVar 1) (eC (.int 1038336))) (eC (.int 6))) (eC (.int 5))) [.pl (.int m), .pl (.int c), .pl (.str abc), .pl (.int st), .pl (.int o), .pl (.str stem), .pl (.int at_), .ac (zac xs), s8, s9, .no, .no] = some (c / 1038336 % 6 == 5):=zez (zxz (zii (zky rfl rfl (by decide) (by decide)) rfl (by decide)) rfl)
 cases hb : (c / 1038336 % 6 == 5) with
 | false =>
  rw [hb] at t1
  exact ⟨xs, zgp (env:=[.pl (.int m), .pl (.int c), .no, .no, .no, .no, .no, .no, .no, .no, .no, .no]) rfl (run _ (zaq (if_f t1 rfl) rfl)), lx, nx, lo⟩
 | true =>
  rw [hb] at t1
  have m6:=md (c / 6230016) 6 (by decide)
  obtain ⟨q, hq, q6⟩ : ∃ q : Nat, c / 6230016 % 6 = (q : Int) ∧ q ≤ 6:=⟨(c / 6230016 % 6).toNat, by omega, by omega⟩
  have e11 : sSet 11 (eOp modD (eOp zde (eVar 1) (eC (.int 6230016))) (eC (.int 6))) [.pl (.int m), .pl (.int c), .pl (.str abc), .pl (.int st), .pl (.int o), .pl (.str stem), .pl (.int at_), .ac (zac xs), s8, s9, .ac (zac zfd), .no] = some (.nx [.pl (.int m), .pl (.int c), .pl (.str abc), .pl (.int st), .pl (.int o), .pl (.str stem), .pl (.int at_), .ac (zac xs), s8, s9, .ac (zac zfd), .pl (.int (q : Int))]):=by
   rw [← hq]
   exact zbv (r:=vi _) (zii (zky rfl rfl (by decide) (by decide)) rfl (by decide))
  have cutW1 : cutD (zfd.map .str) (some (q : Int)) none = (zfd.drop q).map .str:=by rw [zwk, List.map_drop]
  have cutW2 : cutD (zfd.map .str) none (some (q : Int)) = (zfd.take q).map .str:=by rw [zry _ _ (by simpa [zfd] using q6), List.map_take]
  have cutX : cutD (xs.map .str) (some ((6 : Nat) : Int)) none = (xs.drop 6).map .str:=by rw [zwk, List.map_drop]
  have lW : (zfd.drop q ++ zfd.take q).length = 6:=by rw [List.length_append, List.length_drop, List.length_take]; show 6 - q + min q 6 = 6; omega
  have lR : ((zfd.drop q ++ zfd.take q) ++ xs.drop 6).length ≥ m.toNat:=by rw [List.length_append, lW, List.length_drop, lx]; omega
  have cutM : cutD (((zfd.drop q ++ zfd.take q) ++ xs.drop 6).map .str) none (some (m.toNat : Int)) = (((zfd.drop q ++ zfd.take q) ++ xs.drop 6).take m.toNat).map .str:=by rw [zry _ _ (by rw [List.length_map]; exact lR), List.map_take]
  have hm : (m.toNat : Int) = m:=by omega
  rw [hm] at cutM
  have wl : (zfd.drop q).length + (zfd.take q).length ≤ 100000:=by rw [← List.length_append, lW]; decide
  have a12 : eOp addD (eSl (eVar 10) (zbs (eVar 11)) zeb) (eSl (eVar 10) zeb (zbs (eVar 11))) [.pl (.int m), .pl (.int c), .pl (.str abc), .pl (.int st), .pl (.int o), .pl (.str stem), .pl (.int at_), .ac (zac xs), s8, s9, .ac (zac zfd), .pl (.int (q : Int))] = some ⟨zac (zfd.drop q ++ zfd.take q), true, [10] ++ [10]⟩ :=
   zadj (zafa (x:=zfd) (f:=false) (bs:=[10]) rfl (zkz (i:=(q : Int)) rfl) rfl cutW1) (zafa (x:=zfd) (f:=false) (bs:=[10]) rfl rfl (zkz (i:=(q : Int)) rfl) cutW2) wl
  have a3 : eSl (eVar 7) (zbs (eC (.int 6))) zeb [.pl (.int m), .pl (.int c), .pl (.str abc), .pl (.int st), .pl (.int o), .pl (.str stem), .pl (.int at_), .ac (zac xs), s8, s9, .ac (zac zfd), .pl (.int (q : Int))] = some ⟨zac (xs.drop 6), true, [7]⟩:=zafa (x:=xs) (f:=false) (bs:=[7]) rfl (zkz (i:=((6 : Nat) : Int)) rfl) rfl cutX
  have a4:=zafa (l:=zeb) (h:=zbs (eVar 0)) (zadj a12 a3 (by rw [lW, List.length_drop, lx]; omega)) rfl (zkz (i:=m) rfl) cutM
  refine ⟨((zfd.drop q ++ zfd.take q) ++ xs.drop 6).take m.toNat, zgp (env:=[.pl (.int m), .pl (.int c), .no, .no, .no, .no, .no, .no, .no, .no, .no, .no]) rfl (run _ (zaq (if_t t1 (zaq rfl (zaq e11 (zbv a4)))) rfl)), by rw [List.length_take]; omega, ?_, fun x hx=>?_⟩
  ·refine List.Nodup.sublist (List.take_sublist _ _) ?_
   have pw : (zfd.drop q ++ zfd.take q).Perm zfd:=by
    have:=List.perm_append_comm (l₁:=zfd.drop q) (l₂:=zfd.take q)
    rwa [List.take_append_drop] at this
   refine List.nodup_append.mpr ⟨pw.nodup_iff.mpr zalh, nx.sublist (List.drop_sublist _ _), fun a ha b hb e=>?_⟩
   subst e
   exact zafb a (pw.mem_iff.mp ha) (tw a (List.mem_of_mem_drop hb))
  ·rcases List.mem_append.mp (List.mem_of_mem_take hx) with z | z
   ·refine zaip x ?_
    rcases List.mem_append.mp z with z | z
    ·exact List.mem_of_mem_drop z
    ·exact List.mem_of_mem_take z
   ·exact lo x (List.mem_of_mem_drop z)
end Bc
namespace Bc
open PySem L2
theorem zzr {α : Type} (enc : α → PyData) (l : List α) : zqg (l.map enc) = ((List.range l.length).zip l).map fun z=>PyData.tuple [.int (z.1 : Nat), enc z.2]:=by
 rw [zqs]
 have : ∀ (l : List α) (k : Nat), (l.zipIdx k).map (fun (p : α × Nat)=>PyData.tuple [.int (p.2 : Int), enc p.1]) = (((List.range l.length).map (· + k)).zip l).map fun z=>PyData.tuple [.int (z.1 : Nat), enc z.2]:=by
  intro l
  induction l with
  | nil=>intro k; rfl
  | cons x l ih =>
   intro k
   rw [List.zipIdx_cons, List.map_cons, ih, List.length_cons, List.range_succ_eq_map, List.map_cons, List.zip_cons_cons, List.map_cons, Nat.zero_add]
   congr 3
   rw [List.map_map]
   refine List.map_congr_left fun j _=>?_
   show j + (k + 1) = j + 1 + k
   omega
 rw [this l 0]
 simp
theorem zus {W : Web} (h : WebOk W) {ks : List Str} {c : List Arm} (hc : CallOk W c) (hl : ks.length ≤ c.length) : zgf [.dict (dS zac (ups W)), zaj ks, zan c] = some (.bool (fitB W ks c), false):=by
 have it : zyj (zab (eVar 1) aNil) [.pl (.dict (dS zac (ups W))), .pl (zaj ks), .pl (zan c), .no, .no] = some (((List.range ks.length).zip ks).map fun z=>PyData.tuple [.int (z.1 : Nat), .str z.2], []):=by
  show some (zqg (ks.map .str), []) = _
  rw [zzr]
 have key:=zrq (enc:=fun z : Nat × Str=>PyData.tuple [.int (z.1 : Nat), .str z.2]) (g:=gT 2 (zay 3 (zay 4 zds))) (body:=sIf (zig (tTru (eCB (anyD fun bs=>bs.any id) (zab (zdl ["_law_name"] [0, 4] (zaw (zav 1 zci (zab (eIxV 2 (eVar 3)) aNil))) (gN 0) zdh (eOp (inD false) (eVar 2) (zbq 1 (eVar 0)))) aNil)))) (sRet (eC (.bool false))) sNil)
  (fun z=>(c[z.1]?).elim false fun a=>decide (z.2 ∈ upA W a)) (.bool false) false (fun env=>∃ s3 s4, env = [.pl (.dict (dS zac (ups W))), .pl (zaj ks), .pl (zan c), s3, s4]) ((List.range ks.length).zip ks) [.pl (.dict (dS zac (ups W))), .pl (zaj ks), .pl (zan c), .no, .no] ⟨_, _, rfl⟩ (by
   rintro ⟨i, k⟩ hz env ⟨s3, s4, rfl⟩
   have hi : i < c.length:=by
    have:=List.mem_range.mp (List.of_mem_zip hz).1
    omega
   have ha : c[i] ∈ c:=List.getElem_mem _
   refine ⟨[.pl (.dict (dS zac (ups W))), .pl (zaj ks), .pl (zan c), .pl (.int (i : Nat)), .pl (.str k)], rfl, ?_⟩
   have ix : eIxV 2 (eVar 3) [.pl (.dict (dS zac (ups W))), .pl (zaj ks), .pl (zan c), .pl (.int (i : Nat)), .pl (.str k)] = some ⟨armD c[i], false, []⟩:=by
    show ((ixD (.tuple (c.map armD)) (.int (i : Nat))).bind fun z=>some (⟨z.1, z.2, bsOf z.1 ([] ++ [])⟩ : Val)) = _
    simp only [ixD]
    rw [zoo (v:=armD c[i]) (by rw [List.getElem?_map, List.getElem?_eq_getElem hi]; rfl)]
    simp only [Option.map_some, Option.bind_some]
    cases c[i] <;> rfl
   have itp : zaw (zav 1 zci (zab (eIxV 2 (eVar 3)) aNil)) [.pl (.dict (dS zac (ups W))), .pl (zaj ks), .pl (zan c), .pl (.int (i : Nat)), .pl (.str k)] = some (c[i].parts.map .str, []):=by
    unfold zaw
    rw [zbc (n:=1) (rs:=[⟨armD c[i], false, []⟩]) (zdv ix) rfl (zhs c[i])]
    rfl
   have k2 : zee (gN 0) zdh (eOp (inD false) (eVar 2) (zbq 1 (eVar 0))) [.no, .pl (.dict (dS zac (ups W))), .pl (.str k)] (c[i].parts.map .str) = some (c[i].parts.map fun n=>.bool (decide (k ∈ up W n))) :=
    zdu fun n hn=>⟨[.pl (.str n), .pl (.dict (dS zac (ups W))), .pl (.str k)], rfl, rfl, vb (decide (k ∈ up W n)), e_in (neg:=false) (fr:=false) (bs:=[]) rfl (znt (d:=zac (up W n)) (.inl rfl) rfl (by rw [zkf, zlx (hc.kinds _ ha n hn)]; rfl)), rfl⟩
   have t:=zpp (zalg (f:=fun n : Str=>decide (k ∈ up W n)) (zeo (own:=["_law_name"]) (fr:=[0, 4]) itp (by rw [List.length_map]; have:=hc.few _ ha; omega) k2))
   have ev : (c[i].parts.any fun n=>decide (k ∈ up W n)) = decide (k ∈ upA W c[i]):=by
    rw [Bool.eq_iff_iff, List.any_eq_true, decide_eq_true_iff, zwj]
    exact ⟨fun ⟨n, h1, h2⟩=>⟨n, h1, of_decide_eq_true h2⟩, fun ⟨n, h1, h2⟩=>⟨n, h1, decide_eq_true h2⟩⟩
   rw [ev] at t
   have pe : ((c[i]?).elim false fun a=>decide (k ∈ upA W a)) = decide (k ∈ upA W c[i]):=by rw [List.getElem?_eq_getElem hi]; rfl
   constructor
   ·intro hp
    have hp : ((c[i]?).elim false fun a=>decide (k ∈ upA W a)) = true:=hp
    rw [pe] at hp
    rw [hp] at t
    exact ⟨_, if_f t rfl, _, _, rfl⟩
   ·intro hp
    have hp : ((c[i]?).elim false fun a=>decide (k ∈ upA W a)) = false:=hp
    rw [pe] at hp
    rw [hp] at t
    exact if_t t rfl)
 have same : (((List.range ks.length).zip ks).all fun z=>(c[z.1]?).elim false fun a=>decide (z.2 ∈ upA W a)) = fitB W ks c:=by
  have gen : ∀ (ks : List Str) (c : List Arm) (m : Nat) (cc : List Arm), ks.length ≤ c.length → (∀ j, cc[m + j]? = c[j]?) → ((((List.range ks.length).map (· + m)).zip ks).all fun z=>(cc[z.1]?).elim false fun a=>decide (z.2 ∈ upA W a)) = fitB W ks c:=by
   intro ks
   induction ks with
   | nil=>intro c m cc _ _; rfl
   | cons k ks ih =>
    intro c m cc hle hcc
    cases c with
    | nil=>simp at hle
    | cons a c =>
     have h0:=hcc 0
     rw [Nat.add_zero] at h0
     have r:=ih c (m + 1) cc (by simpa using hle) fun j=>by
      have:=hcc (j + 1)
      rw [List.getElem?_cons_succ] at this
      rw [← this]
      congr 1
      omega
     unfold fitB at r ⊢
     rw [List.length_cons, List.range_succ_eq_map, List.map_cons, List.zip_cons_cons, List.all_cons, List.zip_cons_cons, List.all_cons, ← r, Nat.zero_add, h0]
     congr 1
     rw [List.map_map]
     congr 2
     refine List.map_congr_left fun j _=>?_
     show j + 1 + m = j + (m + 1)
     omega
  have:=gen ks c 0 c hl fun j=>by rw [Nat.zero_add]
  simpa using this
 rw [same] at key
 cases hb : fitB W ks c with
 | true =>
  obtain ⟨env', lp, s3, s4, rfl⟩:=key.1 hb
  exact zgp (env:=[.pl (.dict (dS zac (ups W))), .pl (zaj ks), .pl (zan c), .no, .no]) rfl (zaq (zic it lp) rfl)
 | false=>exact zgp (env:=[.pl (.dict (dS zac (ups W))), .pl (zaj ks), .pl (zan c), .no, .no]) rfl (zaqk (zic it (key.2 hb)))
end Bc
namespace Bc
open PySem L2
theorem zabi {i : Nat} {f : EF} {env : DEnv} {ds : List PyData} {d : PyData} {fr : Bool} {bs : List Nat} (he : env[i]? = some (.ac (.list ds))) (hf : f env = some ⟨d, fr, bs⟩) (hl : ds.length < 100000) (hi : i ∉ bs) : sApp i f env = some (.nx ((frzs env bs).set i (.ac (.list (ds ++ [d]))))):=by
 unfold sApp
 rw [he, hf]
 show (if ds.length < 100000 ∧ i ∉ bs then _ else _) = _
 rw [if_pos ⟨hl, hi⟩]
theorem zaol {a b : EF} {env : DEnv} {i j : Int} (ha : a env = some (vi i)) (hb : b env = some (vi j)) : eOp gtD a b env = some (vb (decide (j < i))):=by
 unfold eOp; rw [ha, hb]; rfl
theorem zaom (neg : Bool) (x a b : Str) : inD neg (.str x) (.tuple [.str a, .str b]) = some (.bool (if neg then !decide (x ∈ [a, b]) else decide (x ∈ [a, b])), false):=by
 unfold inD
 simp only [zhv]
 rw [if_pos ⟨rfl, zlv [a, b]⟩]
 have:=zaco [a, b] x
 rw [List.map_cons, List.map_cons, List.map_nil] at this
 rw [this]
theorem b64 : -(2 ^ 64) < (4 : Int) ∧ (4 : Int) < 2 ^ 64:=by omega
structure CallIn (xs : List Str) (c : List Arm) : Prop where
 kinds : ∀ a ∈ c, ∀ n ∈ a.parts, n ∈ xs
 few : ∀ a ∈ c, a.parts.length ≤ 4
 some : ∀ a ∈ c, a.parts ≠ []
theorem CallIn.snoc {xs : List Str} {c : List Arm} {a : Arm} (h : CallIn xs c) (h1 : ∀ n ∈ a.parts, n ∈ xs) (h2 : a.parts.length ≤ 4) (h3 : a.parts ≠ []) : CallIn xs (c ++ [a]):=by
 refine ⟨fun b hb=>?_, fun b hb=>?_, fun b hb=>?_⟩ <;> rcases List.mem_append.mp hb with z | z
 ·exact h.kinds b z
 ·rw [List.mem_singleton.mp z]; exact h1
 ·exact h.few b z
 ·rw [List.mem_singleton.mp z]; exact h2
 ·exact h.some b z
 ·rw [List.mem_singleton.mp z]; exact h3
end Bc
namespace Bc
open PySem L2
section
variable {A0 A2 A6 s8 s9 : Sl} {ds : List PyData} {xs : List Str} {r : Int} {n at_ : Nat}
theorem zaiq {env : DEnv} {b : EF} {j : Nat} {i : Int} (h1 : env[1]? = some (.pl (zac xs))) (hb : b env = some (vi i)) (hi : i = (j : Int)) (hj : j < xs.length) : eIxV 1 b env = some (vs xs[j]):=by
 subst hi
 exact zaaq (ds:=xs.map .str) h1 hb (by rw [List.getElem?_map, List.getElem?_eq_getElem hj]; rfl)
theorem zadk (hn : n = xs.length) (ha : at_ < n) : ∃ hj : n - 1 - at_ < xs.length, eIxV 1 (eOp subD (eOp subD (eVar 5) (eC (.int 1))) (eVar 7)) [A0, .pl (zac xs), A2, .ac (.list ds), .pl (.int r), .pl (.int (n : Int)), A6, .pl (.int (at_ : Int)), s8, s9] = some (vs (xs[n - 1 - at_]'hj)):=by
 have hj : n - 1 - at_ < xs.length:=by omega
 have e : (n : Int) - 1 - (at_ : Int) = ((n - 1 - at_ : Nat) : Int):=by omega
 exact ⟨hj, zaiq rfl (zahi (i:=(n : Int) - 1) (j:=(at_ : Int)) (zahi (i:=(n : Int)) (j:=1) rfl rfl) rfl) e hj⟩
theorem zaon (hn : n = xs.length) (ha : at_ < n) (hl : ds.length < 100000) : ∃ a : Arm, (∀ m ∈ a.parts, m ∈ xs) ∧ a.parts.length ≤ 4 ∧ a.parts ≠ [] ∧ sApp 3 (eTup (zab (eIxV 1 (eOp subD (eOp subD (eVar 5) (eC (.int 1))) (eVar 7))) aNil)) [A0, .pl (zac xs), A2, .ac (.list ds), .pl (.int r), .pl (.int (n : Int)), A6, .pl (.int (at_ : Int)), s8, s9] = some (.nx [A0, .pl (zac xs), A2, .ac (.list (ds ++ [armD a])), .pl (.int r), .pl (.int (n : Int)), A6, .pl (.int (at_ : Int)), s8, s9]):=by
 obtain ⟨hj, e⟩:=zadk (A0:=A0) (A2:=A2) (A6:=A6) (s8:=s8) (s9:=s9) (ds:=ds) (r:=r) hn ha
 refine ⟨.many [xs[n - 1 - at_]'hj], fun m hm=>by rw [List.mem_singleton.mp hm]; exact List.getElem_mem _, by show 1 ≤ 4; decide, by simp [Arm.parts], ?_⟩
 refine zrw (i:=3) (ds:=ds) (d:=armD (.many [xs[n - 1 - at_]'hj])) (fr:=false) rfl ?_ hl
 unfold eTup
 rw [zdv e]
 rfl
theorem zali (hn : n = xs.length) (ha : at_ < n) (hl : ds.length < 100000) : ∃ a : Arm, (∀ m ∈ a.parts, m ∈ xs) ∧ a.parts.length ≤ 4 ∧ a.parts ≠ [] ∧ sApp 3 (eIxV 1 (eOp subD (eOp subD (eVar 5) (eC (.int 1))) (eVar 7))) [A0, .pl (zac xs), A2, .ac (.list ds), .pl (.int r), .pl (.int (n : Int)), A6, .pl (.int (at_ : Int)), s8, s9] = some (.nx [A0, .pl (zac xs), A2, .ac (.list (ds ++ [armD a])), .pl (.int r), .pl (.int (n : Int)), A6, .pl (.int (at_ : Int)), s8, s9]):=by
 obtain ⟨hj, e⟩:=zadk (A0:=A0) (A2:=A2) (A6:=A6) (s8:=s8) (s9:=s9) (ds:=ds) (r:=r) hn ha
 refine ⟨.one (xs[n - 1 - at_]'hj), fun m hm=>by rw [List.mem_singleton.mp hm]; exact List.getElem_mem _, by show 1 ≤ 4; decide, by simp [Arm.parts], ?_⟩
 exact zrw (i:=3) (ds:=ds) (d:=armD (.one (xs[n - 1 - at_]'hj))) (fr:=false) rfl e hl
end
end Bc
namespace Bc
open PySem L2
noncomputable def Hd (d : PyData) (s : Sl) : Prop:=s = .pl d ∨ s = .ac d
theorem e_hd {env : DEnv} {i : Nat} {d : PyData} {s : Sl} (h : env[i]? = some s) (hs : Hd d s) : ∃ bs, eVar i env = some ⟨d, false, bs⟩:=by
 unfold eVar
 rw [h]
 rcases hs with rfl | rfl
 ·exact ⟨_, rfl⟩
 ·exact ⟨_, rfl⟩
end Bc
namespace Bc
open PySem L2
section
variable {A0 A2 A6 s8 s9 : Sl} {ds : List PyData} {xs : List Str} {r : Int} {n at_ : Nat}
theorem zalj (hn : n = xs.length) (ha : at_ < n) (h1 : 1 < n) (r0 : 0 ≤ r) (hl : ds.length < 100000) (hx : xs.length ≤ 16) : ∃ (a : Arm) (s8' s9' : Sl), (∀ m ∈ a.parts, m ∈ xs) ∧ a.parts.length ≤ 4 ∧ a.parts ≠ [] ∧
  (sSeq (sSet 8 (eOp modD (eOp addD (eOp addD (eVar 7) (eC (.int 1))) (eOp modD (eOp zde (eVar 4) (eC (.int 4))) (eOp subD (eVar 5) (eC (.int 1))))) (eVar 5)))
  (sSeq (sSet 9 (zdl ["_law_name"] [1, 7, 8] (zaw (eSl (eVar 1) (zbs (eOp subD (eVar 5) (eOp modD (eVar 4) (eC (.int 3))))) zeb)) (gN 0) (zbh (eOp (inD true) (eVar 0) (eTup (zab (eIxV 1 (eVar 2)) (zab (eIxV 1 (eVar 3)) aNil))))) (eVar 0)))
  (sApp 3 (eCB zib (zab (eOp addD (eLst (zab (eIxV 1 (eVar 7)) (zab (eIxV 1 (eVar 8)) aNil))) (eVar 9)) aNil))))) [A0, .pl (zac xs), A2, .ac (.list ds), .pl (.int r), .pl (.int (n : Int)), A6, .pl (.int (at_ : Int)), s8, s9] = some (.nx [A0, .pl (zac xs), A2, .ac (.list (ds ++ [armD a])), .pl (.int r), .pl (.int (n : Int)), A6, .pl (.int (at_ : Int)), s8', s9']):=by
 have m0 : ∀ (z j : Int), 0 < j → 0 ≤ z % j ∧ z % j < j:=fun z j hj=>⟨Int.emod_nonneg z (by omega), Int.emod_lt_of_pos z hj⟩
 have q:=m0 ((at_ : Int) + 1 + r / 4 % ((n : Int) - 1)) (n : Int) (by omega)
 generalize hby : ((at_ : Int) + 1 + r / 4 % ((n : Int) - 1)) % (n : Int) = byz at q
 obtain ⟨by_, hb⟩ : ∃ b : Nat, byz = (b : Int):=⟨byz.toNat, by omega⟩
 subst hb
 have hbn : by_ < n:=by omega
 have e8 : sSet 8 (eOp modD (eOp addD (eOp addD (eVar 7) (eC (.int 1))) (eOp modD (eOp zde (eVar 4) (eC (.int 4))) (eOp subD (eVar 5) (eC (.int 1))))) (eVar 5)) [A0, .pl (zac xs), A2, .ac (.list ds), .pl (.int r), .pl (.int (n : Int)), A6, .pl (.int (at_ : Int)), s8, s9] = some (.nx [A0, .pl (zac xs), A2, .ac (.list ds), .pl (.int r), .pl (.int (n : Int)), A6, .pl (.int (at_ : Int)), .pl (.int (by_ : Int)), s9]):=by
  rw [zbv (zii (zti (zti (i:=(at_ : Int)) (j:=1) rfl rfl) (zii (zky (i:=r) (j:=4) rfl rfl (by decide) (by decide)) (zahi (i:=(n : Int)) (j:=1) rfl rfl) (by omega))) (j:=(n : Int)) rfl (by omega)), hby]
  rfl
 have r3:=m0 r 3 (by decide)
 obtain ⟨k, hk⟩ : ∃ k : Nat, (n : Int) - r % 3 = (k : Int):=⟨((n : Int) - r % 3).toNat, by omega⟩
 have ha' : at_ < xs.length:=by omega
 have hb' : by_ < xs.length:=by omega
 have sl : zaw (eSl (eVar 1) (zbs (eOp subD (eVar 5) (eOp modD (eVar 4) (eC (.int 3))))) zeb) [A0, .pl (zac xs), A2, .ac (.list ds), .pl (.int r), .pl (.int (n : Int)), A6, .pl (.int (at_ : Int)), .pl (.int (by_ : Int)), s9] = some ((xs.drop k).map .str, []):=by
  unfold zaw
  have lo : zbs (eOp subD (eVar 5) (eOp modD (eVar 4) (eC (.int 3)))) [A0, .pl (zac xs), A2, .ac (.list ds), .pl (.int r), .pl (.int (n : Int)), A6, .pl (.int (at_ : Int)), .pl (.int (by_ : Int)), s9] = some (some (k : Int)):=by
   rw [zkz (zahi (i:=(n : Int)) rfl (zii (i:=r) (j:=3) rfl rfl (by decide))), hk]
  rw [zafa (x:=xs) (y:=xs.drop k) (f:=false) (bs:=[]) rfl lo rfl (by rw [zwk, List.map_drop])]
  rfl
 let p : Str → Bool:=fun x=>!decide (x ∈ [xs[at_], xs[by_]])
 have c : zee (gN 0) (zbh (eOp (inD true) (eVar 0) (eTup (zab (eIxV 1 (eVar 2)) (zab (eIxV 1 (eVar 3)) aNil))))) (eVar 0) [.no, .pl (zac xs), .pl (.int (at_ : Int)), .pl (.int (by_ : Int))] ((xs.drop k).map .str) = some (((xs.drop k).filter p).map .str):=by
  refine zdt p fun x hx=>⟨[.pl (.str x), .pl (zac xs), .pl (.int (at_ : Int)), .pl (.int (by_ : Int))], rfl, zez ?_, fun _=>⟨vs x, rfl, rfl⟩⟩
  have i1 : eIxV 1 (eVar 2) [.pl (.str x), .pl (zac xs), .pl (.int (at_ : Int)), .pl (.int (by_ : Int))] = some (vs xs[at_]):=zaiq rfl rfl rfl ha'
  have i2 : eIxV 1 (eVar 3) [.pl (.str x), .pl (zac xs), .pl (.int (at_ : Int)), .pl (.int (by_ : Int))] = some (vs xs[by_]):=zaiq rfl rfl rfl hb'
  have tp : eTup (zab (eIxV 1 (eVar 2)) (zab (eIxV 1 (eVar 3)) aNil)) [.pl (.str x), .pl (zac xs), .pl (.int (at_ : Int)), .pl (.int (by_ : Int))] = some ⟨.tuple [.str xs[at_], .str xs[by_]], false, []⟩:=by
   unfold eTup
   rw [zbm i1 (zdv i2)]
   rfl
  have st : eOp (inD true) (eVar 0) (eTup (zab (eIxV 1 (eVar 2)) (zab (eIxV 1 (eVar 3)) aNil))) [.pl (.str x), .pl (zac xs), .pl (.int (at_ : Int)), .pl (.int (by_ : Int))] = ((inD true (.str x) (.tuple [.str xs[at_], .str xs[by_]])).bind fun z=>some (⟨z.1, z.2, bsOf z.1 []⟩ : Val)):=by
   unfold eOp
   rw [tp]
   rfl
  rw [st, zaom]
  rfl
 have e9 : sSet 9 (zdl ["_law_name"] [1, 7, 8] (zaw (eSl (eVar 1) (zbs (eOp subD (eVar 5) (eOp modD (eVar 4) (eC (.int 3))))) zeb)) (gN 0) (zbh (eOp (inD true) (eVar 0) (eTup (zab (eIxV 1 (eVar 2)) (zab (eIxV 1 (eVar 3)) aNil))))) (eVar 0)) [A0, .pl (zac xs), A2, .ac (.list ds), .pl (.int r), .pl (.int (n : Int)), A6, .pl (.int (at_ : Int)), .pl (.int (by_ : Int)), s9] = some (.nx [A0, .pl (zac xs), A2, .ac (.list ds), .pl (.int r), .pl (.int (n : Int)), A6, .pl (.int (at_ : Int)), .pl (.int (by_ : Int)), .ac (zac ((xs.drop k).filter p))]):=by
  refine zbv (r:=⟨zac ((xs.drop k).filter p), true, []⟩) ?_
  rw [zeo (own:=["_law_name"]) (fr:=[1, 7, 8]) (ds:=(xs.drop k).map .str) (bs:=[]) sl (by rw [List.length_map, List.length_drop]; omega) c, zlv]
  rfl
 have hfl : ((xs.drop k).filter p).length ≤ 2:=Nat.le_trans (List.length_filter_le _ _) (by rw [List.length_drop]; omega)
 generalize hmo : (xs.drop k).filter p = more at e9 hfl
 refine ⟨.many (xs[at_] :: xs[by_] :: more), .pl (.int (by_ : Int)), .pl (zac more), fun m hm=>?_, (by show (xs[at_] :: xs[by_] :: more).length ≤ 4; rw [List.length_cons, List.length_cons]; omega), (by simp [Arm.parts]), zaq e8 (zaq e9 ?_)⟩
 ·rcases List.mem_cons.mp hm with rfl | hm
  ·exact List.getElem_mem _
  ·rcases List.mem_cons.mp hm with rfl | hm
   ·exact List.getElem_mem _
   ·rw [← hmo] at hm
    exact List.mem_of_mem_drop (List.mem_filter.mp hm).1
 ·have i1 : eIxV 1 (eVar 7) [A0, .pl (zac xs), A2, .ac (.list ds), .pl (.int r), .pl (.int (n : Int)), A6, .pl (.int (at_ : Int)), .pl (.int (by_ : Int)), .ac (zac more)] = some (vs xs[at_]):=zaiq rfl rfl rfl ha'
  have i2 : eIxV 1 (eVar 8) [A0, .pl (zac xs), A2, .ac (.list ds), .pl (.int r), .pl (.int (n : Int)), A6, .pl (.int (at_ : Int)), .pl (.int (by_ : Int)), .ac (zac more)] = some (vs xs[by_]):=zaiq rfl rfl rfl hb'
  have l2 : eLst (zab (eIxV 1 (eVar 7)) (zab (eIxV 1 (eVar 8)) aNil)) [A0, .pl (zac xs), A2, .ac (.list ds), .pl (.int r), .pl (.int (n : Int)), A6, .pl (.int (at_ : Int)), .pl (.int (by_ : Int)), .ac (zac more)] = some ⟨zac [xs[at_], xs[by_]], true, []⟩:=by
   unfold eLst
   rw [zbm i1 (zdv i2)]
   rfl
  have ad:=zadj (x:=[xs[at_], xs[by_]]) (y:=more) (b:=eVar 9) (f2:=false) (b2:=[9]) l2 rfl (by show 2 + more.length ≤ 100000; omega)
  have tu : eCB zib (zab (eOp addD (eLst (zab (eIxV 1 (eVar 7)) (zab (eIxV 1 (eVar 8)) aNil))) (eVar 9)) aNil) [A0, .pl (zac xs), A2, .ac (.list ds), .pl (.int r), .pl (.int (n : Int)), A6, .pl (.int (at_ : Int)), .pl (.int (by_ : Int)), .ac (zac more)] = some ⟨armD (.many (xs[at_] :: xs[by_] :: more)), false, [9]⟩:=by
   unfold eCB
   rw [zdv ad]
   rfl
  exact zabi (i:=3) (ds:=ds) rfl tu hl (by decide)
end
theorem zafc {xs : List Str} {c : Int} {p : Nat} (hx : 1 ≤ xs.length ∧ xs.length ≤ 16) (c0 : 0 ≤ c) (hp : p ≤ 3) : ∃ cl : List Arm, zge [.int c, zac xs, .int p] = some (zan cl, false) ∧ cl.length = p ∧ CallIn xs cl:=by
 have m0 : ∀ (z j : Int), 0 < j → 0 ≤ z % j ∧ z % j < j:=fun z j hj=>⟨Int.emod_nonneg z (by omega), Int.emod_lt_of_pos z hj⟩
 have lp:=zfv (enc:=fun (k : Nat)=>PyData.int (k : Int)) (g:=gN 6) (l:=List.range p) (env:=[.pl (.int c), .pl (zac xs), .pl (.int p), .ac (.list []), .pl (.int c), .pl (.int (xs.length : Int)), .no, .no, .no, .no])
  (body:=(sSeq (sSet 7 (eOp modD (eVar 4) (eVar 5)))
  (sSeq (sSet 4 (eOp zde (eVar 4) (eVar 5)))
  (sSeq (sIf (zbh (eOp eqD (eOp modD (eVar 4) (eC (.int 4))) (eC (.int 2)))) (sApp 3 (eTup (zab (eIxV 1 (eOp subD (eOp subD (eVar 5) (eC (.int 1))) (eVar 7))) aNil))) (sIf (zkv (zbh (eOp eqD (eOp modD (eVar 4) (eC (.int 4))) (eC (.int 3)))) (zbh (eOp gtD (eVar 5) (eC (.int 1))))) (sSeq (sSet 8 (eOp modD (eOp addD (eOp addD (eVar 7) (eC (.int 1))) (eOp modD (eOp zde (eVar 4) (eC (.int 4))) (eOp subD (eVar 5) (eC (.int 1))))) (eVar 5)))
  (sSeq (sSet 9 (zdl ["_law_name"] [1, 7, 8] (zaw (eSl (eVar 1) (zbs (eOp subD (eVar 5) (eOp modD (eVar 4) (eC (.int 3))))) zeb)) (gN 0) (zbh (eOp (inD true) (eVar 0) (eTup (zab (eIxV 1 (eVar 2)) (zab (eIxV 1 (eVar 3)) aNil))))) (eVar 0)))
  (sApp 3 (eCB zib (zab (eOp addD (eLst (zab (eIxV 1 (eVar 7)) (zab (eIxV 1 (eVar 8)) aNil))) (eVar 9)) aNil))))) (sApp 3 (eIxV 1 (eOp subD (eOp subD (eVar 5) (eC (.int 1))) (eVar 7))))))
  (sSet 4 (eOp zde (eVar 4) (eOp mulD (eC (.int 4)) (eVar 5)))))))) (fun pre env=>∃ (cl : List Arm) (r : Int) (s6 s7 s8 s9 : Sl), env = [.pl (.int c), .pl (zac xs), .pl (.int p), .ac (.list (cl.map armD)), .pl (.int r), .pl (.int (xs.length : Int)), s6, s7, s8, s9] ∧ 0 ≤ r ∧ cl.length = pre.length ∧ CallIn xs cl)
  ⟨[], c, _, _, _, _, rfl, c0, rfl, ⟨fun a h=>(nomatch h), fun a h=>(nomatch h), fun a h=>(nomatch h)⟩⟩ (by
   rintro pre k post env hk ⟨cl, r, s6, s7, s8, s9, rfl, r0, hcl, ok⟩
   have hpl : pre.length < 4:=by
    have:=congrArg List.length hk
    simp at this; omega
   have q:=m0 r (xs.length : Int) (by omega)
   obtain ⟨at_, hat⟩ : ∃ a : Nat, r % (xs.length : Int) = (a : Int):=⟨(r % (xs.length : Int)).toNat, by omega⟩
   have ha : at_ < xs.length:=by omega
   have e7 : sSet 7 (eOp modD (eVar 4) (eVar 5)) [.pl (.int c), .pl (zac xs), .pl (.int p), .ac (.list (cl.map armD)), .pl (.int r), .pl (.int (xs.length : Int)), .pl (.int (k : Int)), s7, s8, s9] = some (.nx [.pl (.int c), .pl (zac xs), .pl (.int p), .ac (.list (cl.map armD)), .pl (.int r), .pl (.int (xs.length : Int)), .pl (.int (k : Int)), .pl (.int (at_ : Int)), s8, s9]):=by
    rw [zbv (zii (i:=r) (j:=(xs.length : Int)) rfl rfl (by omega)), hat]; rfl
   have q0 : 0 ≤ r / (xs.length : Int):=Int.ediv_nonneg r0 (by omega)
   have e4 : sSet 4 (eOp zde (eVar 4) (eVar 5)) [.pl (.int c), .pl (zac xs), .pl (.int p), .ac (.list (cl.map armD)), .pl (.int r), .pl (.int (xs.length : Int)), .pl (.int (k : Int)), .pl (.int (at_ : Int)), s8, s9] = some (.nx [.pl (.int c), .pl (zac xs), .pl (.int p), .ac (.list (cl.map armD)), .pl (.int (r / (xs.length : Int))), .pl (.int (xs.length : Int)), .pl (.int (k : Int)), .pl (.int (at_ : Int)), s8, s9]):=zbv (zky (i:=r) (j:=(xs.length : Int)) rfl rfl (by omega) (by omega))
   generalize r / (xs.length : Int) = r' at e4 q0
   have hds : (cl.map armD).length < 100000:=by rw [List.length_map]; omega
   have t2 : zbh (eOp eqD (eOp modD (eVar 4) (eC (.int 4))) (eC (.int 2))) [.pl (.int c), .pl (zac xs), .pl (.int p), .ac (.list (cl.map armD)), .pl (.int r'), .pl (.int (xs.length : Int)), .pl (.int (k : Int)), .pl (.int (at_ : Int)), s8, s9] = some (r' % 4 == 2):=zez (zxz (zii rfl rfl (by decide)) rfl)
   have t3 : zkv (zbh (eOp eqD (eOp modD (eVar 4) (eC (.int 4))) (eC (.int 3)))) (zbh (eOp gtD (eVar 5) (eC (.int 1)))) [.pl (.int c), .pl (zac xs), .pl (.int p), .ac (.list (cl.map armD)), .pl (.int r'), .pl (.int (xs.length : Int)), .pl (.int (k : Int)), .pl (.int (at_ : Int)), s8, s9] = some ((r' % 4 == 3) && decide (1 < (xs.length : Int))):=by
    have t31 : zbh (eOp eqD (eOp modD (eVar 4) (eC (.int 4))) (eC (.int 3))) [.pl (.int c), .pl (zac xs), .pl (.int p), .ac (.list (cl.map armD)), .pl (.int r'), .pl (.int (xs.length : Int)), .pl (.int (k : Int)), .pl (.int (at_ : Int)), s8, s9] = some (r' % 4 == 3):=zez (zxz (zii rfl rfl (by decide)) rfl)
    have t32 : zbh (eOp gtD (eVar 5) (eC (.int 1))) [.pl (.int c), .pl (zac xs), .pl (.int p), .ac (.list (cl.map armD)), .pl (.int r'), .pl (.int (xs.length : Int)), .pl (.int (k : Int)), .pl (.int (at_ : Int)), s8, s9] = some (decide (1 < (xs.length : Int))):=zez (zaol rfl rfl)
    unfold zkv
    rw [t31, Option.bind_some, t32]
    cases (r' % 4 == 3) <;> rfl
   have fin : ∀ (a : Arm) (s8' s9' : Sl), sSet 4 (eOp zde (eVar 4) (eOp mulD (eC (.int 4)) (eVar 5))) [.pl (.int c), .pl (zac xs), .pl (.int p), .ac (.list (cl.map armD ++ [armD a])), .pl (.int r'), .pl (.int (xs.length : Int)), .pl (.int (k : Int)), .pl (.int (at_ : Int)), s8', s9'] = some (.nx [.pl (.int c), .pl (zac xs), .pl (.int p), .ac (.list ((cl ++ [a]).map armD)), .pl (.int (r' / (4 * (xs.length : Int)))), .pl (.int (xs.length : Int)), .pl (.int (k : Int)), .pl (.int (at_ : Int)), s8', s9']):=fun a s8' s9'=>by
    rw [List.map_append]
    exact zbv (zky (i:=r') rfl (zakl (i:=4) (j:=(xs.length : Int)) rfl rfl (.inl b64)) (by omega) (by omega))
   have go : ∀ {G : SF} (a : Arm) (s8' s9' : Sl), (∀ m ∈ a.parts, m ∈ xs) → a.parts.length ≤ 4 → a.parts ≠ [] → G [.pl (.int c), .pl (zac xs), .pl (.int p), .ac (.list (cl.map armD)), .pl (.int r'), .pl (.int (xs.length : Int)), .pl (.int (k : Int)), .pl (.int (at_ : Int)), s8, s9] = some (.nx [.pl (.int c), .pl (zac xs), .pl (.int p), .ac (.list (cl.map armD ++ [armD a])), .pl (.int r'), .pl (.int (xs.length : Int)), .pl (.int (k : Int)), .pl (.int (at_ : Int)), s8', s9']) →
     ∃ e1 e2, gN 6 (.int (k : Int)) [.pl (.int c), .pl (zac xs), .pl (.int p), .ac (.list (cl.map armD)), .pl (.int r), .pl (.int (xs.length : Int)), s6, s7, s8, s9] = some e1 ∧ ((sSeq (sSet 7 (eOp modD (eVar 4) (eVar 5))) (sSeq (sSet 4 (eOp zde (eVar 4) (eVar 5))) (sSeq G (sSet 4 (eOp zde (eVar 4) (eOp mulD (eC (.int 4)) (eVar 5))))))) e1 = some (.nx e2) ∨ (sSeq (sSet 7 (eOp modD (eVar 4) (eVar 5))) (sSeq (sSet 4 (eOp zde (eVar 4) (eVar 5))) (sSeq G (sSet 4 (eOp zde (eVar 4) (eOp mulD (eC (.int 4)) (eVar 5))))))) e1 = some (.ct e2)) ∧
      ∃ (cl' : List Arm) (r : Int) (s6 s7 s8 s9 : Sl), e2 = [.pl (.int c), .pl (zac xs), .pl (.int p), .ac (.list (cl'.map armD)), .pl (.int r), .pl (.int (xs.length : Int)), s6, s7, s8, s9] ∧ 0 ≤ r ∧ cl'.length = (pre ++ [k]).length ∧ CallIn xs cl':=fun {G} a s8' s9' h1 h2 h3 hg =>
    ⟨_, _, rfl, .inl (zaq e7 (zaq e4 (zaq hg (fin a s8' s9')))), cl ++ [a], _, _, _, _, _, rfl, Int.ediv_nonneg q0 (by omega), by simp [hcl], ok.snoc h1 h2 h3⟩
   cases h2 : (r' % 4 == 2) with
   | true =>
    rw [h2] at t2
    obtain ⟨a, a1, a2, a3, a4⟩:=zaon (A0:=.pl (.int c)) (A2:=.pl (.int p)) (A6:=.pl (.int (k : Int))) (s8:=s8) (s9:=s9) (ds:=cl.map armD) (xs:=xs) (r:=r') (n:=xs.length) (at_:=at_) rfl ha hds
    exact go a _ _ a1 a2 a3 (if_t t2 a4)
   | false =>
    rw [h2] at t2
    cases h3 : ((r' % 4 == 3) && decide (1 < (xs.length : Int))) with
    | true =>
     rw [h3] at t3
     have h1 : 1 < xs.length:=by
      have:=of_decide_eq_true (Bool.and_eq_true_iff.mp h3).2
      omega
     obtain ⟨a, s8', s9', a1, a2, a3, a4⟩:=zalj (A0:=.pl (.int c)) (A2:=.pl (.int p)) (A6:=.pl (.int (k : Int))) (s8:=s8) (s9:=s9) (ds:=cl.map armD) (xs:=xs) (r:=r') (n:=xs.length) (at_:=at_) rfl ha h1 q0 hds hx.2
     exact go a _ _ a1 a2 a3 (if_f t2 (if_t t3 a4))
    | false =>
     rw [h3] at t3
     obtain ⟨a, a1, a2, a3, a4⟩:=zali (A0:=.pl (.int c)) (A2:=.pl (.int p)) (A6:=.pl (.int (k : Int))) (s8:=s8) (s9:=s9) (ds:=cl.map armD) (xs:=xs) (r:=r') (n:=xs.length) (at_:=at_) rfl ha hds
     exact go a _ _ a1 a2 a3 (if_f t2 (if_f t3 a4)))
 obtain ⟨env', lp, cl, r, s6, s7, s8, s9, rfl, _, hcl, ok⟩:=lp
 have el : eCB lenD (zab (eVar 1) aNil) [.pl (.int c), .pl (zac xs), .pl (.int p), .ac (.list []), .pl (.int c), .no, .no, .no, .no, .no] = some (vi (xs.length : Int)):=by
  have:=zrv (a:=eVar 1) (env:=[.pl (.int c), .pl (zac xs), .pl (.int p), .ac (.list []), .pl (.int c), .no, .no, .no, .no, .no]) (ds:=xs.map .str) (fr:=false) (bs:=[]) rfl
  rw [List.length_map] at this
  exact this
 have it : zhy (zab (eVar 2) aNil) [.pl (.int c), .pl (zac xs), .pl (.int p), .ac (.list []), .pl (.int c), .pl (.int (xs.length : Int)), .no, .no, .no, .no] = some ((List.range p).map (fun (k : Nat)=>PyData.int (k : Int)), []):=by
  unfold zhy
  rw [zdv (r:=vi (p : Int)) rfl, Option.bind_some]
  simp only
  rw [if_pos (by omega), zrx]
  rfl
 refine ⟨cl, zgp rfl (zaq rfl (zaq (zbv (r:=vi c) rfl) (zaq (zbv el) (zaq (zic it lp) (zgw (bs:=[3]) rfl))))), by rw [hcl, List.length_range], ok⟩
end Bc
namespace Bc
open PySem L2
theorem zzs : ∀ (l : List (List Str)), (∀ ks ∈ l, LowS ks) → PyData.canLayAll0 (l.map zaj) = true ∧ PyData.depthAll (l.map zaj) ≤ 1
 | [], _=>⟨rfl, by simp [PyData.depthAll]⟩
 | ks :: l, h=>by
  obtain ⟨h1, h2⟩:=zzs l fun x hx=>h x (List.mem_cons_of_mem _ hx)
  obtain ⟨g1, g2⟩:=zjh ks (h ks List.mem_cons_self)
  constructor
  ·rw [List.map_cons]
   simp only [PyData.canLayAll0, zaj, PyData.canLay0, Bool.and_eq_true]
   exact ⟨g1, h1⟩
  ·rw [List.map_cons]
   simp only [PyData.depthAll, zaj, PyData.depth]
   rw [g2]
   have : PyData.depthAll (l.map fun ks=>PyData.tuple (ks.map .str)) ≤ 1:=h2
   omega
theorem zabj {l : List (List Str)} (h : ∀ ks ∈ l, LowS ks) : SeqAt.shaped (.list (l.map zaj)) = true:=by
 obtain ⟨h1, h2⟩:=zzs l h
 unfold SeqAt.shaped
 rw [Bool.and_eq_true]
 refine ⟨by simpa [PyData.canLay0] using h1, decide_eq_true ?_⟩
 simp only [PyData.depth]
 omega
theorem zair (l : List (List Str)) (ks : List Str) : ((l.map zaj).any fun e=>PyData.eqv e (zaj ks)) = decide (ks ∈ l):=by
 rw [List.any_map, Bool.eq_iff_iff, List.any_eq_true, decide_eq_true_iff]
 have e : ∀ a b : List Str, PyData.eqv (zaj a) (zaj b) = (a == b):=fun a b=>by
  unfold zaj
  simp only [PyData.eqv]
  exact zqy a b
 constructor
 ·rintro ⟨y, hy, h⟩
  have h : PyData.eqv (zaj y) (zaj ks) = true:=h
  rw [e, beq_iff_eq] at h
  rw [← h]; exact hy
 ·intro h
  refine ⟨ks, h, ?_⟩
  show PyData.eqv (zaj ks) (zaj ks) = true
  rw [e]; exact beq_self_eq_true _
theorem zaoo {neg : Bool} {l : List (List Str)} {ks : List Str} (h : ∀ x ∈ l, LowS x) (hk : LowS ks) : inS neg (zaj ks) (.list (l.map zaj)) = some (.bool (if neg then !decide (ks ∈ l) else decide (ks ∈ l)), false):=by
 unfold inS
 simp only [zhv]
 rw [if_pos ⟨zlp hk, zabj h⟩, zair]
theorem zabk {W : Web} (lo : ∀ x ∈ nm W, Low x) {ks : List Str} (h : ∀ k ∈ ks, k ∈ nm W) : LowS ks:=fun k hk=>znr (lo k (h k hk))
theorem zut {W : Web} (h : WebOk W) {cs : List Int} {i : Nat} (hi : i < cs.length) (hcs : ∀ z ∈ cs, 0 ≤ z) {A3 A4 A5 A7 : Sl} {c0 : List Arm} (hne : 0 < (nm W).length) : ∀ (c : List Arm) (ks : List Str) (r : Int) (s10 s11 : Sl), CallIn (nm W) c → 0 ≤ r → (∀ k ∈ ks, k ∈ nm W) → ks.length + c.length < 1000 →
  ∃ (ks' : List Str) (r' : Int) (s10' s11' : Sl), forL (gN 10) (sSeq (sSet 11 (eVar 1))
  (sSeq (sIf (zbh (eOp gtD (eOp modD (eIxV 0 (eVar 6)) (eC (.int 4))) (eC (.int 0)))) (sSet 11 (zdl ["_law_name"] [2, 10] (zaw (eVar 1)) (gN 0) (tTru (eCB (anyD fun bs=>bs.any id) (zab (zdl ["_law_one"] [0, 1] (zaw (zav 1 zci (zab (eVar 2) aNil))) (gN 0) zdh (eOp (inD false) (eVar 1) (zbq 2 (eVar 0)))) aNil))) (eVar 0))) sNil)
  (sSeq (sApp 9 (eIxV 11 (eOp modD (eVar 8) (eCB lenD (zab (eVar 11) aNil)))))
  (sSet 8 (eOp zde (eVar 8) (eCB lenD (zab (eVar 11) aNil))))))) (c.map armD) [.pl (zbw cs), .pl (zac (nm W)), .pl (.dict (dS zac (ups W))), A3, A4, A5, .pl (.int (i : Int)), A7, .pl (.int r), .ac (zac ks), s10, s11] = some (.nx [.pl (zbw cs), .pl (zac (nm W)), .pl (.dict (dS zac (ups W))), A3, A4, A5, .pl (.int (i : Int)), A7, .pl (.int r'), .ac (zac ks'), s10', s11']) ∧ (∀ k ∈ ks', k ∈ nm W) ∧ ks'.length = ks.length + c.length
 | [], ks, r, s10, s11, _, _, hk, _=>⟨ks, r, s10, s11, rfl, hk, rfl⟩
 | a :: c, ks, r, s10, s11, hc, r0, hk, hl=>by
  have hlW : (nm W).length ≤ 12:=zre h
  have hap:=hc.kinds a List.mem_cons_self
  have e11 : sSet 11 (eVar 1) [.pl (zbw cs), .pl (zac (nm W)), .pl (.dict (dS zac (ups W))), A3, A4, A5, .pl (.int (i : Int)), A7, .pl (.int r), .ac (zac ks), .pl (armD a), s11] = some (.nx [.pl (zbw cs), .pl (zac (nm W)), .pl (.dict (dS zac (ups W))), A3, A4, A5, .pl (.int (i : Int)), A7, .pl (.int r), .ac (zac ks), .pl (armD a), .pl (zac (nm W))]):=zbv (r:=⟨zac (nm W), false, []⟩) rfl
  have pool : ∃ (pl : List Str) (s : Sl), Hd (zac pl) s ∧ 0 < pl.length ∧ pl.length ≤ 12 ∧ (∀ x ∈ pl, x ∈ nm W) ∧ sIf (zbh (eOp gtD (eOp modD (eIxV 0 (eVar 6)) (eC (.int 4))) (eC (.int 0)))) (sSet 11 (zdl ["_law_name"] [2, 10] (zaw (eVar 1)) (gN 0) (tTru (eCB (anyD fun bs=>bs.any id) (zab (zdl ["_law_one"] [0, 1] (zaw (zav 1 zci (zab (eVar 2) aNil))) (gN 0) zdh (eOp (inD false) (eVar 1) (zbq 2 (eVar 0)))) aNil))) (eVar 0))) sNil [.pl (zbw cs), .pl (zac (nm W)), .pl (.dict (dS zac (ups W))), A3, A4, A5, .pl (.int (i : Int)), A7, .pl (.int r), .ac (zac ks), .pl (armD a), .pl (zac (nm W))] = some (.nx [.pl (zbw cs), .pl (zac (nm W)), .pl (.dict (dS zac (ups W))), A3, A4, A5, .pl (.int (i : Int)), A7, .pl (.int r), .ac (zac ks), .pl (armD a), s]):=by
   have t : zbh (eOp gtD (eOp modD (eIxV 0 (eVar 6)) (eC (.int 4))) (eC (.int 0))) [.pl (zbw cs), .pl (zac (nm W)), .pl (.dict (dS zac (ups W))), A3, A4, A5, .pl (.int (i : Int)), A7, .pl (.int r), .ac (zac ks), .pl (armD a), .pl (zac (nm W))] = some (decide (0 < cs[i] % 4)) :=
    zez (zaol (zii (i:=cs[i]) (zaaq (n:=i) rfl rfl (by rw [List.getElem?_map, List.getElem?_eq_getElem hi]; rfl)) rfl (by decide)) rfl)
   by_cases hz : 0 < cs[i] % 4
   ·rw [decide_eq_true hz] at t
    have cm : zee (gN 0) (tTru (eCB (anyD fun bs=>bs.any id) (zab (zdl ["_law_one"] [0, 1] (zaw (zav 1 zci (zab (eVar 2) aNil))) (gN 0) zdh (eOp (inD false) (eVar 1) (zbq 2 (eVar 0)))) aNil))) (eVar 0) [.no, .pl (.dict (dS zac (ups W))), .pl (armD a)] ((nm W).map .str) = some (((nm W).filter fun x=>decide (x ∈ upA W a)).map .str):=by
     refine zdt (fun x=>decide (x ∈ upA W a)) fun x hx=>⟨[.pl (.str x), .pl (.dict (dS zac (ups W))), .pl (armD a)], rfl, ?_, fun _=>⟨vs x, rfl, rfl⟩⟩
     have itp : zaw (zav 1 zci (zab (eVar 2) aNil)) [.pl (.str x), .pl (.dict (dS zac (ups W))), .pl (armD a)] = some (a.parts.map .str, []):=by
      unfold zaw
      rw [zbc (n:=1) (rs:=[⟨armD a, false, []⟩]) (zdv rfl) rfl (zhs a)]
      rfl
     have k2 : zee (gN 0) zdh (eOp (inD false) (eVar 1) (zbq 2 (eVar 0))) [.no, .pl (.str x), .pl (.dict (dS zac (ups W)))] (a.parts.map .str) = some (a.parts.map fun n=>.bool (decide (x ∈ up W n))) :=
      zdu fun n hn=>⟨[.pl (.str n), .pl (.str x), .pl (.dict (dS zac (ups W)))], rfl, rfl, vb (decide (x ∈ up W n)), e_in (neg:=false) (fr:=false) (bs:=[]) rfl (znt (k:=2) (d:=zac (up W n)) (.inl rfl) rfl (by rw [zkf, zlx (hap n hn)]; rfl)), rfl⟩
     have an:=zalg (f:=fun n : Str=>decide (x ∈ up W n)) (zeo (own:=["_law_one"]) (fr:=[0, 1]) itp (by rw [List.length_map]; have:=hc.few a List.mem_cons_self; omega) k2)
     have ev : (a.parts.any fun n=>decide (x ∈ up W n)) = decide (x ∈ upA W a):=by
      rw [Bool.eq_iff_iff, List.any_eq_true, decide_eq_true_iff, zwj]
      exact ⟨fun ⟨n, h1, h2⟩=>⟨n, h1, of_decide_eq_true h2⟩, fun ⟨n, h1, h2⟩=>⟨n, h1, decide_eq_true h2⟩⟩
     rw [ev] at an
     unfold tTru
     rw [an]
     rfl
    refine ⟨(nm W).filter fun x=>decide (x ∈ upA W a), .ac (zac ((nm W).filter fun x=>decide (x ∈ upA W a))), .inr rfl, ?_, Nat.le_trans (List.length_filter_le _ _) hlW, fun x hx=>(List.mem_filter.mp hx).1, if_t t (zbv (r:=⟨zac ((nm W).filter fun x=>decide (x ∈ upA W a)), true, []⟩) ?_)⟩
    ·obtain ⟨n, hn⟩:=List.exists_mem_of_ne_nil _ (hc.some a List.mem_cons_self)
     exact List.length_pos_of_mem (List.mem_filter.mpr ⟨hap n hn, decide_eq_true (zwj.mpr ⟨n, hn, zaoc h (hap n hn)⟩)⟩)
    ·rw [zeo (own:=["_law_name"]) (fr:=[2, 10]) (ds:=(nm W).map .str) (bs:=[]) rfl (by rw [List.length_map]; omega) cm, zlv]
     rfl
   ·rw [decide_eq_false hz] at t
    exact ⟨nm W, .pl (zac (nm W)), .inl rfl, hne, hlW, fun x hx=>hx, if_f t rfl⟩
  obtain ⟨pl, s, hs, p0, p12, psub, ep⟩:=pool
  have q0:=Int.emod_nonneg r (show (pl.length : Int) ≠ 0 by omega)
  have q1:=Int.emod_lt_of_pos r (show (0 : Int) < (pl.length : Int) by omega)
  have hj : (r % (pl.length : Int)).toNat < pl.length:=by omega
  have len : ∀ (ks : List Str), eCB lenD (zab (eVar 11) aNil) [.pl (zbw cs), .pl (zac (nm W)), .pl (.dict (dS zac (ups W))), A3, A4, A5, .pl (.int (i : Int)), A7, .pl (.int r), .ac (zac ks), .pl (armD a), s] = some (vi (pl.length : Int)):=fun ks=>by
   obtain ⟨bs, hv⟩:=e_hd (env:=[.pl (zbw cs), .pl (zac (nm W)), .pl (.dict (dS zac (ups W))), A3, A4, A5, .pl (.int (i : Int)), A7, .pl (.int r), .ac (zac ks), .pl (armD a), s]) (i:=11) rfl hs
   have:=zrv (ds:=pl.map .str) hv
   rw [List.length_map] at this
   exact this
  have ix : eIxV 11 (eOp modD (eVar 8) (eCB lenD (zab (eVar 11) aNil))) [.pl (zbw cs), .pl (zac (nm W)), .pl (.dict (dS zac (ups W))), A3, A4, A5, .pl (.int (i : Int)), A7, .pl (.int r), .ac (zac ks), .pl (armD a), s] = some (vs pl[(r % (pl.length : Int)).toNat]):=by
   have hm : eOp modD (eVar 8) (eCB lenD (zab (eVar 11) aNil)) [.pl (zbw cs), .pl (zac (nm W)), .pl (.dict (dS zac (ups W))), A3, A4, A5, .pl (.int (i : Int)), A7, .pl (.int r), .ac (zac ks), .pl (armD a), s] = some (vi (((r % (pl.length : Int)).toNat : Nat) : Int)):=by
    rw [zii (i:=r) rfl (len ks) (by omega), Int.toNat_of_nonneg q0]
   have hg : (pl.map PyData.str)[(r % (pl.length : Int)).toNat]? = some (.str pl[(r % (pl.length : Int)).toNat]):=by rw [List.getElem?_map, List.getElem?_eq_getElem hj]; rfl
   rcases id hs with e | e
   ·exact zaaq (ds:=pl.map .str) (by rw [e]; rfl) hm hg
   ·exact zaqn (ds:=pl.map .str) (by rw [e]; rfl) hm hg
  generalize hx : pl[(r % (pl.length : Int)).toNat] = x at ix
  have hxm : x ∈ nm W:=psub x (by rw [← hx]; exact List.getElem_mem _)
  have ap : sApp 9 (eIxV 11 (eOp modD (eVar 8) (eCB lenD (zab (eVar 11) aNil)))) [.pl (zbw cs), .pl (zac (nm W)), .pl (.dict (dS zac (ups W))), A3, A4, A5, .pl (.int (i : Int)), A7, .pl (.int r), .ac (zac ks), .pl (armD a), s] = some (.nx [.pl (zbw cs), .pl (zac (nm W)), .pl (.dict (dS zac (ups W))), A3, A4, A5, .pl (.int (i : Int)), A7, .pl (.int r), .ac (zac (ks ++ [x])), .pl (armD a), s]):=by
   rw [zrw (ds:=ks.map .str) (d:=.str x) (fr:=false) rfl ix (by rw [List.length_map]; omega)]
   congr 2
   unfold zac
   simp
  have e8 : sSet 8 (eOp zde (eVar 8) (eCB lenD (zab (eVar 11) aNil))) [.pl (zbw cs), .pl (zac (nm W)), .pl (.dict (dS zac (ups W))), A3, A4, A5, .pl (.int (i : Int)), A7, .pl (.int r), .ac (zac (ks ++ [x])), .pl (armD a), s] = some (.nx [.pl (zbw cs), .pl (zac (nm W)), .pl (.dict (dS zac (ups W))), A3, A4, A5, .pl (.int (i : Int)), A7, .pl (.int (r / (pl.length : Int))), .ac (zac (ks ++ [x])), .pl (armD a), s]):=zbv (zky (i:=r) rfl (len _) (by omega) (by omega))
  obtain ⟨ks', r', s10', s11', lp, hk', hl'⟩:=zut h hi hcs (A3:=A3) (A4:=A4) (A5:=A5) (A7:=A7) (c0:=c0) hne c (ks ++ [x]) (r / (pl.length : Int)) (.pl (armD a)) s ⟨fun b hb=>hc.kinds b (List.mem_cons_of_mem _ hb), fun b hb=>hc.few b (List.mem_cons_of_mem _ hb), fun b hb=>hc.some b (List.mem_cons_of_mem _ hb)⟩ (Int.ediv_nonneg r0 (by omega)) (fun k hk2=>(List.mem_append.mp hk2).elim (hk k) fun z=>by rw [List.mem_singleton.mp z]; exact hxm) (by simp at hl ⊢; omega)
  refine ⟨ks', r', s10', s11', ?_, hk', by simp at hl' ⊢; omega⟩
  rw [List.map_cons]
  unfold forL
  show Option.bind (sSeq _ _ [.pl (zbw cs), .pl (zac (nm W)), .pl (.dict (dS zac (ups W))), A3, A4, A5, .pl (.int (i : Int)), A7, .pl (.int r), .ac (zac ks), .pl (armD a), s11]) _ = _
  rw [zaq e11 (zaq ep (zaq ap e8))]
  exact lp
end Bc
namespace Bc
open PySem L2
structure MadeOk (W : Web) (p : Nat) (ts : List Str) (rs : List (Str × List Str)) : Prop where
 kinds : ∀ r ∈ rs, ∀ k ∈ r.2, k ∈ nm W
 size : ∀ r ∈ rs, r.2.length = p
 unl : (rs.map (·.2)).Nodup
 sub : (rs.map (·.1)).Sublist ts
theorem zabl {W : Web} (h : WebOk W) (lo : ∀ x ∈ nm W, Low x) (hne : 0 < (nm W).length) {cs : List Int} {c : List Arm} {ts : List Str} (hcs : ∀ z ∈ cs, 0 ≤ z) (hle : ts.length ≤ cs.length) (hts : ts.length ≤ 16) (hc : CallIn (nm W) c) (hcl : c.length ≤ 3) :
  ∃ rs, ziy [zbw cs, zac (nm W), .dict (dS zac (ups W)), zan c, zac ts] = some (zau rs, true) ∧ MadeOk W c.length ts rs:=by
 have it : zmh (zab (eVar 4) aNil) [.pl (zbw cs), .pl (zac (nm W)), .pl (.dict (dS zac (ups W))), .pl (zan c), .pl (zac ts), .ac (.list []), .no, .no, .no, .no, .no, .no] = some (((List.range ts.length).zip ts).map fun z=>PyData.tuple [.int (z.1 : Nat), .str z.2], []):=by
  show some (zqg (ts.map .str), []) = _
  rw [zzr]
 obtain ⟨env', lp, rs, s6, s7, s8, s9, s10, s11, rfl, ok⟩:=zfv (enc:=fun z : Nat × Str=>PyData.tuple [.int (z.1 : Nat), .str z.2]) (g:=gT 2 (zay 6 (zay 7 zds))) (l:=(List.range ts.length).zip ts) (env:=[.pl (zbw cs), .pl (zac (nm W)), .pl (.dict (dS zac (ups W))), .pl (zan c), .pl (zac ts), .ac (.list []), .no, .no, .no, .no, .no, .no])
  (body:=(sSeq (sSet 8 (eOp zde (eIxV 0 (eVar 6)) (eC (.int 4))))
  (sSeq (sSet 9 (eLst aNil))
  (sSeq (sFor (zaw (eVar 3)) (gN 10)
  (sSeq (sSet 11 (eVar 1))
  (sSeq (sIf (zbh (eOp gtD (eOp modD (eIxV 0 (eVar 6)) (eC (.int 4))) (eC (.int 0)))) (sSet 11 (zdl ["_law_name"] [2, 10] (zaw (eVar 1)) (gN 0) (tTru (eCB (anyD fun bs=>bs.any id) (zab (zdl ["_law_one"] [0, 1] (zaw (zav 1 zci (zab (eVar 2) aNil))) (gN 0) zdh (eOp (inD false) (eVar 1) (zbq 2 (eVar 0)))) aNil))) (eVar 0))) sNil)
  (sSeq (sApp 9 (eIxV 11 (eOp modD (eVar 8) (eCB lenD (zab (eVar 11) aNil)))))
  (sSet 8 (eOp zde (eVar 8) (eCB lenD (zab (eVar 11) aNil))))))))
  (sIf (zbh (eOp (inS true) (eCB zib (zab (eVar 9) aNil)) (zdl ["_law_one", "_law_row"] [] (zaw (eVar 5)) (gT 2 (zay 0 (zay 1 zds))) zdh (eVar 1)))) (sApp 5 (eTup (zab (eVar 7) (zab (eCB zib (zab (eVar 9) aNil)) aNil)))) sNil)))))
  (fun pre env=>∃ (rs : List (Str × List Str)) (s6 s7 s8 s9 s10 s11 : Sl), env = [.pl (zbw cs), .pl (zac (nm W)), .pl (.dict (dS zac (ups W))), .pl (zan c), .pl (zac ts), .ac (zau rs), s6, s7, s8, s9, s10, s11] ∧ MadeOk W c.length (pre.map (·.2)) rs)
  ⟨[], _, _, _, _, _, _, rfl, fun r hr=>(nomatch hr), fun r hr=>(nomatch hr), List.nodup_nil, List.Sublist.refl _⟩ (by
   rintro pre ⟨i, t⟩ post env hp ⟨rs, s6, s7, s8, s9, s10, s11, rfl, ok⟩
   have hz : (i, t) ∈ (List.range ts.length).zip ts:=by rw [← hp]; simp
   have hi : i < cs.length:=by
    have:=List.mem_range.mp (List.of_mem_zip hz).1
    omega
   have hpl : pre.length ≤ 16:=by
    have:=congrArg List.length hp
    simp at this; omega
   have hrs : rs.length ≤ 16:=by
    have:=ok.sub.length_le
    simp at this; omega
   have e8 : sSet 8 (eOp zde (eIxV 0 (eVar 6)) (eC (.int 4))) [.pl (zbw cs), .pl (zac (nm W)), .pl (.dict (dS zac (ups W))), .pl (zan c), .pl (zac ts), .ac (zau rs), .pl (.int (i : Int)), .pl (.str t), s8, s9, s10, s11] = some (.nx [.pl (zbw cs), .pl (zac (nm W)), .pl (.dict (dS zac (ups W))), .pl (zan c), .pl (zac ts), .ac (zau rs), .pl (.int (i : Int)), .pl (.str t), .pl (.int (cs[i] / 4)), s9, s10, s11]) :=
    zbv (zky (i:=cs[i]) (zaaq (n:=i) rfl rfl (by rw [List.getElem?_map, List.getElem?_eq_getElem hi]; rfl)) rfl (by decide) (by decide))
   obtain ⟨ks, r', s10', s11', inn, hk, hkl⟩:=zut h hi hcs (A3:=.pl (zan c)) (A4:=.pl (zac ts)) (A5:=.ac (zau rs)) (A7:=.pl (.str t)) (c0:=c) hne c [] (cs[i] / 4) s10 s11 hc (Int.ediv_nonneg (hcs _ (List.getElem_mem _)) (by decide)) (fun k hk=>(nomatch hk)) (by simp; omega)
   have hkl : ks.length = c.length:=by simpa using hkl
   have lk : LowS ks:=zabk lo hk
   have tup : ∀ (E : DEnv), E[9]? = some (.ac (zac ks)) → eCB zib (zab (eVar 9) aNil) E = some ⟨zaj ks, false, [9]⟩:=fun E hE=>by
    unfold eCB
    rw [zdv (r:=⟨zac ks, false, [9]⟩) (by unfold eVar; rw [hE])]
    rfl
   have cm : zee (gT 2 (zay 0 (zay 1 zds))) zdh (eVar 1) [.no, .no] (rs.map zbt) = some (rs.map fun r=>zaj r.2):=zdu (enc:=zbt) (out:=fun r=>zaj r.2) fun r _=>⟨[.pl (.str r.1), .pl (zaj r.2)], rfl, rfl, ⟨zaj r.2, false, []⟩, rfl, rfl⟩
   have cm2:=zeo (own:=["_law_one", "_law_row"]) (fr:=[]) (fi:=zaw (eVar 5)) (g:=gT 2 (zay 0 (zay 1 zds))) (t:=zdh) (e:=eVar 1) (env:=[.pl (zbw cs), .pl (zac (nm W)), .pl (.dict (dS zac (ups W))), .pl (zan c), .pl (zac ts), .ac (zau rs), .pl (.int (i : Int)), .pl (.str t), .pl (.int r'), .ac (zac ks), s10', s11']) (ds:=rs.map zbt) (bs:=[5]) rfl (by rw [List.length_map]; omega) cm
   have em : (rs.map fun r=>zaj r.2) = (rs.map (·.2)).map zaj:=by rw [List.map_map]; rfl
   rw [em] at cm2
   have tin : zbh (eOp (inS true) (eCB zib (zab (eVar 9) aNil)) (zdl ["_law_one", "_law_row"] [] (zaw (eVar 5)) (gT 2 (zay 0 (zay 1 zds))) zdh (eVar 1))) [.pl (zbw cs), .pl (zac (nm W)), .pl (.dict (dS zac (ups W))), .pl (zan c), .pl (zac ts), .ac (zau rs), .pl (.int (i : Int)), .pl (.str t), .pl (.int r'), .ac (zac ks), s10', s11'] = some (!decide (ks ∈ rs.map (·.2))):=by
    refine zez ?_
    unfold eOp
    rw [tup _ rfl, cm2]
    simp only [Option.bind_some]
    rw [zaoo (neg:=true) (fun x hx=>by
     obtain ⟨r, hr, rfl⟩:=List.mem_map.mp hx
     exact zabk lo (ok.kinds r hr)) lk]
    rfl
   have itc : zaw (eVar 3) [.pl (zbw cs), .pl (zac (nm W)), .pl (.dict (dS zac (ups W))), .pl (zan c), .pl (zac ts), .ac (zau rs), .pl (.int (i : Int)), .pl (.str t), .pl (.int (cs[i] / 4)), .ac (zac []), s10, s11] = some (c.map armD, []):=rfl
   have hpm : (pre ++ [(i, t)]).map (·.2) = pre.map (·.2) ++ [t]:=by simp
   by_cases hin : ks ∈ rs.map (·.2)
   ·rw [decide_eq_true hin] at tin
    exact ⟨_, _, rfl, .inl (zaq e8 (zaq rfl (zaq (zic itc inn) (if_f tin rfl)))), rs, _, _, _, _, _, _, rfl, ok.kinds, ok.size, ok.unl, by rw [hpm]; exact ok.sub.trans (List.sublist_append_left _ _)⟩
   ·rw [decide_eq_false hin] at tin
    have et : eTup (zab (eVar 7) (zab (eCB zib (zab (eVar 9) aNil)) aNil)) [.pl (zbw cs), .pl (zac (nm W)), .pl (.dict (dS zac (ups W))), .pl (zan c), .pl (zac ts), .ac (zau rs), .pl (.int (i : Int)), .pl (.str t), .pl (.int r'), .ac (zac ks), s10', s11'] = some ⟨zbt (t, ks), false, [9]⟩:=by
     unfold eTup
     rw [zbm (r:=vs t) rfl (zdv (tup _ rfl))]
     rfl
    have ap : sApp 5 (eTup (zab (eVar 7) (zab (eCB zib (zab (eVar 9) aNil)) aNil))) [.pl (zbw cs), .pl (zac (nm W)), .pl (.dict (dS zac (ups W))), .pl (zan c), .pl (zac ts), .ac (zau rs), .pl (.int (i : Int)), .pl (.str t), .pl (.int r'), .ac (zac ks), s10', s11'] = some (.nx [.pl (zbw cs), .pl (zac (nm W)), .pl (.dict (dS zac (ups W))), .pl (zan c), .pl (zac ts), .ac (zau (rs ++ [(t, ks)])), .pl (.int (i : Int)), .pl (.str t), .pl (.int r'), .pl (zac ks), s10', s11']):=by
     rw [zabi (i:=5) (ds:=rs.map zbt) rfl et (by rw [List.length_map]; omega) (by decide)]
     congr 2
     unfold zau
     rw [List.map_append]
     rfl
    refine ⟨_, _, rfl, .inl (zaq e8 (zaq rfl (zaq (zic itc inn) (if_t tin ap)))), rs ++ [(t, ks)], _, _, _, _, _, _, rfl, fun r hr=>?_, fun r hr=>?_, ?_, ?_⟩
    ·rcases List.mem_append.mp hr with hr | hr
     ·exact ok.kinds r hr
     ·rw [List.mem_singleton.mp hr]; exact hk
    ·rcases List.mem_append.mp hr with hr | hr
     ·exact ok.size r hr
     ·rw [List.mem_singleton.mp hr]; exact hkl
    ·rw [List.map_append]
     exact List.nodup_append.mpr ⟨ok.unl, by simp, fun a ha b hb e=>hin (by
      have : b = ks:=by simpa using hb
      rw [← this, ← e]; exact ha)⟩
    ·rw [hpm, List.map_append]
     exact ok.sub.append (List.Sublist.refl _))
 have hs : ((List.range ts.length).zip ts).map (·.2) = ts:=by
  rw [show (fun z : Nat × Str=>z.2) = Prod.snd from rfl, List.map_snd_zip (by rw [List.length_range]; exact Nat.le_refl _)]
 rw [hs] at ok
 exact ⟨rs, zgp rfl (zaq rfl (zaq (zic it lp) rfl)), ok⟩
theorem MadeOk.rules {W : Web} {p : Nat} {ts : List Str} {rs : List (Str × List Str)} (m : MadeOk W p ts rs) (lo : ∀ x ∈ nm W, Low x) (hp : p ≤ 3) (hts : ts.length ≤ 16) : RulesOk W rs :=
 ⟨fun r hr=>zabk lo (m.kinds r hr), m.kinds, fun r hr=>by rw [m.size r hr]; omega, by have:=m.sub.length_le; simp at this; omega⟩
theorem MadeOk.names {W : Web} {p : Nat} {ts : List Str} {rs : List (Str × List Str)} (m : MadeOk W p ts rs) (nd : ts.Nodup) : (rs.map (·.1)).Nodup:=m.sub.nodup nd
theorem CallIn.ok {W : Web} {c : List Arm} (h : CallIn (nm W) c) (hl : c.length ≤ 3) : CallOk W c:=⟨by omega, fun a ha=>Nat.lt_of_le_of_lt (h.few a ha) (by decide), h.kinds⟩
end Bc
namespace Bc
open PySem L2
theorem zais {W : Web} (h : WebOk W) : ∀ (m : Nat) {x y : Str}, (nm W).idxOf y < m → y ∈ nm W → x ∈ up W y → x = y ∨ (nm W).idxOf x < (nm W).idxOf y
 | 0, _, _, hm, _, _=>absurd hm (Nat.not_lt_zero _)
 | m + 1, x, y, hm, hy, hx=>by
  rcases (zaho h hy).mp hx with rfl | ⟨e, he, hxe⟩
  ·exact .inl rfl
  ·obtain ⟨g1, g2⟩:=zamg h he
   rcases zais h m (by omega) g1 hxe with rfl | hlt
   ·exact .inr g2
   ·exact .inr (by omega)
theorem zaop {W : Web} (h : WebOk W) {x y : Str} (hx : x ∈ nm W) (hy : y ∈ nm W) (h1 : x ∈ up W y) (h2 : y ∈ up W x) : x = y:=by
 rcases zais h _ (Nat.lt_succ_self _) hy h1 with e | e
 ·exact e
 ·rcases zais h _ (Nat.lt_succ_self _) hx h2 with e' | e'
  ·exact e'.symm
  ·omega
noncomputable def geB (W : Web) (a b : List Str) : Bool:=(a.zip b).all fun z=>decide (z.2 ∈ up W z.1)
theorem zwl {W : Web} {a b : List Str} : zca W a b = (!(a == b) && geB W a b):=rfl
theorem zadl {W : Web} (h : WebOk W) : ∀ {a b c : List Str}, a.length = b.length → b.length = c.length → (∀ k ∈ a, k ∈ nm W) → geB W a b = true → geB W b c = true → geB W a c = true
 | [], _, _, _, _, _, _, _=>rfl
 | x :: a, [], _, e, _, _, _, _=>by cases e
 | x :: a, y :: b, [], _, e, _, _, _=>by cases e
 | x :: a, y :: b, z :: c, e1, e2, hk, h1, h2=>by
  unfold geB at h1 h2 ⊢
  simp only [List.zip_cons_cons, List.all_cons, Bool.and_eq_true, decide_eq_true_eq] at h1 h2 ⊢
  exact ⟨zacu h _ (Nat.lt_succ_self _) (hk x List.mem_cons_self) h1.1 h2.1, zadl h (by simpa using e1) (by simpa using e2) (fun k hk'=>hk k (List.mem_cons_of_mem _ hk')) h1.2 h2.2⟩
theorem zait {W : Web} (h : WebOk W) : ∀ {a b : List Str}, a.length = b.length → (∀ k ∈ a, k ∈ nm W) → (∀ k ∈ b, k ∈ nm W) → geB W a b = true → geB W b a = true → a = b
 | [], [], _, _, _, _, _=>rfl
 | [], y :: b, e, _, _, _, _=>by cases e
 | x :: a, [], e, _, _, _, _=>by cases e
 | x :: a, y :: b, e, ha, hb, h1, h2=>by
  unfold geB at h1 h2
  simp only [List.zip_cons_cons, List.all_cons, Bool.and_eq_true, decide_eq_true_eq] at h1 h2
  rw [zaop h (ha x List.mem_cons_self) (hb y List.mem_cons_self) h2.1 h1.1, zait h (by simpa using e) (fun k hk=>ha k (List.mem_cons_of_mem _ hk)) (fun k hk=>hb k (List.mem_cons_of_mem _ hk)) h1.2 h2.2]
noncomputable abbrev Rule:=Str × List Str
structure OrdOk (W : Web) (p : Nat) (S : List Rule) : Prop where
 kinds : ∀ r ∈ S, ∀ k ∈ r.2, k ∈ nm W
 size : ∀ r ∈ S, r.2.length = p
theorem OrdOk.filter {W : Web} {p : Nat} {S : List Rule} (h : OrdOk W p S) (f : Rule → Bool) : OrdOk W p (S.filter f) :=
 ⟨fun r hr=>h.kinds r (List.mem_filter.mp hr).1, fun r hr=>h.size r (List.mem_filter.mp hr).1⟩
theorem zwm {W : Web} {a : List Str} : zca W a a = false:=by rw [zwl, beq_self_eq_true]; rfl
theorem zabm {W : Web} (h : WebOk W) {p : Nat} {S : List Rule} (ok : OrdOk W p S) {a b c : Rule} (ha : a ∈ S) (hb : b ∈ S) (hc : c ∈ S) (h1 : zca W a.2 b.2 = true) (h2 : zca W b.2 c.2 = true) : zca W a.2 c.2 = true:=by
 rw [zwl, Bool.and_eq_true] at h1 h2 ⊢
 have g:=zadl h ((ok.size a ha).trans (ok.size b hb).symm) ((ok.size b hb).trans (ok.size c hc).symm) (ok.kinds a ha) h1.2 h2.2
 refine ⟨?_, g⟩
 rw [Bool.not_eq_true', beq_eq_false_iff_ne]
 intro e
 have g2:=h2.2
 rw [← e] at g2
 have:=zait h ((ok.size a ha).trans (ok.size b hb).symm) (ok.kinds a ha) (ok.kinds b hb) h1.2 g2
 have n1:=h1.1
 rw [this, beq_self_eq_true] at n1
 cases n1
theorem zol {α : Type} {p q : α → Bool} : ∀ {l : List α}, (∀ x ∈ l, p x = true → q x = true) → (∃ y ∈ l, q y = true ∧ p y = false) → (l.filter p).length < (l.filter q).length
 | [], _, ⟨y, hy, _⟩=>by cases hy
 | x :: l, h, ⟨y, hy, h1, h2⟩=>by
  have le : (l.filter p).length ≤ (l.filter q).length:=by
   have : ∀ {l : List α}, (∀ x ∈ l, p x = true → q x = true) → (l.filter p).length ≤ (l.filter q).length:=by
    intro l
    induction l with
    | nil=>intro _; exact Nat.le_refl _
    | cons x l ih =>
     intro h
     have i:=ih fun z hz=>h z (List.mem_cons_of_mem _ hz)
     rw [List.filter_cons, List.filter_cons]
     cases hp : p x with
     | true=>rw [h x List.mem_cons_self hp]; simpa using i
     | false =>
      cases q x
      ·simpa using i
      ·simp; omega
   exact this fun z hz=>h z (List.mem_cons_of_mem _ hz)
  rw [List.filter_cons, List.filter_cons]
  rcases List.mem_cons.mp hy with rfl | hy
  ·rw [h1, h2]; simp; omega
  ·have i:=zol (l:=l) (fun z hz=>h z (List.mem_cons_of_mem _ hz)) ⟨y, hy, h1, h2⟩
   cases hp : p x with
   | true=>rw [h x List.mem_cons_self hp]; simpa using i
   | false =>
    cases q x
    ·simpa using i
    ·simp; omega
theorem zek {W : Web} {S : List Rule} {r : Rule} : r ∈ zaz W S ↔ r ∈ S ∧ ∀ q ∈ S, zca W q.2 r.2 = false:=by
 unfold zaz
 rw [List.mem_filter, Bool.not_eq_true', List.any_eq_false]
 constructor
 ·rintro ⟨h1, h2⟩
  exact ⟨h1, fun q hq=>by simpa using h2 q hq⟩
 ·rintro ⟨h1, h2⟩
  exact ⟨h1, fun q hq=>by simpa using h2 q hq⟩
theorem zpj {W : Web} (h : WebOk W) {p : Nat} {S : List Rule} (ok : OrdOk W p S) : ∀ (n : Nat) (x : Rule), x ∈ S → (S.filter fun q=>zca W q.2 x.2).length < n → ∃ m ∈ zaz W S, m = x ∨ zca W m.2 x.2 = true
 | 0, _, _, hn=>absurd hn (Nat.not_lt_zero _)
 | n + 1, x, hx, hn=>by
  by_cases hm : ∃ y ∈ S, zca W y.2 x.2 = true
  ·obtain ⟨y, hy, hyx⟩:=hm
   have lt : (S.filter fun q=>zca W q.2 y.2).length < (S.filter fun q=>zca W q.2 x.2).length :=
    zol (fun z hz hzy=>zabm h ok hz hy hx hzy hyx) ⟨y, hy, hyx, zwm⟩
   obtain ⟨m, hm, e⟩:=zpj h ok n y hy (by omega)
   refine ⟨m, hm, .inr ?_⟩
   rcases e with rfl | e
   ·exact hyx
   ·exact zabm h ok (zek.mp hm).1 hy hx e hyx
  ·refine ⟨x, zek.mpr ⟨hx, fun q hq=>?_⟩, .inl rfl⟩
   cases hb : zca W q.2 x.2 with
   | false=>rfl
   | true=>exact absurd ⟨q, hq, hb⟩ hm
theorem zadm {W : Web} (h : WebOk W) {p : Nat} {S : List Rule} (ok : OrdOk W p S) (e : zaz W S = []) : S = []:=by
 cases S with
 | nil=>rfl
 | cons x S =>
  obtain ⟨m, hm, _⟩:=zpj h ok _ x List.mem_cons_self (Nat.lt_succ_self _)
  rw [e] at hm
  cases hm
theorem zaiu {W : Web} (h : WebOk W) {p : Nat} {S : List Rule} (ok : OrdOk W p S) {r : Rule} (e : zaz W S = [r]) {x : Rule} (hx : x ∈ S) : x = r ∨ zca W r.2 x.2 = true:=by
 obtain ⟨m, hm, q⟩:=zpj h ok _ x hx (Nat.lt_succ_self _)
 rw [e, List.mem_singleton] at hm
 subst hm
 exact q.imp Eq.symm id
theorem zmb {W : Web} {S : List Rule} {r : Rule} (e : zaz W S = [r]) : r ∈ S:=(zek.mp (by rw [e]; simp)).1
theorem zzt {W : Web} (h : WebOk W) {p : Nat} {S : List Rule} (ok : OrdOk W p S) {r : Rule} (e : zaz W S = [r]) : (S.filter fun x=>zca W r.2 x.2) = S.filter fun x=>!decide (x = r):=by
 refine List.filter_congr fun x hx=>?_
 by_cases hxr : x = r
 ·subst hxr
  rw [zwm]; simp
 ·rcases zaiu h ok e hx with z | z
  ·exact absurd z hxr
  ·rw [z]; simp [hxr]
noncomputable def chF (W : Web) : Nat → List Rule → List Rule × List Rule
 | 0, S=>([], S)
 | n + 1, S=>match zaz W S with
  | [r]=>let z:=chF W n (S.filter fun x=>zca W r.2 x.2); (r :: z.1, z.2)
  | _=>([], S)
noncomputable def laF (W : Web) : Nat → List Rule → List (List Rule)
 | 0, _=>[]
 | n + 1, S=>if S = [] then [] else zaz W S :: laF W n (S.filter fun x=>!decide (x ∈ zaz W S))
theorem zwn {W : Web} {S : List Rule} {r : Rule} (hr : r ∈ S) : (S.filter fun x=>zca W r.2 x.2).length < S.length:=by
 have:=zol (p:=fun x : Rule=>zca W r.2 x.2) (q:=fun _=>true) (l:=S) (fun _ _ _=>rfl) ⟨r, hr, rfl, zwm⟩
 rwa [List.filter_eq_self.mpr fun _ _=>rfl] at this
theorem zabn {W : Web} (h : WebOk W) {p : Nat} {S : List Rule} (ok : OrdOk W p S) (hs : S ≠ []) : (S.filter fun x=>!decide (x ∈ zaz W S)).length < S.length:=by
 obtain ⟨m, hm⟩:=List.exists_mem_of_ne_nil _ fun e=>hs (zadm h ok e)
 have:=zol (p:=fun x : Rule=>!decide (x ∈ zaz W S)) (q:=fun _=>true) (l:=S) (fun _ _ _=>rfl) ⟨m, (zek.mp hm).1, rfl, by simp [hm]⟩
 rwa [List.filter_eq_self.mpr fun _ _=>rfl] at this
end Bc
namespace Bc
open PySem L2
theorem zta : ∀ (l : List Rule), zuf (l.map zbt) = some (dS zaj l)
 | []=>rfl
 | p :: l=>by
  rw [List.map_cons]
  unfold zbt zuf
  simp only [keyD, Option.bind_some]
  rw [show l.map (fun p=>PyData.tuple [.str p.1, zaj p.2]) = l.map zbt from rfl, zta l]
  rfl
theorem zarr : ∀ (l : List Rule), (l.map (·.1)).Nodup → zjo [] (dS zaj l) = dS zaj l:=by
 refine zov (fun _=>rfl) fun l p ih h=>?_
 rw [List.map_append] at h
 have e : dS zaj (l ++ [p]) = dS zaj l ++ [(.str p.1, zaj p.2)]:=by unfold dS; rw [List.map_append]; rfl
 rw [e]
 unfold zjo at ih ⊢
 rw [List.foldl_append, ih (List.nodup_append.mp h).1, ← e]
 exact zrt zaj fun hm=>(List.nodup_append.mp h).2.2 p.1 hm p.1 (by simp) rfl
theorem zafd {l : List Rule} (h : (l.map (·.1)).Nodup) : zxr [zau l] = some (.dict (dS zaj l), true):=by
 unfold zxr zau
 simp only
 rw [zta, Option.map_some, zarr l h]
theorem zadn : ∀ {l : List Rule}, (l.map (·.1)).Nodup → ∀ {n : Str} {a b : List Str}, (n, a) ∈ l → (n, b) ∈ l → a = b
 | [], _, _, _, _, h, _=>by cases h
 | p :: l, nd, n, a, b, h1, h2=>by
  rw [List.map_cons, List.nodup_cons] at nd
  rcases List.mem_cons.mp h1 with e1 | h1
  ·rcases List.mem_cons.mp h2 with e2 | h2
   ·rw [← e1] at e2; exact (Prod.mk.inj e2).2.symm
   ·exact absurd (List.mem_map.mpr ⟨(n, b), h2, rfl⟩) (by rw [← e1] at nd; exact nd.1)
  ·rcases List.mem_cons.mp h2 with e2 | h2
   ·exact absurd (List.mem_map.mpr ⟨(n, a), h1, rfl⟩) (by rw [← e2] at nd; exact nd.1)
   ·exact zadn nd.2 h1 h2
theorem zado {l : List Rule} (nd : (l.map (·.1)).Nodup) {r : Rule} (h : r ∈ l) : l.lookup r.1 = some r.2:=by
 obtain ⟨ks, lk, hm⟩:=zhe (l:=l) (n:=r.1) (List.mem_map.mpr ⟨r, h, rfl⟩)
 rw [lk, zadn nd hm (show (r.1, r.2) ∈ l from h)]
theorem zom {l : List Rule} (nd : (l.map (·.1)).Nodup) (f : Rule → Bool) : ((l.filter f).map (·.1)).Nodup:=(List.Sublist.map _ List.filter_sublist).nodup nd
theorem zwo {W : Web} (h : WebOk W) {rs : List Rule} {c : List Arm} (hr : RulesOk W rs) (hc : CallOk W c) (nd : (rs.map (·.1)).Nodup) {r : Rule} (hm : r ∈ fitL W rs c) : zfx [zas W c.length rs, zan c, .str r.1] = some (zat ((zaz W ((fitL W rs c).filter fun x=>zca W r.2 x.2)).map (·.1)), false):=by
 have hl:=hr.len
 have fok:=hr.filter fun r=>fitB W r.2 c
 have fok : RulesOk W (fitL W rs c):=fok
 have ndf : ((fitL W rs c).map (·.1)).Nodup:=zom nd _
 have hin1 : r.1 ∈ rs.map (·.1):=List.mem_map.mpr ⟨r, (List.mem_filter.mp hm).1, rfl⟩
 have hin2 : r.1 ∈ (fitL W rs c).map (·.1):=List.mem_map.mpr ⟨r, hm, rfl⟩
 have t1 : zbh (eOp (inD true) (eVar 2) (zav 1 zcn (zab (eVar 5) aNil))) [.pl (zas W c.length rs), .pl (zan c), .pl (.str r.1), .pl (webD W), .pl (.int c.length), .pl (zau rs), .no, .no, .no] = some false:=by
  rw [zez (e_in (neg:=true) rfl (zbc (n:=1) (rs:=[⟨zau rs, false, []⟩]) (zdv rfl) rfl (zgn hl)))]
  simp only [if_true]
  rw [decide_eq_true hin1]; rfl
 have e6 : sSet 6 (zav 2 zcb (zab (eVar 0) (zab (eVar 1) aNil))) [.pl (zas W c.length rs), .pl (zan c), .pl (.str r.1), .pl (webD W), .pl (.int c.length), .pl (zau rs), .no, .no, .no] = some (.nx [.pl (zas W c.length rs), .pl (zan c), .pl (.str r.1), .pl (webD W), .pl (.int c.length), .pl (zau rs), .ac (zau (fitL W rs c)), .no, .no]) :=
  zbv (r:=⟨zau (fitL W rs c), true, []⟩) (zbc (n:=2) (rs:=[⟨zas W c.length rs, false, []⟩, ⟨zan c, false, []⟩]) rfl rfl (zfz h hr hc))
 have t2 : zbh (eOp (inD true) (eVar 2) (zav 1 zcn (zab (eVar 6) aNil))) [.pl (zas W c.length rs), .pl (zan c), .pl (.str r.1), .pl (webD W), .pl (.int c.length), .pl (zau rs), .ac (zau (fitL W rs c)), .no, .no] = some false:=by
  rw [zez (e_in (neg:=true) rfl (zbc (n:=1) (rs:=[⟨zau (fitL W rs c), false, [6]⟩]) (zdv rfl) rfl (zgn fok.len)))]
  simp only [if_true]
  rw [decide_eq_true hin2]; rfl
 have e7 : sSet 7 (zagm (eCB zxr (zab (eVar 6) aNil)) (eVar 2)) [.pl (zas W c.length rs), .pl (zan c), .pl (.str r.1), .pl (webD W), .pl (.int c.length), .pl (zau rs), .ac (zau (fitL W rs c)), .no, .no] = some (.nx [.pl (zas W c.length rs), .pl (zan c), .pl (.str r.1), .pl (webD W), .pl (.int c.length), .pl (zau rs), .pl (zau (fitL W rs c)), .pl (zaj r.2), .no]):=by
  refine zbv (r:=⟨zaj r.2, false, [6]⟩) ?_
  have ed : eCB zxr (zab (eVar 6) aNil) [.pl (zas W c.length rs), .pl (zan c), .pl (.str r.1), .pl (webD W), .pl (.int c.length), .pl (zau rs), .ac (zau (fitL W rs c)), .no, .no] = some ⟨.dict (dS zaj (fitL W rs c)), true, [6]⟩:=by
   unfold eCB
   rw [zdv (r:=⟨zau (fitL W rs c), false, [6]⟩) rfl]
   show ((zxr [zau (fitL W rs c)]).bind _) = _
   rw [zafd ndf]; rfl
  unfold zagm
  rw [ed]
  show ((some (Sum.inr r.1 : Key)).bind fun k=>(zmd (dS zaj (fitL W rs c)) k).bind _) = _
  rw [Option.bind_some, zkf, zado ndf hm]
  rfl
 have e8 : sSet 8 (zav 1 zdp (zab (eVar 3) aNil)) [.pl (zas W c.length rs), .pl (zan c), .pl (.str r.1), .pl (webD W), .pl (.int c.length), .pl (zau rs), .pl (zau (fitL W rs c)), .pl (zaj r.2), .no] = some (.nx [.pl (zas W c.length rs), .pl (zan c), .pl (.str r.1), .pl (webD W), .pl (.int c.length), .pl (zau rs), .pl (zau (fitL W rs c)), .pl (zaj r.2), .ac (.dict (dS zbi (ups W)))]) :=
  zbv (r:=⟨.dict (dS zbi (ups W)), true, []⟩) (zbc (n:=1) (rs:=[⟨webD W, false, []⟩]) rfl rfl (zlw h))
 have cm : zee (gN 0) (tTru (zav 3 zfc (zab (eVar 2) (zab (eVar 1) (zab (eIxV 0 (eC (.int 1))) aNil))))) (eVar 0) [.no, .pl (zaj r.2), .pl (.dict (dS zbi (ups W)))] ((fitL W rs c).map zbt) = some (((fitL W rs c).filter fun x=>zca W r.2 x.2).map zbt) :=
  zdt (enc:=zbt) (out:=zbt) (fun x=>zca W r.2 x.2) fun x hx=>⟨[.pl (zbt x), .pl (zaj r.2), .pl (.dict (dS zbi (ups W)))], rfl, zadi (n:=3) (rs:=[⟨.dict (dS zbi (ups W)), false, []⟩, ⟨zaj r.2, false, []⟩, ⟨zaj x.2, false, []⟩]) rfl rfl (zsx h (fok.low r hm) (fok.low x hx) (fok.kinds r hm) (fok.few r hm)), fun _=>⟨⟨zbt x, false, []⟩, rfl, rfl⟩⟩
 have cm2:=zeo (own:=["rule"]) (fr:=[7, 8]) (fi:=zaw (eVar 6)) (e:=eVar 0) (env:=[.pl (zas W c.length rs), .pl (zan c), .pl (.str r.1), .pl (webD W), .pl (.int c.length), .pl (zau rs), .pl (zau (fitL W rs c)), .pl (zaj r.2), .ac (.dict (dS zbi (ups W)))]) (ds:=(fitL W rs c).map zbt) (bs:=[]) rfl (by rw [List.length_map]; have:=fok.len; omega) cm
 exact zgp (env:=[.pl (zas W c.length rs), .pl (zan c), .pl (.str r.1), .no, .no, .no, .no, .no, .no]) rfl (zaq rfl (zaq (if_f t1 rfl) (zaq e6 (zaq (if_f t2 rfl) (zaq e7 (zaq e8 (zgw (zbc (n:=2) (zbm (a:=eVar 8) (r:=⟨.dict (dS zbi (ups W)), false, [8]⟩) rfl (zdv cm2)) rfl (ztw h (fok.filter _))))))))))
end Bc
namespace Bc
open PySem L2
structure Cl (W : Web) (fit S : List Rule) : Prop where
 is : ∃ f : Rule → Bool, S = fit.filter f
 down : ∀ r ∈ S, ∀ x ∈ fit, zca W r.2 x.2 = true → x ∈ S
theorem Cl.refl {W : Web} {fit : List Rule} : Cl W fit fit:=⟨⟨fun _=>true, (List.filter_eq_self.mpr fun _ _=>rfl).symm⟩, fun _ _ x hx _=>hx⟩
theorem Cl.sub {W : Web} {fit S : List Rule} (c : Cl W fit S) {x : Rule} (h : x ∈ S) : x ∈ fit:=by
 obtain ⟨f, rfl⟩:=c.is
 exact (List.mem_filter.mp h).1
theorem Cl.rest {W : Web} {fit S : List Rule} (c : Cl W fit S) {r : Rule} (hr : r ∈ S) : (fit.filter fun x=>zca W r.2 x.2) = S.filter fun x=>zca W r.2 x.2:=by
 have d:=c.down r hr
 obtain ⟨f, rfl⟩:=c.is
 rw [List.filter_filter]
 refine List.filter_congr fun x hx=>?_
 cases hn : zca W r.2 x.2 with
 | false=>rfl
 | true=>rw [(List.mem_filter.mp (d x hx hn)).2]; rfl
theorem Cl.next {W : Web} (h : WebOk W) {p : Nat} {fit S : List Rule} (ok : OrdOk W p fit) (c : Cl W fit S) {r : Rule} (hr : r ∈ S) : Cl W fit (S.filter fun x=>zca W r.2 x.2):=by
 refine ⟨⟨_, (c.rest hr).symm⟩, fun q hq x hx hn=>?_⟩
 have hq:=List.mem_filter.mp hq
 exact List.mem_filter.mpr ⟨c.down q hq.1 x hx hn, zabm h ok (c.sub hr) (c.sub hq.1) hx hq.2 hn⟩
noncomputable abbrev nms (S : List Rule) : List Str:=S.map (·.1)
noncomputable abbrev zadp : SF:=(sSeq (sApp 2 (eIxV 3 (eC (.int 1)))) (sSet 3 (zav 3 zfx (zab (eVar 0) (zab (eVar 1) (zab (eIxV 3 (eC (.int 1))) aNil))))))
noncomputable abbrev zzu : TF:=(zbh (eOp eqD (eIxV 3 (eC (.int 0))) (eC (.str "rule"))))
theorem zadq {W : Web} (h : WebOk W) {p : Nat} {rs : List Rule} {c : List Arm} (hr : RulesOk W rs) (hc : CallOk W c) (nd : (rs.map (·.1)).Nodup) (ok : OrdOk W p (fitL W rs c)) : ∀ (n : Nat) (S : List Rule) (acc : List Str) (fuel : Nat), Cl W (fitL W rs c) S → S.length ≤ n → n < fuel → acc.length + n < 1000 →
  zis zzu zadp fuel [.pl (zas W c.length rs), .pl (zan c), .ac (zac acc), .pl (zat (nms (zaz W S)))] = some (.nx [.pl (zas W c.length rs), .pl (zan c), .ac (zac (acc ++ nms (chF W n S).1)), .pl (zat (nms (zaz W (chF W n S).2)))])
 | n, S, acc, 0, _, _, hf, _=>absurd hf (Nat.not_lt_zero _)
 | n, S, acc, fuel + 1, cl, hn, hf, ha=>by
  have stop : ∀ {xs : List Str}, (∀ x, xs ≠ [x]) → zis zzu zadp (fuel + 1) [.pl (zas W c.length rs), .pl (zan c), .ac (zac acc), .pl (zat xs)] = some (.nx [.pl (zas W c.length rs), .pl (zan c), .ac (zac acc), .pl (zat xs)]):=fun {xs} hx=>by
   unfold zis
   have t : zzu [.pl (zas W c.length rs), .pl (zan c), .ac (zac acc), .pl (zat xs)] = some false:=by
    match xs, hx with
    | [], _=>rfl
    | [x], hx=>exact absurd rfl (hx x)
    | x :: y :: xs, _=>rfl
   rw [t]; rfl
  cases hS : zaz W S with
  | nil =>
   have e : chF W n S = ([], S):=by
    cases n with
    | zero=>rfl
    | succ n=>unfold chF; rw [hS]
   rw [e, hS]
   simp only [List.map_nil, List.append_nil]
   exact stop fun x z=>by cases z
  | cons r l =>
   cases l with
   | cons q l =>
    have e : chF W n S = ([], S):=by
     cases n with
     | zero=>rfl
     | succ n=>unfold chF; rw [hS]
    rw [e, hS]
    simp only [List.map_nil, List.append_nil]
    exact stop fun x z=>by cases z
   | nil =>
    have hrS : r ∈ S:=zmb hS
    cases n with
    | zero =>
     have : S = []:=List.length_eq_zero_iff.mp (by omega)
     rw [this] at hrS; cases hrS
    | succ n =>
     have e : chF W (n + 1) S = (r :: (chF W n (S.filter fun x=>zca W r.2 x.2)).1, (chF W n (S.filter fun x=>zca W r.2 x.2)).2):=by
      conv=>lhs; unfold chF
      rw [hS]
     have on:=zwo h hr hc nd (cl.sub hrS)
     rw [cl.rest hrS] at on
     have lt:=zwn (W:=W) hrS
     have ih:=zadq h hr hc nd ok n (S.filter fun x=>zca W r.2 x.2) (acc ++ [r.1]) fuel (cl.next h ok hrS) (by omega) (by omega) (by simp; omega)
     have b1 : sApp 2 (eIxV 3 (eC (.int 1))) [.pl (zas W c.length rs), .pl (zan c), .ac (zac acc), .pl (zat [r.1])] = some (.nx [.pl (zas W c.length rs), .pl (zan c), .ac (zac (acc ++ [r.1])), .pl (zat [r.1])]):=by
      rw [zrw (ds:=acc.map .str) (d:=.str r.1) (fr:=false) rfl rfl (by rw [List.length_map]; omega)]
      congr 2
      unfold zac
      simp
     have b2 : sSet 3 (zav 3 zfx (zab (eVar 0) (zab (eVar 1) (zab (eIxV 3 (eC (.int 1))) aNil)))) [.pl (zas W c.length rs), .pl (zan c), .ac (zac (acc ++ [r.1])), .pl (zat [r.1])] = some (.nx [.pl (zas W c.length rs), .pl (zan c), .ac (zac (acc ++ [r.1])), .pl (zat (nms (zaz W (S.filter fun x=>zca W r.2 x.2))))]):=by
      rw [zbv (zbc (n:=3) (rs:=[⟨zas W c.length rs, false, []⟩, ⟨zan c, false, []⟩, vs r.1]) rfl rfl on)]
      congr 2
      have : bsOf (zat (nms (zaz W (S.filter fun x=>zca W r.2 x.2)))) (bss [⟨zas W c.length rs, false, []⟩, ⟨zan c, false, []⟩, vs r.1]) = []:=by unfold bsOf; split <;> rfl
      rw [this]
      rfl
     rw [e]
     conv=>lhs; unfold zis
     have t : zzu [.pl (zas W c.length rs), .pl (zan c), .ac (zac acc), .pl (zat [r.1])] = some true:=rfl
     show Option.bind (zzu [.pl (zas W c.length rs), .pl (zan c), .ac (zac acc), .pl (zat [r.1])]) _ = _
     rw [t, Option.bind_some, if_pos rfl]
     show Option.bind (zadp [.pl (zas W c.length rs), .pl (zan c), .ac (zac acc), .pl (zat [r.1])]) _ = _
     rw [show zadp [.pl (zas W c.length rs), .pl (zan c), .ac (zac acc), .pl (zat [r.1])] = _ from zaq b1 b2, Option.bind_some]
     simp only
     rw [ih]
     simp
theorem zaiv {W : Web} (h : WebOk W) {p : Nat} {rs : List Rule} {c : List Arm} (hr : RulesOk W rs) (hc : CallOk W c) (nd : (rs.map (·.1)).Nodup) (ok : OrdOk W p (fitL W rs c)) : zsf [zas W c.length rs, zan c] = some (.tuple [zac (nms (chF W 300 (fitL W rs c)).1), zat (nms (zaz W (chF W 300 (fitL W rs c)).2))], false):=by
 have hl : (fitL W rs c).length ≤ 300:=Nat.le_trans (List.length_filter_le _ _) (by have:=hr.len; omega)
 have w:=zadq h hr hc nd ok 300 (fitL W rs c) [] 1000 .refl hl (by decide) (by decide)
 rw [List.nil_append] at w
 have e3 : sSet 3 (zav 2 zdk (zab (eVar 0) (zab (eVar 1) aNil))) [.pl (zas W c.length rs), .pl (zan c), .ac (zac []), .no] = some (.nx [.pl (zas W c.length rs), .pl (zan c), .ac (zac []), .pl (zat (nms (zaz W (fitL W rs c))))]):=by
  rw [zbv (zbc (n:=2) (rs:=[⟨zas W c.length rs, false, []⟩, ⟨zan c, false, []⟩]) rfl rfl (znd h hr hc))]
  congr 2
  have : bsOf (zat (nms (zaz W (fitL W rs c)))) (bss [⟨zas W c.length rs, false, []⟩, ⟨zan c, false, []⟩]) = []:=by unfold bsOf; split <;> rfl
  rw [this]
  rfl
 exact zgp (env:=[.pl (zas W c.length rs), .pl (zan c), .no, .no]) rfl (zaq rfl (zaq e3 (zaq w (zgw (bs:=[2]) rfl))))
end Bc
namespace Bc
open PySem L2
theorem ztb : ∀ (l : List Rule), (∀ r ∈ l, PyData.strOk r.1 = true ∧ LowS r.2) → PyData.canLayAll0 (l.map zbt) = true ∧ PyData.depthAll (l.map zbt) ≤ 2
 | [], _=>⟨rfl, Nat.zero_le _⟩
 | p :: r, h=>by
  obtain ⟨h1, h2⟩:=ztb r fun q hq=>h q (List.mem_cons_of_mem _ hq)
  obtain ⟨g1, g2⟩:=h p List.mem_cons_self
  obtain ⟨l1, l2⟩:=zjh p.2 g2
  rw [List.map_cons]
  constructor
  ·show ((PyData.strOk p.1 && (PyData.canLayAll0 (p.2.map .str) && true)) && PyData.canLayAll0 (r.map zbt)) = true
   rw [g1, l1, h1]; rfl
  ·show max (max 0 (max (PyData.depthAll (p.2.map .str) + 1) 0) + 1) (PyData.depthAll (r.map zbt)) ≤ 2
   rw [l2]
   omega
theorem zzv {l : List Rule} (h : ∀ r ∈ l, PyData.strOk r.1 = true ∧ LowS r.2) : SeqAt.shaped (zau l) = true:=by
 obtain ⟨h1, h2⟩:=ztb l h
 unfold SeqAt.shaped zau
 rw [Bool.and_eq_true]
 refine ⟨h1, decide_eq_true ?_⟩
 show PyData.depthAll (l.map zbt) + 1 ≤ 64
 omega
theorem zabo {r : Rule} (h : PyData.strOk r.1 = true ∧ LowS r.2) : SeqAt.shaped (zbt r) = true:=by
 obtain ⟨h1, h2⟩:=zjh r.2 h.2
 unfold SeqAt.shaped zbt zaj
 rw [Bool.and_eq_true]
 refine ⟨?_, decide_eq_true ?_⟩
 ·show (PyData.strOk r.1 && (PyData.canLayAll0 (r.2.map .str) && true)) = true
  rw [h.1, h1]; rfl
 ·show max 0 (max (PyData.depthAll (r.2.map .str) + 1) 0) + 1 ≤ 64
  rw [h2]; omega
theorem zadr (a b : Rule) : PyData.eqv (zbt a) (zbt b) = decide (a = b):=by
 unfold zbt zaj
 show ((a.1 == b.1) && ((PyData.eqvAll (a.2.map .str) (b.2.map .str)) && true)) = _
 rw [zqy, Bool.and_true, Bool.eq_iff_iff, Bool.and_eq_true, beq_iff_eq, beq_iff_eq, decide_eq_true_iff]
 exact ⟨fun ⟨h1, h2⟩=>Prod.ext h1 h2, fun h=>by rw [h]; exact ⟨rfl, rfl⟩⟩
theorem zalk {neg : Bool} {l : List Rule} {r : Rule} (h : ∀ r ∈ l, PyData.strOk r.1 = true ∧ LowS r.2) (hr : PyData.strOk r.1 = true ∧ LowS r.2) : inS neg (zbt r) (zau l) = some (.bool (if neg then !decide (r ∈ l) else decide (r ∈ l)), false):=by
 unfold inS
 rw [show zhv (zau l) = some (l.map zbt) from rfl]
 simp only
 rw [if_pos ⟨zabo hr, zzv h⟩]
 have : ((l.map zbt).any fun e=>PyData.eqv e (zbt r)) = decide (r ∈ l):=by
  rw [List.any_map, Bool.eq_iff_iff, List.any_eq_true, decide_eq_true_iff]
  constructor
  ·rintro ⟨y, hy, e⟩
   have e : PyData.eqv (zbt y) (zbt r) = true:=e
   rw [zadr, decide_eq_true_iff] at e
   rw [← e]; exact hy
  ·intro hm
   refine ⟨r, hm, ?_⟩
   show PyData.eqv (zbt r) (zbt r) = true
   rw [zadr]; simp
 rw [this]
noncomputable def zcy (l : List (List Str)) : PyData:=.list (l.map zac)
noncomputable abbrev zamj : SF:=(sSeq (sSet 5 (zav 2 zdx (zab (eVar 3) (zab (eVar 2) aNil))))
  (sSeq (sApp 4 (zav 1 zcn (zab (eVar 5) aNil)))
  (sSet 2 (zdl ["rule"] [5] (zaw (eVar 2)) (gN 0) (zbh (eOp (inS true) (eVar 0) (eVar 1))) (eVar 0)))))
theorem zads {W : Web} (h : WebOk W) {p : Nat} {A B : Sl} : ∀ (n : Nat) (S : List Rule) (acc : List (List Str)) (fuel : Nat) (s3 s5 : Sl), Hd (.dict (dS zbi (ups W))) s3 → RulesOk W S → (∀ r ∈ S, PyData.strOk r.1 = true) → OrdOk W p S → S.length ≤ n → n < fuel → acc.length + n < 1000 →
  ∃ s2' s3' s5', zis (tTru (eVar 2)) zamj fuel [A, B, .ac (zau S), s3, .ac (zcy acc), s5] = some (.nx [A, B, s2', s3', .ac (zcy (acc ++ (laF W n S).map nms)), s5'])
 | n, S, acc, 0, s3, s5, _, _, _, _, _, hf, _=>absurd hf (Nat.not_lt_zero _)
 | n, S, acc, fuel + 1, s3, s5, h3, hr, hs, ok, hn, hf, ha=>by
  unfold zis
  cases hS : S with
  | nil =>
   have e : laF W n [] = []:=by
    cases n with
    | zero=>rfl
    | succ n=>rfl
   rw [e]
   exact ⟨_, _, _, by rw [List.map_nil, List.append_nil]; rfl⟩
  | cons x T =>
   rw [← hS]
   have hSn : S ≠ []:=by rw [hS]; exact List.cons_ne_nil _ _
   cases n with
   | zero=>exact absurd (List.length_eq_zero_iff.mp (by omega)) hSn
   | succ n =>
    have t : tTru (eVar 2) [A, B, .ac (zau S), s3, .ac (zcy acc), s5] = some true:=by rw [hS]; rfl
    rw [t, Option.bind_some, if_pos rfl]
    have hl:=hr.len
    have e : laF W (n + 1) S = zaz W S :: laF W n (S.filter fun x=>!decide (x ∈ zaz W S)):=by
     conv=>lhs; unfold laF
     rw [if_neg hSn]
    have gn:=zlq h hr
    have b5 : sSet 5 (zav 2 zdx (zab (eVar 3) (zab (eVar 2) aNil))) [A, B, .ac (zau S), s3, .ac (zcy acc), s5] = some (.nx [A, B, .pl (zau S), .pl (.dict (dS zbi (ups W))), .ac (zcy acc), .ac (zau (zaz W S))]):=by
     rcases h3 with rfl | rfl
     ·exact zbv (r:=⟨zau (zaz W S), true, [2]⟩) (zbc (n:=2) (rs:=[⟨.dict (dS zbi (ups W)), false, []⟩, ⟨zau S, false, [2]⟩]) rfl rfl gn)
     ·exact zbv (r:=⟨zau (zaz W S), true, [3, 2]⟩) (zbc (n:=2) (rs:=[⟨.dict (dS zbi (ups W)), false, [3]⟩, ⟨zau S, false, [2]⟩]) rfl rfl gn)
    have b4 : sApp 4 (zav 1 zcn (zab (eVar 5) aNil)) [A, B, .pl (zau S), .pl (.dict (dS zbi (ups W))), .ac (zcy acc), .ac (zau (zaz W S))] = some (.nx [A, B, .pl (zau S), .pl (.dict (dS zbi (ups W))), .ac (zcy (acc ++ [nms (zaz W S)])), .pl (zau (zaz W S))]):=by
     rw [zabi (i:=4) (ds:=acc.map zac) (d:=zac (nms (zaz W S))) (fr:=true) (bs:=[5]) rfl (zbc (n:=1) (rs:=[⟨zau (zaz W S), false, [5]⟩]) (zdv rfl) rfl (zgn (hr.filter _).len)) (by rw [List.length_map]; omega) (by decide)]
     congr 2
     unfold zcy
     rw [List.map_append]
     rfl
    have low : ∀ r ∈ S, PyData.strOk r.1 = true ∧ LowS r.2:=fun r hr'=>⟨hs r hr', hr.low r hr'⟩
    have cm : zee (gN 0) (zbh (eOp (inS true) (eVar 0) (eVar 1))) (eVar 0) [.no, .pl (zau (zaz W S))] (S.map zbt) = some ((S.filter fun x=>!decide (x ∈ zaz W S)).map zbt):=by
     refine zdt (enc:=zbt) (out:=zbt) (fun x=>!decide (x ∈ zaz W S)) fun x hx=>⟨[.pl (zbt x), .pl (zau (zaz W S))], rfl, zez ?_, fun _=>⟨⟨zbt x, false, []⟩, rfl, rfl⟩⟩
     show ((inS true (zbt x) (zau (zaz W S))).bind fun z=>some (⟨z.1, z.2, bsOf z.1 ([] ++ [])⟩ : Val)) = _
     rw [zalk (neg:=true) (fun r hr'=>low r (zek.mp hr').1) (low x hx)]
     rfl
    have b2 : sSet 2 (zdl ["rule"] [5] (zaw (eVar 2)) (gN 0) (zbh (eOp (inS true) (eVar 0) (eVar 1))) (eVar 0)) [A, B, .pl (zau S), .pl (.dict (dS zbi (ups W))), .ac (zcy (acc ++ [nms (zaz W S)])), .pl (zau (zaz W S))] = some (.nx [A, B, .ac (zau (S.filter fun x=>!decide (x ∈ zaz W S))), .pl (.dict (dS zbi (ups W))), .ac (zcy (acc ++ [nms (zaz W S)])), .pl (zau (zaz W S))]):=by
     refine zbv (r:=⟨zau (S.filter fun x=>!decide (x ∈ zaz W S)), true, []⟩) ?_
     rw [zeo (own:=["rule"]) (fr:=[5]) (fi:=zaw (eVar 2)) (ds:=S.map zbt) (bs:=[]) rfl (by rw [List.length_map]; omega) cm]
     have : (if zft ((S.filter fun x=>!decide (x ∈ zaz W S)).map zbt) = true then ([] : List Nat) else [] ++ capA [5] [A, B, .pl (zau S), .pl (.dict (dS zbi (ups W))), .ac (zcy (acc ++ [nms (zaz W S)])), .pl (zau (zaz W S))]) = []:=by split <;> rfl
     rw [this]
     rfl
    have lt:=zabn h ok hSn
    obtain ⟨s2', s3', s5', ih⟩:=zads h (A:=A) (B:=B) n (S.filter fun x=>!decide (x ∈ zaz W S)) (acc ++ [nms (zaz W S)]) fuel (.pl (.dict (dS zbi (ups W)))) (.pl (zau (zaz W S))) (.inl rfl) (hr.filter _) (fun r hr'=>hs r (List.mem_filter.mp hr').1) (ok.filter _) (Nat.le_of_lt_succ (Nat.lt_of_lt_of_le lt hn)) (by omega) (by simp; omega)
    refine ⟨s2', s3', s5', ?_⟩
    rw [show zamj [A, B, .ac (zau S), s3, .ac (zcy acc), s5] = _ from zaq b5 (zaq b4 b2), Option.bind_some]
    simp only
    rw [ih, e]
    simp
theorem zadt {W : Web} (h : WebOk W) {p : Nat} {rs : List Rule} {c : List Arm} (hr : RulesOk W rs) (hc : CallOk W c) (hs : ∀ r ∈ rs, PyData.strOk r.1 = true) (ok : OrdOk W p (fitL W rs c)) : zfy [zas W c.length rs, zan c] = some (zcy ((laF W 300 (fitL W rs c)).map nms), true):=by
 have hl : (fitL W rs c).length ≤ 300:=Nat.le_trans (List.length_filter_le _ _) (by have:=hr.len; omega)
 obtain ⟨s2, s3, s5, w⟩:=zads h (A:=.pl (zas W c.length rs)) (B:=.pl (zan c)) 300 (fitL W rs c) [] 1000 (.ac (.dict (dS zbi (ups W)))) .no (.inr rfl) (hr.filter _) (fun r hr'=>hs r (List.mem_filter.mp hr').1) ok hl (by decide) (by decide)
 have e2 : sSet 2 (zav 2 zcb (zab (eVar 0) (zab (eVar 1) aNil))) [.pl (zas W c.length rs), .pl (zan c), .no, .no, .no, .no] = some (.nx [.pl (zas W c.length rs), .pl (zan c), .ac (zau (fitL W rs c)), .no, .no, .no]) :=
  zbv (r:=⟨zau (fitL W rs c), true, []⟩) (zbc (n:=2) (rs:=[⟨zas W c.length rs, false, []⟩, ⟨zan c, false, []⟩]) rfl rfl (zfz h hr hc))
 have e3 : sSet 3 (zav 1 zdp (zab (eIxV 0 (eC (.int 0))) aNil)) [.pl (zas W c.length rs), .pl (zan c), .ac (zau (fitL W rs c)), .no, .no, .no] = some (.nx [.pl (zas W c.length rs), .pl (zan c), .ac (zau (fitL W rs c)), .ac (.dict (dS zbi (ups W))), .no, .no]) :=
  zbv (r:=⟨.dict (dS zbi (ups W)), true, []⟩) (zbc (n:=1) (rs:=[⟨webD W, false, []⟩]) rfl rfl (zlw h))
 exact zgp (env:=[.pl (zas W c.length rs), .pl (zan c), .no, .no, .no, .no]) rfl (zaq e2 (zaq e3 (zaq rfl (zaq w rfl))))
end Bc
namespace Bc
open PySem L2
theorem zaiw (a : List Str) : zan (a.map Arm.one) = zaj a:=by
 unfold zan zaj
 rw [List.map_map]
 rfl
theorem zadu {W : Web} : ∀ (a b : List Str), fitB W b (a.map Arm.one) = geB W a b
 | [], b=>by unfold fitB geB; simp
 | x :: a, []=>by unfold fitB geB; simp
 | x :: a, y :: b=>by
  have ih:=zadu (W:=W) a b
  unfold fitB geB at ih ⊢
  rw [List.map_cons, List.zip_cons_cons, List.zip_cons_cons, List.all_cons, List.all_cons, ih]
  congr 1
  rw [decide_eq_decide, zwj]
  show (∃ n ∈ [x], y ∈ up W n) ↔ y ∈ up W x
  simp
theorem zqd {W : Web} (h : WebOk W) {a b : List Str} (la : LowS a) (lb : LowS b) (ha : ∀ k ∈ a, k ∈ nm W) (hl : a.length < 300) (hle : b.length ≤ a.length) : zbz [.dict (dS zac (ups W)), zaj a, zaj b] = some (.bool (zca W a b), false):=by
 have hc : CallOk W (a.map Arm.one):=⟨by rw [List.length_map]; exact hl, fun z hz=>by obtain ⟨x, _, rfl⟩:=List.mem_map.mp hz; show 1 < 300; decide, fun z hz n hn=>by
  obtain ⟨x, hx, rfl⟩:=List.mem_map.mp hz
  have : n = x:=by simpa [Arm.parts] using hn
  rw [this]; exact ha x hx⟩
 have gf:=zus h (ks:=b) hc (by rw [List.length_map]; exact hle)
 rw [zaiw, zadu] at gf
 have e1 : eOp neD (eVar 1) (eVar 2) [.pl (.dict (dS zac (ups W))), .pl (zaj a), .pl (zaj b)] = some (vb (!(a == b))):=by
  show ((neD (zaj a) (zaj b)).bind fun z=>some (⟨z.1, z.2, bsOf z.1 ([] ++ [])⟩ : Val)) = _
  rw [zadh la lb]; rfl
 have e2 : zav 3 zgf (zab (eVar 0) (zab (eVar 2) (zab (eVar 1) aNil))) [.pl (.dict (dS zac (ups W))), .pl (zaj a), .pl (zaj b)] = some (vb (geB W a b)):=zbc (n:=3) (rs:=[⟨.dict (dS zac (ups W)), false, []⟩, ⟨zaj b, false, []⟩, ⟨zaj a, false, []⟩]) rfl rfl gf
 refine zgp rfl (zgw (bs:=[]) ?_)
 show eAnd (eOp neD (eVar 1) (eVar 2)) _ [.pl (.dict (dS zac (ups W))), .pl (zaj a), .pl (zaj b)] = _
 unfold eAnd
 rw [e1, e2, zwl]
 cases a == b <;> rfl
noncomputable def outN (ns : List Str) (rs : List Rule) : List Rule:=rs.filter fun r=>!decide (r.1 ∈ ns)
theorem zkj {W : Web} {p : Nat} {rs : List Rule} {ns : List Str} (hl : rs.length < 300) : zbx [zas W p rs, zac ns] = some (zas W p (outN ns rs), false):=by
 have cm : zee (gN 0) (zbh (eOp (inD true) (eIxV 0 (eC (.int 0))) (eVar 1))) (eVar 0) [.no, .pl (zac ns)] (rs.map zbt) = some ((outN ns rs).map zbt) :=
  zdt (enc:=zbt) (out:=zbt) (fun r=>!decide (r.1 ∈ ns)) fun r _=>⟨[.pl (zbt r), .pl (zac ns)], rfl, zez (e_in (neg:=true) (x:=r.1) (fr:=false) (bs:=[]) rfl rfl), fun _=>⟨⟨zbt r, false, []⟩, rfl, rfl⟩⟩
 have c2:=zeo (own:=["_law_rule"]) (fr:=[1]) (fi:=zaw (eIxV 0 (eC (.int 2)))) (env:=[.pl (zas W p rs), .pl (zac ns)]) (e:=eVar 0) (ds:=rs.map zbt) (bs:=[]) rfl (by rw [List.length_map]; omega) cm
 refine zgp rfl (zgw (f:=eTup (zab (eIxV 0 (eC (.int 0))) (zab (eIxV 0 (eC (.int 1))) (zab _ aNil)))) (bs:=[]) ?_)
 ·show eTup _ [.pl (zas W p rs), .pl (zac ns)] = _
  unfold eTup
  rw [zbm (r:=⟨webD W, false, []⟩) rfl (zbm (r:=vi p) rfl (zdv c2))]
  have : (if zft ((outN ns rs).map zbt) = true then ([] : List Nat) else [] ++ capA [1] [.pl (zas W p rs), .pl (zac ns)]) = []:=by split <;> rfl
  rw [this]
  rfl
theorem zaix {W : Web} {ns : List Str} {rs : List Rule} {c : List Arm} : fitL W (outN ns rs) c = outN ns (fitL W rs c):=by
 unfold fitL outN
 rw [List.filter_filter, List.filter_filter]
 exact List.filter_congr fun x _=>Bool.and_comm _ _
theorem zabp {ns ms : List Str} {rs : List Rule} : outN ms (outN ns rs) = outN (ns ++ ms) rs:=by
 unfold outN
 rw [List.filter_filter]
 refine List.filter_congr fun x _=>?_
 simp only [List.mem_append, Bool.decide_or, Bool.not_or]
 exact Bool.and_comm _ _
theorem zabq {rs : List Rule} : outN [] rs = rs:=List.filter_eq_self.mpr fun _ _=>by simp
theorem zaoq {S fit : List Rule} (nd : (fit.map (·.1)).Nodup) (hs : ∀ x ∈ S, x ∈ fit) {r : Rule} (hr : r ∈ fit) : outN [r.1] S = S.filter fun x=>!decide (x = r):=by
 refine List.filter_congr fun x hx=>?_
 congr 1
 rw [decide_eq_decide]
 constructor
 ·intro e
  have e : x.1 = r.1:=by simpa using e
  have h1 : (r.1, x.2) ∈ fit:=by rw [← e]; exact hs x hx
  have:=zadn nd h1 (show (r.1, r.2) ∈ fit from hr)
  exact Prod.ext e this
 ·rintro rfl; simp
theorem zfn {xs : List Str} (h : LowS xs) : SeqAt.shaped (zat xs) = true:=by
 have w1 : PyData.strOk "none" = true:=by decide +kernel
 have w2 : PyData.strOk "rule" = true:=by decide +kernel
 have w3 : PyData.strOk "quarrel" = true:=by decide +kernel
 match xs, h with
 | [], _=>decide +kernel
 | [x], h =>
  unfold SeqAt.shaped zat
  rw [Bool.and_eq_true]
  refine ⟨?_, decide_eq_true (by show max 0 (max 0 0) + 1 ≤ 64; decide)⟩
  show (PyData.strOk "rule" && (PyData.strOk x && true)) = true
  rw [w2, h x List.mem_cons_self]; rfl
 | x :: y :: xs, h =>
  obtain ⟨h1, h2⟩:=zjh (x :: y :: xs) h
  unfold SeqAt.shaped zat zaj
  rw [Bool.and_eq_true]
  refine ⟨?_, decide_eq_true ?_⟩
  ·show (PyData.strOk "quarrel" && (PyData.canLayAll0 ((x :: y :: xs).map .str) && true)) = true
   rw [w3, h1]; rfl
  ·show max 0 (max (PyData.depthAll ((x :: y :: xs).map .str) + 1) 0) + 1 ≤ 64
   rw [h2]; decide
theorem zall {d : PyData} (s : SeqAt.shaped d = true) : eqD d d = some (.bool true, false):=by
 unfold eqD eqOk
 rw [s, Bool.and_self, Bool.or_true, if_pos rfl, PySem.SeqAt.eqv_refl _ (SeqAt.canLay_of_shaped s)]
theorem zalm {d : PyData} (s : SeqAt.shaped d = true) : neD d d = some (.bool false, false):=by
 unfold neD eqOk
 rw [s, Bool.and_self, Bool.or_true, if_pos rfl, PySem.SeqAt.eqv_refl _ (SeqAt.canLay_of_shaped s)]
 rfl
theorem zaiy {a b : EF} {env : DEnv} {d : PyData} {f1 f2 : Bool} {b1 b2 : List Nat} (ha : a env = some ⟨d, f1, b1⟩) (hb : b env = some ⟨d, f2, b2⟩) (s : SeqAt.shaped d = true) : zbh (eOp neD a b) env = some false:=by
 refine zez ?_
 unfold eOp; rw [ha, hb]
 simp only [Option.bind_some]
 rw [zalm s]; rfl
theorem zaln {a b : EF} {env : DEnv} {d : PyData} {f1 f2 : Bool} {b1 b2 : List Nat} (ha : a env = some ⟨d, f1, b1⟩) (hb : b env = some ⟨d, f2, b2⟩) (s : SeqAt.shaped d = true) : eOp eqD a b env = some (vb true):=by
 unfold eOp; rw [ha, hb]
 simp only [Option.bind_some]
 rw [zall s]; rfl
theorem zabr {W : Web} : ∀ (n : Nat) (S : List Rule), S.length ≤ n → ∀ r, zaz W (chF W n S).2 ≠ [r]
 | 0, S, hn, r, e=>by
  have : S = []:=List.length_eq_zero_iff.mp (by omega)
  subst this
  cases e
 | n + 1, S, hn, r, e=>by
  unfold chF at e
  split at e
  ·rename_i q hq
   have lt:=zwn (W:=W) (zmb hq)
   exact zabr n _ (by omega) r e
  ·rename_i hq
   exact hq r e
end Bc
namespace Bc
open PySem L2
structure Bk (W : Web) (rs : List Rule) (c : List Arm) : Prop where
 web : WebOk W
 rul : RulesOk W rs
 cal : CallOk W c
 ord : OrdOk W c.length rs
 nd : (rs.map (·.1)).Nodup
 low : ∀ r ∈ rs, PyData.strOk r.1 = true
theorem Bk.out {W : Web} {rs : List Rule} {c : List Arm} (b : Bk W rs c) (ns : List Str) : Bk W (outN ns rs) c :=
 ⟨b.web, b.rul.filter _, b.cal, b.ord.filter _, zom b.nd _, fun r hr=>b.low r (List.mem_filter.mp hr).1⟩
theorem Bk.lows {W : Web} {rs : List Rule} {c : List Arm} (b : Bk W rs c) {S : List Rule} (hs : ∀ x ∈ S, x ∈ rs) : LowS (nms S):=fun k hk=>by
 obtain ⟨r, hr, rfl⟩:=List.mem_map.mp hk
 exact b.low r (hs r hr)
theorem zaor {f g : TF} {env : DEnv} (h1 : f env = some false) (h2 : g env = some false) : tOrF f g env = some false:=by unfold tOrF; rw [h1]; exact h2
theorem zaiz {A0 A1 A2 : Sl} {T : List Sl} : ∀ (post pre : List Rule) (s4 s5 : Sl), ((pre ++ post).map (·.1)).Nodup → (pre ++ post).length < 300 → ∃ s4' s5', forL (gT 2 (zay 4 (zay 5 zds))) (sPut 3 (eVar 4) (eVar 5)) (post.map zbt) (A0 :: A1 :: A2 :: .ac (.dict (dS zaj pre)) :: s4 :: s5 :: T) = some (.nx (A0 :: A1 :: A2 :: .ac (.dict (dS zaj (pre ++ post))) :: s4' :: s5' :: T))
 | [], pre, s4, s5, _, _=>⟨s4, s5, by rw [List.append_nil]; rfl⟩
 | p :: post, pre, s4, s5, nd, hl=>by
  have hn : p.1 ∉ pre.map (·.1):=fun hm=>by
   rw [List.map_append] at nd
   exact (List.nodup_append.mp nd).2.2 p.1 hm p.1 (by simp) rfl
  obtain ⟨s4', s5', ih⟩:=zaiz (A0:=A0) (A1:=A1) (A2:=A2) (T:=T) post (pre ++ [p]) (.pl (.str p.1)) (.pl (zaj p.2)) (by rw [List.append_assoc]; exact nd) (by rw [List.append_assoc]; exact hl)
  refine ⟨s4', s5', ?_⟩
  rw [List.append_assoc] at ih
  rw [List.map_cons]
  unfold forL
  have st : sPut 3 (eVar 4) (eVar 5) (A0 :: A1 :: A2 :: .ac (.dict (dS zaj pre)) :: .pl (.str p.1) :: .pl (zaj p.2) :: T) = some (.nx (A0 :: A1 :: A2 :: .ac (.dict (dS zaj (pre ++ [p]))) :: .pl (.str p.1) :: .pl (zaj p.2) :: T)):=by
   show (if (dS zaj pre).length < 100000 ∧ 3 ∉ ([] : List Nat) then some (Out.nx (A0 :: A1 :: A2 :: .ac (.dict (zqf (dS zaj pre) (.str p.1) (zaj p.2))) :: .pl (.str p.1) :: .pl (zaj p.2) :: T)) else none) = _
   rw [if_pos ⟨by unfold dS; rw [List.length_map]; simp at hl; omega, by simp⟩, zrt zaj hn]
  show Option.bind (sPut 3 (eVar 4) (eVar 5) (A0 :: A1 :: A2 :: .ac (.dict (dS zaj pre)) :: .pl (.str p.1) :: .pl (zaj p.2) :: T)) _ = _
  rw [st, Option.bind_some]
  exact ih
theorem zuu {rs : List Rule} (nd : (rs.map (·.1)).Nodup) {r : Rule} (h : r ∈ rs) : zmd (dS zaj rs) (Sum.inr r.1) = some (zaj r.2):=by rw [zkf, zado nd h]; rfl
noncomputable abbrev zaja : SF:=(sSeq (sIf (tOrF (zbh (eOp neD (eVar 9) (eTup (zab (eC (.str "rule")) (zab (eVar 4) aNil))))) (zbh (eOp (inD false) (eVar 4) (eSl (eVar 6) zeb (zbs (eVar 10)))))) (sRet (eC (.bool false))) sNil)
  (sSeq (sIf (zkv (zbh (eOp gtD (eVar 10) (eC (.int 0)))) (zig (tTru (zav 3 zbz (zab (eVar 1) (zab (zbq 3 (eIxV 6 (eOp subD (eVar 10) (eC (.int 1))))) (zab (zbq 3 (eVar 4)) aNil))))))) (sRet (eC (.bool false))) sNil)
  (sSeq (sSet 8 (zav 2 zbx (zab (eVar 8) (zab (eLst (zab (eVar 4) aNil)) aNil))))
  (sSeq (sSet 9 (zav 2 zdk (zab (eVar 8) (zab (eVar 2) aNil))))
  (sIf (zbh (eOp neD (zav 3 zfx (zab (eVar 0) (zab (eVar 2) (zab (eVar 4) aNil)))) (eVar 9))) (sRet (eC (.bool false))) sNil)))))
noncomputable abbrev cdE (W : Web) (rs : List Rule) (c : List Arm) (all : List Rule) (s4 s5 e7 : Sl) (pre S : List Rule) (s10 : Sl) : DEnv :=
 [.pl (zas W c.length rs), .pl (.dict (dS zac (ups W))), .pl (zan c), .ac (.dict (dS zaj rs)), s4, s5, .pl (zac (nms all)), e7, .pl (zas W c.length (outN (nms pre) rs)), .pl (zat (nms (zaz W S))), s10]
theorem zaos {W : Web} {rs : List Rule} {c : List Arm} (b : Bk W rs c) {all : List Rule} {s5 e7 : Sl} : ∀ (n : Nat) (S pre : List Rule) (s4 s10 : Sl), Cl W (fitL W rs c) S → S.length ≤ n → S = outN (nms pre) (fitL W rs c) → (∀ q, pre.getLast? = some q → ∀ x ∈ S, zca W q.2 x.2 = true) → (∀ q ∈ pre, q ∈ fitL W rs c) → all = pre ++ (chF W n S).1 →
  ∃ s4' s10', forL (gT 2 (zay 10 (zay 4 zds))) zaja (((nms (chF W n S).1).zipIdx pre.length).map fun (p : Str × Nat)=>PyData.tuple [.int (p.2 : Int), .str p.1]) (cdE W rs c all s4 s5 e7 pre S s10) = some (.nx (cdE W rs c all s4' s5 e7 (pre ++ (chF W n S).1) (chF W n S).2 s10')):=by
 have fo : OrdOk W c.length (fitL W rs c):=b.ord.filter _
 have ndf : ((fitL W rs c).map (·.1)).Nodup:=zom b.nd _
 intro n
 induction n with
 | zero=>intro S pre s4 s10 _ _ _ _ _ _; exact ⟨s4, s10, by simp [chF, forL]⟩
 | succ n ih =>
  intro S pre s4 s10 cl hn hS hlast hpre hall
  by_cases hex : ∃ r, zaz W S = [r]
  ·obtain ⟨r, hr⟩:=hex
   have e : chF W (n + 1) S = (r :: (chF W n (S.filter fun x=>zca W r.2 x.2)).1, (chF W n (S.filter fun x=>zca W r.2 x.2)).2):=by
    conv=>lhs; unfold chF
    rw [hr]
   have hrS : r ∈ S:=zmb hr
   have hrf:=cl.sub hrS
   have hrr : r ∈ rs:=(List.mem_filter.mp hrf).1
   have lt:=zwn (W:=W) hrS
   have Sok : OrdOk W c.length S:=⟨fun x hx=>fo.kinds x (cl.sub hx), fun x hx=>fo.size x (cl.sub hx)⟩
   have rest:=zzt b.web Sok hr
   have o1:=zaoq ndf (S:=S) (fun x hx=>cl.sub hx) hrf
   have S' : (S.filter fun x=>zca W r.2 x.2) = outN (nms (pre ++ [r])) (fitL W rs c):=by
    rw [rest, ← o1, hS, zabp]
    congr 1
    unfold nms
    rw [List.map_append]; rfl
   rw [e] at hall ⊢
   obtain ⟨s4', s10', lp⟩:=ih (S.filter fun x=>zca W r.2 x.2) (pre ++ [r]) (.pl (.str r.1)) (.pl (.int (pre.length : Int))) (cl.next b.web fo hrS) (by omega) S' (fun q hq x hx=>by
    rw [List.getLast?_append] at hq
    have hq : r = q:=by simpa using hq
    rw [← hq]; exact (List.mem_filter.mp hx).2) (fun q hq=>(List.mem_append.mp hq).elim (hpre q) fun z=>by rw [List.mem_singleton.mp z]; exact hrf) (by rw [hall]; simp)
   refine ⟨s4', s10', ?_⟩
   simp only [List.map_cons, List.zipIdx_cons]
   unfold forL
   have ta : nms all = nms pre ++ r.1 :: nms (chF W n (S.filter fun x=>zca W r.2 x.2)).1:=by
    rw [hall]; unfold nms; rw [List.map_append]; rfl
   have E0 : cdE W rs c all (.pl (.str r.1)) s5 e7 pre S (.pl (.int (pre.length : Int))) = [.pl (zas W c.length rs), .pl (.dict (dS zac (ups W))), .pl (zan c), .ac (.dict (dS zaj rs)), .pl (.str r.1), s5, .pl (zac (nms all)), e7, .pl (zas W c.length (outN (nms pre) rs)), .pl (zat [r.1]), .pl (.int (pre.length : Int))]:=by
    unfold cdE; rw [hr]; rfl
   have lr : LowS [r.1]:=fun k hk=>by rw [List.mem_singleton.mp hk]; exact b.low r hrr
   have t1 : tOrF (zbh (eOp neD (eVar 9) (eTup (zab (eC (.str "rule")) (zab (eVar 4) aNil))))) (zbh (eOp (inD false) (eVar 4) (eSl (eVar 6) zeb (zbs (eVar 10))))) (cdE W rs c all (.pl (.str r.1)) s5 e7 pre S (.pl (.int (pre.length : Int)))) = some false:=by
    rw [E0]
    refine zaor (zaiy (d:=zat [r.1]) (f1:=false) (f2:=false) (b1:=[]) (b2:=[]) rfl rfl (zfn lr)) ?_
    have sl : eSl (eVar 6) zeb (zbs (eVar 10)) [.pl (zas W c.length rs), .pl (.dict (dS zac (ups W))), .pl (zan c), .ac (.dict (dS zaj rs)), .pl (.str r.1), s5, .pl (zac (nms all)), e7, .pl (zas W c.length (outN (nms pre) rs)), .pl (zat [r.1]), .pl (.int (pre.length : Int))] = some ⟨zac (nms pre), true, []⟩ :=
     zafa (x:=nms all) (y:=nms pre) (f:=false) (bs:=[]) rfl rfl rfl (by
      rw [zry _ _ (by rw [List.length_map, ta]; simp), ta, ← List.map_take]
      congr 1
      rw [List.take_append_of_le_length (by simp), List.take_of_length_le (by simp)])
    have q:=zez (e_in (a:=eVar 4) (neg:=false) (x:=r.1) rfl sl)
    rw [q]
    have : r.1 ∉ nms pre:=by
     rw [hS] at hrS
     have:=(List.mem_filter.mp hrS).2
     simpa using this
    simp [this]
   have t2 : zkv (zbh (eOp gtD (eVar 10) (eC (.int 0)))) (zig (tTru (zav 3 zbz (zab (eVar 1) (zab (zbq 3 (eIxV 6 (eOp subD (eVar 10) (eC (.int 1))))) (zab (zbq 3 (eVar 4)) aNil)))))) (cdE W rs c all (.pl (.str r.1)) s5 e7 pre S (.pl (.int (pre.length : Int)))) = some false:=by
    have g : zbh (eOp gtD (eVar 10) (eC (.int 0))) (cdE W rs c all (.pl (.str r.1)) s5 e7 pre S (.pl (.int (pre.length : Int)))) = some (decide (0 < (pre.length : Int))):=zez (zaol rfl rfl)
    cases hp : pre.getLast? with
    | none =>
     have : pre = []:=List.getLast?_eq_none_iff.mp hp
     subst this
     rfl
    | some q =>
     obtain ⟨ini, hini⟩ : ∃ ini, pre = ini ++ [q]:=by
      have:=List.getLast?_eq_some_iff.mp hp
      exact this
     have hq : q ∈ fitL W rs c:=hpre q (by rw [hini]; simp)
     have hqr : q ∈ rs:=(List.mem_filter.mp hq).1
     have hpl : 0 < (pre.length : Int):=by rw [hini]; simp
     have i6 : eIxV 6 (eOp subD (eVar 10) (eC (.int 1))) (cdE W rs c all (.pl (.str r.1)) s5 e7 pre S (.pl (.int (pre.length : Int)))) = some (vs q.1):=by
      refine zaaq (n:=ini.length) (ds:=(nms all).map .str) rfl ?_ (by rw [ta, hini]; simp [nms])
      rw [zahi (i:=(pre.length : Int)) (j:=1) rfl rfl]
      congr 2
      rw [hini]
      simp
     have near:=zqd b.web (b.rul.low q hqr) (b.rul.low r hrr) (b.rul.kinds q hqr) (b.rul.few q hqr) (by rw [b.ord.size q hqr, b.ord.size r hrr]; exact Nat.le_refl _)
     rw [hlast q hp r hrS] at near
     have t:=zpp (zbc (n:=3) (g:=zbz) (f:=zab (eVar 1) (zab (zbq 3 (eIxV 6 (eOp subD (eVar 10) (eC (.int 1))))) (zab (zbq 3 (eVar 4)) aNil))) (env:=cdE W rs c all (.pl (.str r.1)) s5 e7 pre S (.pl (.int (pre.length : Int)))) (rs:=[⟨.dict (dS zac (ups W)), false, []⟩, ⟨zaj q.2, false, []⟩, ⟨zaj r.2, false, []⟩]) (zbm rfl (zbm (znt (k:=3) (.inr rfl) i6 (zuu b.nd hqr)) (zdv (znt (k:=3) (.inr rfl) rfl (zuu b.nd hrr))))) rfl near)
     unfold zkv
     rw [g, Option.bind_some, decide_eq_true hpl, if_pos rfl, t]
     rfl
   have e8 : sSet 8 (zav 2 zbx (zab (eVar 8) (zab (eLst (zab (eVar 4) aNil)) aNil))) (cdE W rs c all (.pl (.str r.1)) s5 e7 pre S (.pl (.int (pre.length : Int)))) = some (.nx [.pl (zas W c.length rs), .pl (.dict (dS zac (ups W))), .pl (zan c), .ac (.dict (dS zaj rs)), .pl (.str r.1), s5, .pl (zac (nms all)), e7, .pl (zas W c.length (outN (nms (pre ++ [r])) rs)), .pl (zat (nms (zaz W S))), .pl (.int (pre.length : Int))]):=by
    have g:=zkj (W:=W) (p:=c.length) (rs:=outN (nms pre) rs) (ns:=[r.1]) ((b.out (nms pre)).rul.len)
    rw [zabp, show nms pre ++ [r.1] = nms (pre ++ [r]) by unfold nms; rw [List.map_append]; rfl] at g
    exact zbv (r:=⟨zas W c.length (outN (nms (pre ++ [r])) rs), false, []⟩) (zbc (n:=2) (rs:=[⟨zas W c.length (outN (nms pre) rs), false, []⟩, ⟨zac [r.1], true, []⟩]) rfl rfl g)
   have bo:=b.out (nms (pre ++ [r]))
   have ga:=znd b.web bo.rul b.cal
   rw [zaix, ← S'] at ga
   have e9 : sSet 9 (zav 2 zdk (zab (eVar 8) (zab (eVar 2) aNil))) [.pl (zas W c.length rs), .pl (.dict (dS zac (ups W))), .pl (zan c), .ac (.dict (dS zaj rs)), .pl (.str r.1), s5, .pl (zac (nms all)), e7, .pl (zas W c.length (outN (nms (pre ++ [r])) rs)), .pl (zat (nms (zaz W S))), .pl (.int (pre.length : Int))] = some (.nx (cdE W rs c all (.pl (.str r.1)) s5 e7 (pre ++ [r]) (S.filter fun x=>zca W r.2 x.2) (.pl (.int (pre.length : Int))))):=by
    have c9:=zbc (n:=2) (g:=zdk) (f:=zab (eVar 8) (zab (eVar 2) aNil)) (env:=[.pl (zas W c.length rs), .pl (.dict (dS zac (ups W))), .pl (zan c), .ac (.dict (dS zaj rs)), .pl (.str r.1), s5, .pl (zac (nms all)), e7, .pl (zas W c.length (outN (nms (pre ++ [r])) rs)), .pl (zat (nms (zaz W S))), .pl (.int (pre.length : Int))]) (rs:=[⟨zas W c.length (outN (nms (pre ++ [r])) rs), false, []⟩, ⟨zan c, false, []⟩]) rfl rfl ga
    rw [zbv c9]
    have : bsOf (zat (nms (zaz W (S.filter fun x=>zca W r.2 x.2)))) (bss [⟨zas W c.length (outN (nms (pre ++ [r])) rs), false, []⟩, ⟨zan c, false, []⟩]) = []:=by unfold bsOf; split <;> rfl
    rw [this]
    rfl
   have on:=zwo b.web b.rul b.cal b.nd hrf
   rw [cl.rest hrS] at on
   have t3 : zbh (eOp neD (zav 3 zfx (zab (eVar 0) (zab (eVar 2) (zab (eVar 4) aNil)))) (eVar 9)) (cdE W rs c all (.pl (.str r.1)) s5 e7 (pre ++ [r]) (S.filter fun x=>zca W r.2 x.2) (.pl (.int (pre.length : Int)))) = some false :=
    zaiy (f2:=false) (b2:=[]) (zbc (n:=3) (rs:=[⟨zas W c.length rs, false, []⟩, ⟨zan c, false, []⟩, vs r.1]) rfl rfl on) rfl (zfn (b.lows fun x hx=>(List.mem_filter.mp (cl.sub (List.mem_filter.mp (zek.mp hx).1).1)).1))
   have turn : zaja (cdE W rs c all (.pl (.str r.1)) s5 e7 pre S (.pl (.int (pre.length : Int)))) = some (.nx (cdE W rs c all (.pl (.str r.1)) s5 e7 (pre ++ [r]) (S.filter fun x=>zca W r.2 x.2) (.pl (.int (pre.length : Int))))):=zaq (if_f t1 rfl) (zaq (if_f t2 rfl) (zaq e8 (zaq e9 (if_f t3 rfl))))
   show Option.bind (zaja (cdE W rs c all (.pl (.str r.1)) s5 e7 pre S (.pl (.int (pre.length : Int))))) _ = _
   rw [turn, Option.bind_some]
   simp only
   rw [show pre.length + 1 = (pre ++ [r]).length by simp, show pre ++ r :: (chF W n (S.filter fun x=>zca W r.2 x.2)).1 = (pre ++ [r]) ++ (chF W n (S.filter fun x=>zca W r.2 x.2)).1 by simp]
   exact lp
  ·have e : chF W (n + 1) S = ([], S):=by
    conv=>lhs; unfold chF
    split
    ·rename_i r hr; exact absurd ⟨r, hr⟩ hex
    ·rfl
   rw [e]
   exact ⟨s4, s10, by simp [forL]⟩
theorem zwp {W : Web} {rs : List Rule} {c : List Arm} (b : Bk W rs c) : zgy [zas W c.length rs, .dict (dS zac (ups W)), zan c] = some (.bool true, false):=by
 have fo : OrdOk W c.length (fitL W rs c):=b.ord.filter _
 have hl : (fitL W rs c).length ≤ 300:=Nat.le_trans (List.length_filter_le _ _) (by have:=b.rul.len; omega)
 obtain ⟨s4, s5, by1⟩:=zaiz (A0:=.pl (zas W c.length rs)) (A1:=.pl (.dict (dS zac (ups W)))) (A2:=.pl (zan c)) (T:=[.no, .no, .no, .no, .no]) rs [] .no .no b.nd b.rul.len
 have gch:=zaiv b.web b.rul b.cal b.nd fo
 obtain ⟨s4', s10', lp⟩:=zaos b (all:=(chF W 300 (fitL W rs c)).1) (s5:=s5) (e7:=.pl (zat (nms (zaz W (chF W 300 (fitL W rs c)).2)))) 300 (fitL W rs c) [] s4 .no .refl hl (zabq).symm (fun q hq=>by cases hq) (fun q hq=>by cases hq) (by simp)
 have sub : ∀ (n : Nat) (S : List Rule), (∀ x ∈ (chF W n S).2, x ∈ S) ∧ ∀ x ∈ (chF W n S).1, x ∈ S:=fun n=>by
  induction n with
  | zero=>intro S; exact ⟨fun x hx=>hx, fun x hx=>by cases hx⟩
  | succ n ih =>
   intro S
   unfold chF
   split
   ·rename_i r hr
    obtain ⟨i1, i2⟩:=ih (S.filter fun x=>zca W r.2 x.2)
    exact ⟨fun x hx=>(List.mem_filter.mp (i1 x hx)).1, fun x hx=>(List.mem_cons.mp hx).elim (fun e=>by rw [e]; exact zmb hr) fun z=>(List.mem_filter.mp (i2 x z)).1⟩
   ·exact ⟨fun x hx=>hx, fun x hx=>by cases hx⟩
 have sh : SeqAt.shaped (zat (nms (zaz W (chF W 300 (fitL W rs c)).2))) = true:=zfn (b.lows fun x hx=>(List.mem_filter.mp ((sub _ _).1 x (zek.mp hx).1)).1)
 have fin:=zabr (W:=W) 300 (fitL W rs c) hl
 have e9 : sSet 9 (zav 2 zdk (zab (eVar 0) (zab (eVar 2) aNil))) [.pl (zas W c.length rs), .pl (.dict (dS zac (ups W))), .pl (zan c), .ac (.dict (dS zaj rs)), s4, s5, .pl (zac (nms (chF W 300 (fitL W rs c)).1)), .pl (zat (nms (zaz W (chF W 300 (fitL W rs c)).2))), .pl (zas W c.length rs), .no, .no] = some (.nx (cdE W rs c (chF W 300 (fitL W rs c)).1 s4 s5 (.pl (zat (nms (zaz W (chF W 300 (fitL W rs c)).2)))) [] (fitL W rs c) .no)):=by
  rw [zbv (zbc (n:=2) (rs:=[⟨zas W c.length rs, false, []⟩, ⟨zan c, false, []⟩]) rfl rfl (znd b.web b.rul b.cal))]
  have : bsOf (zat (nms (zaz W (fitL W rs c)))) (bss [⟨zas W c.length rs, false, []⟩, ⟨zan c, false, []⟩]) = []:=by unfold bsOf; split <;> rfl
  unfold cdE
  rw [show outN (nms []) rs = rs from zabq]
  congr 2
  rw [this]
  rfl
 have it : zmh (zab (eVar 6) aNil) (cdE W rs c (chF W 300 (fitL W rs c)).1 s4 s5 (.pl (zat (nms (zaz W (chF W 300 (fitL W rs c)).2)))) [] (fitL W rs c) .no) = some (((nms (chF W 300 (fitL W rs c)).1).zipIdx).map fun (p : Str × Nat)=>PyData.tuple [.int (p.2 : Int), .str p.1], []):=by
  show some (zqg ((nms (chF W 300 (fitL W rs c)).1).map .str), []) = _
  rw [zqs]
 refine zgp (env:=[.pl (zas W c.length rs), .pl (.dict (dS zac (ups W))), .pl (zan c), .no, .no, .no, .no, .no, .no, .no, .no]) rfl (zaq rfl (zaq (zic (ds:=rs.map zbt) (bs:=[]) rfl by1) (zaq (e1:=[.pl (zas W c.length rs), .pl (.dict (dS zac (ups W))), .pl (zan c), .ac (.dict (dS zaj rs)), s4, s5, .pl (zac (nms (chF W 300 (fitL W rs c)).1)), .pl (zat (nms (zaz W (chF W 300 (fitL W rs c)).2))), .no, .no, .no]) ?_ (zaq (zbv (r:=⟨zas W c.length rs, false, []⟩) rfl) (zaq e9 (zaq (zic it lp) (zgw (bs:=[]) ?_)))))))
 ·unfold sAsg
  rw [zbc (n:=2) (rs:=[⟨zas W c.length rs, false, []⟩, ⟨zan c, false, []⟩]) rfl rfl gch]
  rfl
 ·have q1:=zaln (a:=eVar 9) (b:=eVar 7) (env:=cdE W rs c (chF W 300 (fitL W rs c)).1 s4' s5 (.pl (zat (nms (zaz W (chF W 300 (fitL W rs c)).2)))) ([] ++ (chF W 300 (fitL W rs c)).1) (chF W 300 (fitL W rs c)).2 s10') (f1:=false) (f2:=false) (b1:=[]) (b2:=[]) rfl rfl sh
  have q2 : eOp neD (eIxV 7 (eC (.int 0))) (eC (.str "rule")) (cdE W rs c (chF W 300 (fitL W rs c)).1 s4' s5 (.pl (zat (nms (zaz W (chF W 300 (fitL W rs c)).2)))) ([] ++ (chF W 300 (fitL W rs c)).1) (chF W 300 (fitL W rs c)).2 s10') = some (vb true):=by
   unfold cdE
   match hE : zaz W (chF W 300 (fitL W rs c)).2, fin with
   | [], _=>rfl
   | [r], fin=>exact absurd rfl (fin r)
   | x :: y :: l, _=>rfl
  unfold eAnd
  rw [q1]
  exact q2
end Bc
namespace Bc
open PySem L2
theorem zqz {W : Web} (h : WebOk W) {p : Nat} : ∀ (n m : Nat) (S : List Rule), OrdOk W p S → S.length ≤ n → S.length ≤ m → laF W n S = laF W m S
 | 0, m, S, ok, hn, hm=>by
  have : S = []:=List.length_eq_zero_iff.mp (by omega)
  subst this
  cases m <;> rfl
 | n + 1, 0, S, ok, hn, hm=>by
  have : S = []:=List.length_eq_zero_iff.mp (by omega)
  subst this
  rfl
 | n + 1, m + 1, S, ok, hn, hm=>by
  unfold laF
  by_cases hS : S = []
  ·rw [if_pos hS, if_pos hS]
  ·rw [if_neg hS, if_neg hS]
   have lt:=zabn h ok hS
   rw [zqz h n m _ (ok.filter _) (Nat.le_of_lt_succ (Nat.lt_of_lt_of_le lt hn)) (Nat.le_of_lt_succ (Nat.lt_of_lt_of_le lt hm))]
theorem zzw {W : Web} (h : WebOk W) {p : Nat} : ∀ (n : Nat) (S : List Rule), OrdOk W p S → S.length ≤ n → laF W n S = ((chF W n S).1.map fun r=>[r]) ++ laF W n (chF W n S).2
 | 0, S, ok, hn=>by
  have : S = []:=List.length_eq_zero_iff.mp (by omega)
  subst this
  rfl
 | n + 1, S, ok, hn=>by
  by_cases hex : ∃ r, zaz W S = [r]
  ·obtain ⟨r, hr⟩:=hex
   have e : chF W (n + 1) S = (r :: (chF W n (S.filter fun x=>zca W r.2 x.2)).1, (chF W n (S.filter fun x=>zca W r.2 x.2)).2):=by
    conv=>lhs; unfold chF
    rw [hr]
   have hrS:=zmb hr
   have hS : S ≠ []:=fun z=>by rw [z] at hrS; cases hrS
   have lt:=zwn (W:=W) hrS
   have same : (S.filter fun x=>!decide (x ∈ zaz W S)) = S.filter fun x=>zca W r.2 x.2:=by
    rw [zzt h ok hr, hr]
    refine List.filter_congr fun x _=>?_
    simp
   have l1 : laF W (n + 1) S = [r] :: laF W n (S.filter fun x=>zca W r.2 x.2):=by
    conv=>lhs; unfold laF
    rw [if_neg hS, same, hr]
   have ih:=zzw h n (S.filter fun x=>zca W r.2 x.2) (ok.filter _) (by omega)
   have hsub : (chF W n (S.filter fun x=>zca W r.2 x.2)).2.length ≤ n:=by
    have : ∀ (n : Nat) (S : List Rule), (chF W n S).2.length ≤ S.length:=fun n=>by
     induction n with
     | zero=>intro S; exact Nat.le_refl _
     | succ n ih =>
      intro S
      unfold chF
      split
      ·rename_i q hq
       exact Nat.le_trans (ih _) (List.length_filter_le _ _)
      ·exact Nat.le_refl _
    exact Nat.le_trans (this _ _) (by omega)
   have okE : OrdOk W p (chF W n (S.filter fun x=>zca W r.2 x.2)).2:=by
    have : ∀ (n : Nat) (S : List Rule), OrdOk W p S → OrdOk W p (chF W n S).2:=fun n=>by
     induction n with
     | zero=>intro S ok; exact ok
     | succ n ih =>
      intro S ok
      unfold chF
      split
      ·rename_i q hq
       exact ih _ (ok.filter _)
      ·exact ok
    exact this _ _ (ok.filter _)
   rw [e, l1, ih, zqz h (n + 1) n _ okE (by omega) hsub]
   rfl
  ·have e : chF W (n + 1) S = ([], S):=by
    conv=>lhs; unfold chF
    split
    ·rename_i r hr; exact absurd ⟨r, hr⟩ hex
    ·rfl
   rw [e]; rfl
theorem zzx : ∀ (l : List (List Str)), (∀ ks ∈ l, LowS ks) → PyData.canLayAll0 (l.map zac) = true ∧ PyData.depthAll (l.map zac) ≤ 1
 | [], _=>⟨rfl, by simp [PyData.depthAll]⟩
 | ks :: l, h=>by
  obtain ⟨h1, h2⟩:=zzx l fun x hx=>h x (List.mem_cons_of_mem _ hx)
  obtain ⟨g1, g2⟩:=zjh ks (h ks List.mem_cons_self)
  constructor
  ·rw [List.map_cons]
   simp only [PyData.canLayAll0, zac, PyData.canLay0, Bool.and_eq_true]
   exact ⟨g1, h1⟩
  ·rw [List.map_cons]
   simp only [PyData.depthAll, zac, PyData.depth]
   rw [g2]
   have : PyData.depthAll (l.map fun ks=>PyData.list (ks.map .str)) ≤ 1:=h2
   omega
theorem zjl {l : List (List Str)} (h : ∀ ks ∈ l, LowS ks) : SeqAt.shaped (zcy l) = true:=by
 obtain ⟨h1, h2⟩:=zzx l h
 unfold SeqAt.shaped zcy
 rw [Bool.and_eq_true]
 refine ⟨by simpa [PyData.canLay0] using h1, decide_eq_true ?_⟩
 simp only [PyData.depth]
 omega
theorem zajb {W : Web} : ∀ (n : Nat) (S : List Rule), ∀ L ∈ laF W n S, ∀ x ∈ L, x ∈ S
 | 0, S, L, hL, x, hx=>by cases hL
 | n + 1, S, L, hL, x, hx=>by
  unfold laF at hL
  split at hL
  ·cases hL
  ·rcases List.mem_cons.mp hL with rfl | hL
   ·exact (zek.mp hx).1
   ·exact (List.mem_filter.mp (zajb n _ L hL x hx)).1
theorem zabs {W : Web} : ∀ (n : Nat) (S : List Rule), (laF W n S).length ≤ n
 | 0, S=>Nat.le_refl _
 | n + 1, S=>by
  unfold laF
  split
  ·exact Nat.zero_le _
  ·exact Nat.succ_le_succ (zabs n _)
noncomputable abbrev zajc : SF:=(sSeq (sIf (zbh (eOp neD (zav 2 zfy (zab (zav 2 zbx (zab (eVar 0) (zab (eVar 5) aNil))) (zab (eVar 1) aNil))) (eSl (eVar 4) (zbs (eVar 6)) zeb))) (sRet (eC (.bool false))) sNil)
  (sSet 5 (eOp addD (eVar 5) (eVar 7))))
theorem zzy {α : Type} (p : α → Bool) : ∀ l : List α, (l.filter p).length + (l.filter fun x=>!p x).length = l.length
 | []=>rfl
 | x :: l=>by
  have ih:=zzy p l
  rw [List.filter_cons, List.filter_cons]
  cases p x <;> simp <;> omega
theorem zajd {W : Web} {fit S : List Rule} (nd : (fit.map (·.1)).Nodup) (hs : ∀ x ∈ S, x ∈ fit) : outN (nms (zaz W S)) S = S.filter fun x=>!decide (x ∈ zaz W S):=by
 refine List.filter_congr fun x hx=>?_
 congr 1
 rw [decide_eq_decide]
 constructor
 ·intro hm
  obtain ⟨y, hy, e⟩:=List.mem_map.mp hm
  have h1 : (x.1, y.2) ∈ fit:=by
   have e' : y.1 = x.1:=e
   rw [← e']
   exact hs y (zek.mp hy).1
  have:=zadn nd h1 (show (x.1, x.2) ∈ fit from hs x hx)
  have : y = x:=Prod.ext e this
  rw [← this]; exact hy
 ·intro hm
  exact List.mem_map.mpr ⟨x, hm, rfl⟩
theorem zamk {W : Web} {rs : List Rule} {c : List Arm} (b : Bk W rs c) (ns : List Str) : zfy [zas W c.length (outN ns rs), zan c] = some (zcy ((laF W 300 (outN ns (fitL W rs c))).map nms), true):=by
 have bo:=b.out ns
 have:=zadt b.web bo.rul b.cal bo.low (bo.ord.filter fun r=>fitB W r.2 c)
 rw [zaix] at this
 exact this
theorem Bk.rows {W : Web} {rs : List Rule} {c : List Arm} (b : Bk W rs c) {S : List Rule} (hs : ∀ x ∈ S, x ∈ rs) (n : Nat) : ∀ ks ∈ (laF W n S).map nms, LowS ks:=fun ks hk=>by
 obtain ⟨L, hL, rfl⟩:=List.mem_map.mp hk
 exact b.lows fun x hx=>hs x (zajb n S L hL x hx)
theorem zaot {W : Web} {rs : List Rule} {c : List Arm} (b : Bk W rs c) {A2 A3 : Sl} {all : List (List Str)} : ∀ (n : Nat) (S : List Rule) (gone : List Str) (k : Nat) (s5 s6 s7 : Sl), Hd (zac gone) s5 → S = outN gone (fitL W rs c) → S.length ≤ n → n ≤ 300 → gone.length + S.length < 1000 → all.drop k = (laF W n S).map nms → k ≤ all.length →
  ∃ gone' s5' s6' s7', Hd (zac gone') s5' ∧ outN gone' (fitL W rs c) = [] ∧ forL (gT 2 (zay 6 (zay 7 zds))) zajc ((((laF W n S).map nms).zipIdx k).map fun (p : List Str × Nat)=>PyData.tuple [.int (p.2 : Int), zac p.1]) [.pl (zas W c.length rs), .pl (zan c), A2, A3, .pl (zcy all), s5, s6, s7] = some (.nx [.pl (zas W c.length rs), .pl (zan c), A2, A3, .pl (zcy all), s5', s6', s7']):=by
 have fo : OrdOk W c.length (fitL W rs c):=b.ord.filter _
 have ndf : ((fitL W rs c).map (·.1)).Nodup:=zom b.nd _
 intro n
 induction n with
 | zero =>
  intro S gone k s5 s6 s7 h5 hS hn _ _ _ _
  have : S = []:=List.length_eq_zero_iff.mp (by omega)
  exact ⟨gone, s5, s6, s7, h5, by rw [← hS, this], rfl⟩
 | succ n ih =>
  intro S gone k s5 s6 s7 h5 hS hn hn3 hg hall hk
  by_cases hE : S = []
  ·have e : laF W (n + 1) S = []:=by unfold laF; rw [if_pos hE]
   rw [e]
   exact ⟨gone, s5, s6, s7, h5, by rw [← hS, hE], rfl⟩
  ·have e : laF W (n + 1) S = zaz W S :: laF W n (S.filter fun x=>!decide (x ∈ zaz W S)):=by
    conv=>lhs; unfold laF
    rw [if_neg hE]
   have hsub : ∀ x ∈ S, x ∈ fitL W rs c:=fun x hx=>by rw [hS] at hx; exact (List.mem_filter.mp hx).1
   have Sok : OrdOk W c.length S:=⟨fun x hx=>fo.kinds x (hsub x hx), fun x hx=>fo.size x (hsub x hx)⟩
   have lt:=zabn b.web Sok hE
   have ol:=zajd (W:=W) ndf hsub
   have S' : (S.filter fun x=>!decide (x ∈ zaz W S)) = outN (gone ++ nms (zaz W S)) (fitL W rs c):=by
    rw [← ol, ← zabp, ← hS]
   have nl : (nms (zaz W S)).length + (S.filter fun x=>!decide (x ∈ zaz W S)).length ≤ S.length:=by
    have h1 : (nms (zaz W S)).length = (S.filter fun x=>decide (x ∈ zaz W S)).length:=by
     unfold nms
     rw [List.length_map]
     congr 1
     unfold zaz
     refine List.filter_congr fun x hx=>?_
     rw [Bool.eq_iff_iff, decide_eq_true_iff, List.mem_filter]
     exact ⟨fun z=>⟨hx, z⟩, fun z=>z.2⟩
    rw [h1]
    exact Nat.le_of_eq (zzy (fun x=>decide (x ∈ zaz W S)) S)
   have nl' : gone.length + (nms (zaz W S)).length + (S.filter fun x=>!decide (x ∈ zaz W S)).length < 1000:=by omega
   have hdk : k < all.length:=by
    have:=congrArg List.length hall
    rw [List.length_drop, e] at this
    simp at this
    omega
   have hall' : all.drop (k + 1) = (laF W n (S.filter fun x=>!decide (x ∈ zaz W S))).map nms:=by
    rw [← List.drop_drop, hall, e]
    rfl
   rw [e]
   simp only [List.map_cons, List.zipIdx_cons]
   unfold forL
   obtain ⟨bs, hv⟩:=e_hd (env:=[.pl (zas W c.length rs), .pl (zan c), A2, A3, .pl (zcy all), s5, .pl (.int (k : Int)), .pl (zac (nms (zaz W S)))]) (i:=5) rfl h5
   have lo:=zamk b gone
   rw [← hS, zqz b.web 300 (n + 1) S Sok (by omega) hn] at lo
   have wi:=zbc (n:=2) (g:=zbx) (f:=zab (eVar 0) (zab (eVar 5) aNil)) (rs:=[⟨zas W c.length rs, false, []⟩, ⟨zac gone, false, bs⟩]) (zbm rfl (zdv hv)) rfl (zkj (W:=W) (p:=c.length) (rs:=rs) (ns:=gone) b.rul.len)
   have la:=zbc (n:=2) (g:=zfy) (f:=zab (zav 2 zbx (zab (eVar 0) (zab (eVar 5) aNil))) (zab (eVar 1) aNil)) (zbm wi (zdv (a:=eVar 1) (r:=⟨zan c, false, []⟩) rfl)) rfl lo
   have sl : eSl (eVar 4) (zbs (eVar 6)) zeb [.pl (zas W c.length rs), .pl (zan c), A2, A3, .pl (zcy all), s5, .pl (.int (k : Int)), .pl (zac (nms (zaz W S)))] = some ⟨zcy ((laF W (n + 1) S).map nms), true, []⟩:=by
    rw [show eSl (eVar 4) (zbs (eVar 6)) zeb [.pl (zas W c.length rs), .pl (zan c), A2, A3, .pl (zcy all), s5, .pl (.int (k : Int)), .pl (zac (nms (zaz W S)))] = some ⟨.list (cutD (all.map zac) (some (k : Int)) none), true, []⟩ from rfl, zwk, ← List.map_drop, hall]
    rfl
   have t : zbh (eOp neD (zav 2 zfy (zab (zav 2 zbx (zab (eVar 0) (zab (eVar 5) aNil))) (zab (eVar 1) aNil))) (eSl (eVar 4) (zbs (eVar 6)) zeb)) [.pl (zas W c.length rs), .pl (zan c), A2, A3, .pl (zcy all), s5, .pl (.int (k : Int)), .pl (zac (nms (zaz W S)))] = some false:=zaiy la sl (zjl (b.rows (fun x hx=>(List.mem_filter.mp (hsub x hx)).1) _))
   have ad:=zadj (a:=eVar 5) (b:=eVar 7) (env:=[.pl (zas W c.length rs), .pl (zan c), A2, A3, .pl (zcy all), s5, .pl (.int (k : Int)), .pl (zac (nms (zaz W S)))]) (x:=gone) (y:=nms (zaz W S)) (f2:=false) (b2:=[]) hv rfl (by omega)
   have s5e : sSet 5 (eOp addD (eVar 5) (eVar 7)) [.pl (zas W c.length rs), .pl (zan c), A2, A3, .pl (zcy all), s5, .pl (.int (k : Int)), .pl (zac (nms (zaz W S)))] = some (.nx [.pl (zas W c.length rs), .pl (zan c), A2, A3, .pl (zcy all), .ac (zac (gone ++ nms (zaz W S))), .pl (.int (k : Int)), .pl (zac (nms (zaz W S)))]):=by
    rcases h5 with rfl | rfl
    ·have : bs = []:=by
      have : some (⟨zac gone, false, []⟩ : Val) = some ⟨zac gone, false, bs⟩:=hv
      injection this with this
      injection this with _ _ this
      exact this.symm
     subst this
     exact zbv ad
    ·have : bs = [5]:=by
      have : some (⟨zac gone, false, [5]⟩ : Val) = some ⟨zac gone, false, bs⟩:=hv
      injection this with this
      injection this with _ _ this
      exact this.symm
     subst this
     exact zbv ad
   obtain ⟨gone', s5', s6', s7', g5, ge, lp⟩:=ih (S.filter fun x=>!decide (x ∈ zaz W S)) (gone ++ nms (zaz W S)) (k + 1) (.ac (zac (gone ++ nms (zaz W S)))) (.pl (.int (k : Int))) (.pl (zac (nms (zaz W S)))) (.inr rfl) S' (Nat.le_of_lt_succ (Nat.lt_of_lt_of_le lt hn)) (by omega) (by rw [List.length_append]; exact nl') hall' (by omega)
   refine ⟨gone', s5', s6', s7', g5, ge, ?_⟩
   show Option.bind (zajc [.pl (zas W c.length rs), .pl (zan c), A2, A3, .pl (zcy all), s5, .pl (.int (k : Int)), .pl (zac (nms (zaz W S)))]) _ = _
   rw [show zajc [.pl (zas W c.length rs), .pl (zan c), A2, A3, .pl (zcy all), s5, .pl (.int (k : Int)), .pl (zac (nms (zaz W S)))] = _ from zaq (if_f t rfl) s5e, Option.bind_some]
   exact lp
theorem zwq {W : Web} : ∀ (n : Nat) (S : List Rule), (∀ x ∈ (chF W n S).2, x ∈ S) ∧ ∀ x ∈ (chF W n S).1, x ∈ S:=fun n=>by
 induction n with
 | zero=>intro S; exact ⟨fun x hx=>hx, fun x hx=>by cases hx⟩
 | succ n ih =>
  intro S
  unfold chF
  split
  ·rename_i r hr
   obtain ⟨i1, i2⟩:=ih (S.filter fun x=>zca W r.2 x.2)
   exact ⟨fun x hx=>(List.mem_filter.mp (i1 x hx)).1, fun x hx=>(List.mem_cons.mp hx).elim (fun e=>by rw [e]; exact zmb hr) fun z=>(List.mem_filter.mp (i2 x z)).1⟩
  ·exact ⟨fun x hx=>hx, fun x hx=>by cases hx⟩
theorem zaou {W : Web} {p : Nat} {n : Nat} {S : List Rule} (ok : OrdOk W p S) : OrdOk W p (chF W n S).2:=⟨fun r hr=>ok.kinds r ((zwq n S).1 r hr), fun r hr=>ok.size r ((zwq n S).1 r hr)⟩
theorem zaqw {a : EF} {env : DEnv} {l : List (List Str)} {f : Bool} {bs : List Nat} (h : a env = some ⟨zcy l, f, bs⟩) : eCB lenD (zab a aNil) env = some (vi (l.length : Int)):=by
 have:=zrv (ds:=l.map zac) h
 rw [List.length_map] at this
 exact this
theorem zadv {a : EF} {env : DEnv} {l : List Str} {f : Bool} {bs : List Nat} (h : a env = some ⟨zac l, f, bs⟩) : eCB lenD (zab a aNil) env = some (vi (l.length : Int)):=by
 have:=zrv (ds:=l.map .str) h
 rw [List.length_map] at this
 exact this
theorem zwr {W : Web} {rs : List Rule} {c : List Arm} (b : Bk W rs c) : zgz [zas W c.length rs, zan c] = some (.bool true, false):=by
 have fo : OrdOk W c.length (fitL W rs c):=b.ord.filter _
 have hl : (fitL W rs c).length < 300:=Nat.lt_of_le_of_lt (List.length_filter_le _ _) b.rul.len
 have hsub : ∀ x ∈ fitL W rs c, x ∈ rs:=fun x hx=>(List.mem_filter.mp hx).1
 have gch:=zaiv b.web b.rul b.cal b.nd fo
 have gla:=zadt b.web b.rul b.cal b.low fo
 have dec:=zzw b.web 300 (fitL W rs c) fo (by omega)
 have fin:=zabr (W:=W) 300 (fitL W rs c) (by omega)
 have okE:=zaou (n:=300) fo
 have subE:=(zwq (W:=W) 300 (fitL W rs c)).1
 have subL:=(zwq (W:=W) 300 (fitL W rs c)).2
 have lowR:=b.rows hsub 300
 generalize hR : (laF W 300 (fitL W rs c)).map nms = R at gla lowR
 have hdec : R = (nms (chF W 300 (fitL W rs c)).1).map (fun n=>[n]) ++ (laF W 300 (chF W 300 (fitL W rs c)).2).map nms:=by
  rw [← hR, dec, List.map_append, List.map_map, nms, List.map_map]
  rfl
 generalize hN : (chF W 300 (fitL W rs c)).1 = N at gch hdec subL
 generalize hE : (chF W 300 (fitL W rs c)).2 = E at gch hdec fin okE subE
 have lowN : LowS (nms N):=b.lows fun x hx=>hsub x (subL x hx)
 have lowE : LowS (nms (zaz W E)):=b.lows fun x hx=>hsub x (subE x (zek.mp hx).1)
 generalize hM : nms N = M at gch hdec lowN
 have e4 : sSet 4 (zav 2 zfy (zab (eVar 0) (zab (eVar 1) aNil))) [.pl (zas W c.length rs), .pl (zan c), .pl (zac M), .pl (zat (nms (zaz W E))), .no, .no, .no, .no] = some (.nx [.pl (zas W c.length rs), .pl (zan c), .pl (zac M), .pl (zat (nms (zaz W E))), .ac (zcy R), .no, .no, .no]) :=
  zbv (r:=⟨zcy R, true, []⟩) (zbc (n:=2) (rs:=[⟨zas W c.length rs, false, []⟩, ⟨zan c, false, []⟩]) rfl rfl gla)
 have hRl : M.length ≤ R.length:=by
  have h1 : (M.map (fun n=>[n])).length = M.length:=List.length_map _
  rw [hdec, List.length_append, h1]; omega
 have cm : zee (gN 0) zdh (eLst (zab (eVar 0) aNil)) [.no] (M.map .str) = some (M.map fun n=>zac [n]):=zdu (enc:=PyData.str) (out:=fun n=>zac [n]) fun n _=>⟨[.pl (.str n)], rfl, rfl, ⟨zac [n], true, []⟩, rfl, rfl⟩
 have hNl : M.length < 300:=by
  have h1 : R.length ≤ 300:=by rw [← hR, List.length_map]; exact zabs _ _
  have h2 : (laF W 300 (fitL W rs c)).length ≤ (fitL W rs c).length:=by rw [zqz b.web 300 (fitL W rs c).length _ fo (by omega) (Nat.le_refl _)]; exact zabs _ _
  have h3 : R.length = (laF W 300 (fitL W rs c)).length:=by rw [← hR, List.length_map]
  omega
 have cm2:=zeo (own:=["_law_name"]) (fr:=[]) (fi:=zaw (eVar 2)) (g:=gN 0) (t:=zdh) (e:=eLst (zab (eVar 0) aNil)) (env:=[.pl (zas W c.length rs), .pl (zan c), .pl (zac M), .pl (zat (nms (zaz W E))), .ac (zcy R), .no, .no, .no]) (ds:=M.map .str) (bs:=[]) rfl (by rw [List.length_map]; omega) cm
 have t1 : zbh (eOp neD (eSl (eVar 4) zeb (zbs (eCB lenD (zab (eVar 2) aNil)))) (zdl ["_law_name"] [] (zaw (eVar 2)) (gN 0) zdh (eLst (zab (eVar 0) aNil)))) [.pl (zas W c.length rs), .pl (zan c), .pl (zac M), .pl (zat (nms (zaz W E))), .ac (zcy R), .no, .no, .no] = some false:=by
  have hp : zbs (eCB lenD (zab (eVar 2) aNil)) [.pl (zas W c.length rs), .pl (zan c), .pl (zac M), .pl (zat (nms (zaz W E))), .ac (zcy R), .no, .no, .no] = some (some (M.length : Int)):=zkz (zadv (f:=false) (bs:=[]) rfl)
  have sl : ∃ bs, eSl (eVar 4) zeb (zbs (eCB lenD (zab (eVar 2) aNil))) [.pl (zas W c.length rs), .pl (zan c), .pl (zac M), .pl (zat (nms (zaz W E))), .ac (zcy R), .no, .no, .no] = some ⟨.list (M.map fun n=>zac [n]), true, bs⟩:=by
   unfold eSl
   rw [hp]
   refine ⟨[4], ?_⟩
   show some (⟨.list (cutD (R.map zac) none (some (M.length : Int))), true, [4]⟩ : Val) = _
   rw [zry _ _ (by rw [List.length_map]; exact hRl), ← List.map_take, hdec, List.take_append_of_le_length (by rw [List.length_map]; exact Nat.le_refl _), List.take_of_length_le (by rw [List.length_map]; exact Nat.le_refl _), List.map_map]
   rfl
  obtain ⟨bs, sl⟩:=sl
  refine zaiy sl cm2 ?_
  have:=zjl (l:=M.map fun n=>[n]) (fun ks hk=>by
   obtain ⟨n, hn, rfl⟩:=List.mem_map.mp hk
   intro k hk
   rw [List.mem_singleton.mp hk]; exact lowN n hn)
  unfold zcy at this
  rw [List.map_map] at this
  exact this
 have t2 : zkv (zbh (eOp eqD (eVar 3) (eTup (zab (eC (.str "none")) aNil)))) (zbh (eOp neD (eCB lenD (zab (eVar 4) aNil)) (eCB lenD (zab (eVar 2) aNil)))) [.pl (zas W c.length rs), .pl (zan c), .pl (zac M), .pl (zat (nms (zaz W E))), .ac (zcy R), .no, .no, .no] = some false:=by
  cases hE0 : zaz W E with
  | nil =>
   have : E = []:=zadm b.web okE hE0
   have hR0 : R.length = M.length:=by
    rw [hdec, this]
    show (M.map (fun n=>[n]) ++ []).length = _
    simp
   have q1 : zbh (eOp eqD (eVar 3) (eTup (zab (eC (.str "none")) aNil))) [.pl (zas W c.length rs), .pl (zan c), .pl (zac M), .pl (zat (nms [])), .ac (zcy R), .no, .no, .no] = some true:=zez (zaln (d:=zat []) (f1:=false) (f2:=false) (b1:=[]) (b2:=[]) rfl rfl (zfn (fun k hk=>by cases hk)))
   have q2 : zbh (eOp neD (eCB lenD (zab (eVar 4) aNil)) (eCB lenD (zab (eVar 2) aNil))) [.pl (zas W c.length rs), .pl (zan c), .pl (zac M), .pl (zat (nms [])), .ac (zcy R), .no, .no, .no] = some false:=by
    refine zez ?_
    unfold eOp
    rw [zaqw (f:=false) (bs:=[4]) rfl, zadv (f:=false) (bs:=[]) rfl, hR0]
    rw [Option.bind_some, Option.bind_some]
    exact congrArg (fun z=>z.bind fun z=>some (⟨z.1, z.2, bsOf z.1 ([4] ++ [])⟩ : Val)) (zxu _) |>.trans rfl
   unfold zkv
   rw [q1, Option.bind_some, if_pos rfl, q2]
  | cons x l =>
   have s2 : SeqAt.shaped (PyData.tuple [.str "none"]) = true:=zfn (xs:=[]) (fun k hk=>by cases hk)
   have sA : SeqAt.shaped (zat (nms (x :: l))) = true:=by rw [hE0] at lowE; exact zfn lowE
   have nv : PyData.eqv (zat (nms (x :: l))) (.tuple [.str "none"]) = false:=by
    cases l with
    | nil=>rfl
    | cons y l=>rfl
   have q1 : zbh (eOp eqD (eVar 3) (eTup (zab (eC (.str "none")) aNil))) [.pl (zas W c.length rs), .pl (zan c), .pl (zac M), .pl (zat (nms (x :: l))), .ac (zcy R), .no, .no, .no] = some false:=by
    refine zez ?_
    show ((eqD (zat (nms (x :: l))) (.tuple [.str "none"])).bind fun z=>some (⟨z.1, z.2, bsOf z.1 ([] ++ [])⟩ : Val)) = _
    unfold eqD eqOk
    rw [sA, s2, Bool.and_self, Bool.or_true, if_pos rfl, nv]
    rfl
   unfold zkv
   rw [q1]; rfl
 have t3 : zkv (zbh (eOp eqD (eIxV 3 (eC (.int 0))) (eC (.str "quarrel")))) (zbh (eOp neD (eSl (eVar 4) (zbs (eCB lenD (zab (eVar 2) aNil))) (zbs (eOp addD (eCB lenD (zab (eVar 2) aNil)) (eC (.int 1))))) (eLst (zab (eCB zme (zab (eIxV 3 (eC (.int 1))) aNil)) aNil)))) [.pl (zas W c.length rs), .pl (zan c), .pl (zac M), .pl (zat (nms (zaz W E))), .ac (zcy R), .no, .no, .no] = some false:=by
  match hE0 : zaz W E, fin with
  | [], _=>rfl
  | [r], fin=>exact absurd rfl (fin r)
  | x :: y :: l, _ =>
   have hEn : E ≠ []:=fun z=>by rw [z] at hE0; cases hE0
   have hR1 : R = M.map (fun n=>[n]) ++ (nms (x :: y :: l) :: (laF W 299 (E.filter fun x=>!decide (x ∈ zaz W E))).map nms):=by
    rw [hdec]
    congr 1
    have : laF W 300 E = zaz W E :: laF W 299 (E.filter fun x=>!decide (x ∈ zaz W E)):=by
     conv=>lhs; unfold laF
     rw [if_neg hEn]
    rw [this, hE0]
    rfl
   have hp1 : zbs (eCB lenD (zab (eVar 2) aNil)) [.pl (zas W c.length rs), .pl (zan c), .pl (zac M), .pl (zat (nms (x :: y :: l))), .ac (zcy R), .no, .no, .no] = some (some (M.length : Int)):=zkz (zadv (f:=false) (bs:=[]) rfl)
   have hp2 : zbs (eOp addD (eCB lenD (zab (eVar 2) aNil)) (eC (.int 1))) [.pl (zas W c.length rs), .pl (zan c), .pl (zac M), .pl (zat (nms (x :: y :: l))), .ac (zcy R), .no, .no, .no] = some (some ((M.length + 1 : Nat) : Int)):=by
    rw [zkz (zti (zadv (f:=false) (bs:=[]) rfl) rfl)]
    rfl
   have hR1l : M.length + 1 ≤ R.length:=by rw [hR1, List.length_append, List.length_map]; simp
   have sl : ∃ bs, eSl (eVar 4) (zbs (eCB lenD (zab (eVar 2) aNil))) (zbs (eOp addD (eCB lenD (zab (eVar 2) aNil)) (eC (.int 1)))) [.pl (zas W c.length rs), .pl (zan c), .pl (zac M), .pl (zat (nms (x :: y :: l))), .ac (zcy R), .no, .no, .no] = some ⟨zcy [nms (x :: y :: l)], true, bs⟩:=by
    unfold eSl
    rw [hp1, hp2]
    refine ⟨[4], ?_⟩
    show some (⟨.list (cutD (R.map zac) (some (M.length : Int)) (some ((M.length + 1 : Nat) : Int))), true, [4]⟩ : Val) = _
    have cutm : cutD (R.map zac) (some (M.length : Int)) (some ((M.length + 1 : Nat) : Int)) = [zac (nms (x :: y :: l))]:=by
     unfold cutD
     have i1 : HT.sIx (R.map zac).length 0 (some (M.length : Int)) = M.length:=by
      unfold HT.sIx; rw [List.length_map]; simp only; split <;> omega
     have i2 : HT.sIx (R.map zac).length (R.map zac).length (some ((M.length + 1 : Nat) : Int)) = M.length + 1:=by
      unfold HT.sIx; rw [List.length_map]; simp only; split <;> omega
     rw [i1, i2, ← List.map_drop, hR1, List.drop_append_of_le_length (by rw [List.length_map]; exact Nat.le_refl _), List.drop_of_length_le (by rw [List.length_map]; exact Nat.le_refl _)]
     simp
    rw [cutm]
    rfl
   obtain ⟨bs, sl⟩:=sl
   have ll : eLst (zab (eCB zme (zab (eIxV 3 (eC (.int 1))) aNil)) aNil) [.pl (zas W c.length rs), .pl (zan c), .pl (zac M), .pl (zat (nms (x :: y :: l))), .ac (zcy R), .no, .no, .no] = some ⟨zcy [nms (x :: y :: l)], true, []⟩:=rfl
   have q2:=zaiy sl ll (zjl fun ks hk=>by
    rw [List.mem_singleton.mp hk]
    rw [hE0] at lowE; exact lowE)
   unfold zkv
   rw [show zbh (eOp eqD (eIxV 3 (eC (.int 0))) (eC (.str "quarrel"))) [.pl (zas W c.length rs), .pl (zan c), .pl (zac M), .pl (zat (nms (x :: y :: l))), .ac (zcy R), .no, .no, .no] = some true from rfl, Option.bind_some, if_pos rfl, q2]
 obtain ⟨gone, s5, s6, s7, g5, ge, lp⟩:=zaot b (A2:=.pl (zac M)) (A3:=.pl (zat (nms (zaz W E)))) (all:=R) 300 (fitL W rs c) [] 0 (.ac (zac [])) .no .no (.inr rfl) zabq.symm (by omega) (Nat.le_refl _) (by simp; omega) (by rw [hR]; rfl) (Nat.zero_le _)
 rw [hR] at lp
 have it : zmh (zab (eVar 4) aNil) [.pl (zas W c.length rs), .pl (zan c), .pl (zac M), .pl (zat (nms (zaz W E))), .ac (zcy R), .ac (zac []), .no, .no] = some ((R.zipIdx).map fun (p : List Str × Nat)=>PyData.tuple [.int (p.2 : Int), zac p.1], [4]):=by
  show some (zqg (R.map zac), [4]) = _
  rw [zqs]
 refine zgp (env:=[.pl (zas W c.length rs), .pl (zan c), .no, .no, .no, .no, .no, .no]) rfl (zaq (e1:=[.pl (zas W c.length rs), .pl (zan c), .pl (zac M), .pl (zat (nms (zaz W E))), .no, .no, .no, .no]) ?_ (zaq e4 (zaq (if_f t1 rfl) (zaq (if_f t2 rfl) (zaq (if_f t3 rfl) (zaq (zbv (r:=⟨zac [], true, []⟩) rfl) (zaq (zic it lp) (zgw (bs:=[]) ?_))))))))
 ·unfold sAsg
  rw [zbc (n:=2) (rs:=[⟨zas W c.length rs, false, []⟩, ⟨zan c, false, []⟩]) rfl rfl gch]
  rfl
 ·obtain ⟨bs, hv⟩:=e_hd (env:=[.pl (zas W c.length rs), .pl (zan c), .pl (zac M), .pl (zat (nms (zaz W E))), .pl (zcy R), s5, s6, s7]) (i:=5) rfl g5
  have lo:=zamk b gone
  rw [ge] at lo
  have wi:=zbc (n:=2) (g:=zbx) (f:=zab (eVar 0) (zab (eVar 5) aNil)) (rs:=[⟨zas W c.length rs, false, []⟩, ⟨zac gone, false, bs⟩]) (zbm rfl (zdv hv)) rfl (zkj (W:=W) (p:=c.length) (rs:=rs) (ns:=gone) b.rul.len)
  have la:=zbc (n:=2) (g:=zfy) (f:=zab (zav 2 zbx (zab (eVar 0) (zab (eVar 5) aNil))) (zab (eVar 1) aNil)) (zbm wi (zdv (a:=eVar 1) (r:=⟨zan c, false, []⟩) rfl)) rfl lo
  exact zaln (d:=zcy []) (f2:=true) (b2:=[]) la rfl (zjl fun ks hk=>by cases hk)
end Bc
namespace Bc
open PySem L2
theorem zadw {A0 A1 A2 : Sl} {T : List Sl} : ∀ (post pre : List Rule) (s4 s5 : Sl), ((pre ++ post).map (·.1)).Nodup → (pre ++ post).length < 300 → ∃ s4' s5', forL (gT 2 (zay 5 (zay 4 zds))) (sPut 3 (eVar 5) (eVar 4)) (post.map zbt) (A0 :: A1 :: A2 :: .ac (.dict (dS zaj pre)) :: s4 :: s5 :: T) = some (.nx (A0 :: A1 :: A2 :: .ac (.dict (dS zaj (pre ++ post))) :: s4' :: s5' :: T))
 | [], pre, s4, s5, _, _=>⟨s4, s5, by rw [List.append_nil]; rfl⟩
 | p :: post, pre, s4, s5, nd, hl=>by
  have hn : p.1 ∉ pre.map (·.1):=fun hm=>by
   rw [List.map_append] at nd
   exact (List.nodup_append.mp nd).2.2 p.1 hm p.1 (by simp) rfl
  obtain ⟨s4', s5', ih⟩:=zadw (A0:=A0) (A1:=A1) (A2:=A2) (T:=T) post (pre ++ [p]) (.pl (zaj p.2)) (.pl (.str p.1)) (by rw [List.append_assoc]; exact nd) (by rw [List.append_assoc]; exact hl)
  refine ⟨s4', s5', ?_⟩
  rw [List.append_assoc] at ih
  rw [List.map_cons]
  unfold forL
  have st : sPut 3 (eVar 5) (eVar 4) (A0 :: A1 :: A2 :: .ac (.dict (dS zaj pre)) :: .pl (zaj p.2) :: .pl (.str p.1) :: T) = some (.nx (A0 :: A1 :: A2 :: .ac (.dict (dS zaj (pre ++ [p]))) :: .pl (zaj p.2) :: .pl (.str p.1) :: T)):=by
   show (if (dS zaj pre).length < 100000 ∧ 3 ∉ ([] : List Nat) then some (Out.nx (A0 :: A1 :: A2 :: .ac (.dict (zqf (dS zaj pre) (.str p.1) (zaj p.2))) :: .pl (zaj p.2) :: .pl (.str p.1) :: T)) else none) = _
   rw [if_pos ⟨by unfold dS; rw [List.length_map]; simp at hl; omega, by simp⟩, zrt zaj hn]
  show Option.bind (sPut 3 (eVar 5) (eVar 4) (A0 :: A1 :: A2 :: .ac (.dict (dS zaj pre)) :: .pl (zaj p.2) :: .pl (.str p.1) :: T)) _ = _
  rw [st, Option.bind_some]
  exact ih
noncomputable abbrev zaje : SF:=(sSeq (sIf (tOrF (zig (tTru (zav 3 zbz (zab (eVar 1) (zab (zbq 3 (eVar 5)) (zab (zbq 3 (eVar 8)) aNil)))))) (zig (tTru (zav 3 zgf (zab (eVar 1) (zab (zbq 3 (eVar 8)) (zab (eVar 2) aNil))))))) (sRet (eC (.bool false))) sNil)
  (sIf (tTru (eCB (anyD fun bs=>bs.any id) (zab (zdl ["_law_other"] [1, 3, 8] (zaw (eVar 7)) (gN 0) zdh (zav 3 zbz (zab (eVar 1) (zab (zbq 2 (eVar 0)) (zab (zbq 2 (eVar 3)) aNil))))) aNil))) (sRet (eC (.bool false))) sNil))
noncomputable abbrev zaqx : SF:=(sSeq (sSet 6 (zav 3 zfx (zab (eVar 0) (zab (eVar 2) (zab (eVar 5) aNil)))))
  (sSeq (sSet 7 (eLst aNil))
  (sSeq (sIf (zbh (eOp eqD (eIxV 6 (eC (.int 0))) (eC (.str "rule")))) (sSet 7 (eLst (zab (eIxV 6 (eC (.int 1))) aNil))) sNil)
  (sSeq (sIf (zbh (eOp eqD (eIxV 6 (eC (.int 0))) (eC (.str "quarrel")))) (sSet 7 (eCB zme (zab (eIxV 6 (eC (.int 1))) aNil))) sNil)
  (sFor (zaw (eVar 7)) (gN 8) zaje)))))
theorem zws {W : Web} {rs : List Rule} {c : List Arm} (b : Bk W rs c) : zha [zas W c.length rs, .dict (dS zac (ups W)), zan c] = some (.bool true, false):=by
 have hsub : ∀ x ∈ fitL W rs c, x ∈ rs:=fun x hx=>(List.mem_filter.mp hx).1
 obtain ⟨s4, s5, by1⟩:=zadw (A0:=.pl (zas W c.length rs)) (A1:=.pl (.dict (dS zac (ups W)))) (A2:=.pl (zan c)) (T:=[.no, .no, .no]) rs [] .no .no b.nd b.rul.len
 have nearOf : ∀ {q r : Rule}, q ∈ rs → r ∈ rs → zbz [.dict (dS zac (ups W)), zaj q.2, zaj r.2] = some (.bool (zca W q.2 r.2), false):=fun {q r} hq hr=>zqd b.web (b.rul.low q hq) (b.rul.low r hr) (b.rul.kinds q hq) (b.rul.few q hq) (by rw [b.ord.size q hq, b.ord.size r hr]; exact Nat.le_refl _)
 obtain ⟨env', lp, _⟩:=zfv (enc:=fun r : Rule=>PyData.str r.1) (g:=gN 5) (body:=zaqx) (l:=fitL W rs c) (env:=[.pl (zas W c.length rs), .pl (.dict (dS zac (ups W))), .pl (zan c), .ac (.dict (dS zaj rs)), s4, s5, .no, .no, .no])
  (fun _ env=>∃ s5 s6 s7 s8, env = [.pl (zas W c.length rs), .pl (.dict (dS zac (ups W))), .pl (zan c), .ac (.dict (dS zaj rs)), s4, s5, s6, s7, s8]) ⟨_, _, _, _, rfl⟩ (by
   rintro pre r post env hp ⟨s5, s6, s7, s8, rfl⟩
   have hrf : r ∈ fitL W rs c:=by rw [← hp]; simp
   have hrr:=hsub r hrf
   have on:=zwo b.web b.rul b.cal b.nd hrf
   have hO : ∀ x ∈ zaz W ((fitL W rs c).filter fun x=>zca W r.2 x.2), x ∈ rs ∧ fitB W x.2 c = true ∧ zca W r.2 x.2 = true:=fun x hx=>by
    have h1:=List.mem_filter.mp (zek.mp hx).1
    exact ⟨hsub x h1.1, (List.mem_filter.mp h1.1).2, h1.2⟩
   have hM : ∀ x ∈ zaz W ((fitL W rs c).filter fun x=>zca W r.2 x.2), ∀ y ∈ zaz W ((fitL W rs c).filter fun x=>zca W r.2 x.2), zca W y.2 x.2 = false:=fun x hx y hy=>(zek.mp hx).2 y (zek.mp hy).1
   have hlen : (zaz W ((fitL W rs c).filter fun x=>zca W r.2 x.2)).length < 300:=Nat.lt_of_le_of_lt (Nat.le_trans (List.length_filter_le _ _) (Nat.le_trans (List.length_filter_le _ _) (List.length_filter_le _ _))) b.rul.len
   generalize zaz W ((fitL W rs c).filter fun x=>zca W r.2 x.2) = O at on hO hM hlen
   have e6 : sSet 6 (zav 3 zfx (zab (eVar 0) (zab (eVar 2) (zab (eVar 5) aNil)))) [.pl (zas W c.length rs), .pl (.dict (dS zac (ups W))), .pl (zan c), .ac (.dict (dS zaj rs)), s4, .pl (.str r.1), s6, s7, s8] = some (.nx [.pl (zas W c.length rs), .pl (.dict (dS zac (ups W))), .pl (zan c), .ac (.dict (dS zaj rs)), s4, .pl (.str r.1), .pl (zat (nms O)), s7, s8]):=by
    rw [zbv (zbc (n:=3) (rs:=[⟨zas W c.length rs, false, []⟩, ⟨zan c, false, []⟩, vs r.1]) rfl rfl on)]
    have : bsOf (zat (nms O)) (bss [⟨zas W c.length rs, false, []⟩, ⟨zan c, false, []⟩, vs r.1]) = []:=by unfold bsOf; split <;> rfl
    rw [this]
    rfl
   have others : ∃ (o1 o2 : Out), sIf (zbh (eOp eqD (eIxV 6 (eC (.int 0))) (eC (.str "rule")))) (sSet 7 (eLst (zab (eIxV 6 (eC (.int 1))) aNil))) sNil [.pl (zas W c.length rs), .pl (.dict (dS zac (ups W))), .pl (zan c), .ac (.dict (dS zaj rs)), s4, .pl (.str r.1), .pl (zat (nms O)), .ac (zac []), s8] = some o1 ∧ (∃ ns, o1 = .nx [.pl (zas W c.length rs), .pl (.dict (dS zac (ups W))), .pl (zan c), .ac (.dict (dS zaj rs)), s4, .pl (.str r.1), .pl (zat (nms O)), .ac (zac ns), s8] ∧ sIf (zbh (eOp eqD (eIxV 6 (eC (.int 0))) (eC (.str "quarrel")))) (sSet 7 (eCB zme (zab (eIxV 6 (eC (.int 1))) aNil))) sNil [.pl (zas W c.length rs), .pl (.dict (dS zac (ups W))), .pl (zan c), .ac (.dict (dS zaj rs)), s4, .pl (.str r.1), .pl (zat (nms O)), .ac (zac ns), s8] = some (.nx [.pl (zas W c.length rs), .pl (.dict (dS zac (ups W))), .pl (zan c), .ac (.dict (dS zaj rs)), s4, .pl (.str r.1), .pl (zat (nms O)), .ac (zac (nms O)), s8])):=by
    match O with
    | []=>exact ⟨_, .bk [], rfl, [], rfl, rfl⟩
    | [x]=>exact ⟨_, .bk [], rfl, [x.1], rfl, rfl⟩
    | x :: y :: l=>exact ⟨_, .bk [], rfl, [], rfl, rfl⟩
   obtain ⟨o1, _, f1, ns, rfl, f2⟩:=others
   have inner:=zrq (enc:=fun x : Rule=>PyData.str x.1) (g:=gN 8) (body:=zaje) (fun _=>true) (.bool false) false (fun env=>∃ s8, env = [.pl (zas W c.length rs), .pl (.dict (dS zac (ups W))), .pl (zan c), .ac (.dict (dS zaj rs)), s4, .pl (.str r.1), .pl (zat (nms O)), .pl (zac (nms O)), s8]) O [.pl (zas W c.length rs), .pl (.dict (dS zac (ups W))), .pl (zan c), .ac (.dict (dS zaj rs)), s4, .pl (.str r.1), .pl (zat (nms O)), .pl (zac (nms O)), s8] ⟨_, rfl⟩ (by
    rintro x hx env ⟨s8, rfl⟩
    obtain ⟨hxr, hxf, hxn⟩:=hO x hx
    refine ⟨_, rfl, fun _=>?_, fun z=>by cases z⟩
    have g1:=nearOf hrr hxr
    rw [hxn] at g1
    have g2:=zus b.web (ks:=x.2) b.cal (by rw [b.ord.size x hxr]; exact Nat.le_refl _)
    rw [hxf] at g2
    have gr : zbq 3 (eVar 5) [.pl (zas W c.length rs), .pl (.dict (dS zac (ups W))), .pl (zan c), .ac (.dict (dS zaj rs)), s4, .pl (.str r.1), .pl (zat (nms O)), .pl (zac (nms O)), .pl (.str x.1)] = some ⟨zaj r.2, false, []⟩:=znt (k:=3) (.inr rfl) rfl (zuu b.nd hrr)
    have gx : zbq 3 (eVar 8) [.pl (zas W c.length rs), .pl (.dict (dS zac (ups W))), .pl (zan c), .ac (.dict (dS zaj rs)), s4, .pl (.str r.1), .pl (zat (nms O)), .pl (zac (nms O)), .pl (.str x.1)] = some ⟨zaj x.2, false, []⟩:=znt (k:=3) (.inr rfl) rfl (zuu b.nd hxr)
    have t1 : tOrF (zig (tTru (zav 3 zbz (zab (eVar 1) (zab (zbq 3 (eVar 5)) (zab (zbq 3 (eVar 8)) aNil)))))) (zig (tTru (zav 3 zgf (zab (eVar 1) (zab (zbq 3 (eVar 8)) (zab (eVar 2) aNil)))))) [.pl (zas W c.length rs), .pl (.dict (dS zac (ups W))), .pl (zan c), .ac (.dict (dS zaj rs)), s4, .pl (.str r.1), .pl (zat (nms O)), .pl (zac (nms O)), .pl (.str x.1)] = some false :=
     zaor (zpp (zbc (n:=3) (rs:=[⟨.dict (dS zac (ups W)), false, []⟩, ⟨zaj r.2, false, []⟩, ⟨zaj x.2, false, []⟩]) (zbm rfl (zbm gr (zdv gx))) rfl g1)) (zpp (zbc (n:=3) (rs:=[⟨.dict (dS zac (ups W)), false, []⟩, ⟨zaj x.2, false, []⟩, ⟨zan c, false, []⟩]) (zbm rfl (zbm gx (zdv rfl))) rfl g2))
    have cm : zee (gN 0) zdh (zav 3 zbz (zab (eVar 1) (zab (zbq 2 (eVar 0)) (zab (zbq 2 (eVar 3)) aNil)))) [.no, .pl (.dict (dS zac (ups W))), .pl (.dict (dS zaj rs)), .pl (.str x.1)] (O.map fun y : Rule=>PyData.str y.1) = some (O.map fun y=>.bool (zca W y.2 x.2)):=by
     refine zdu (enc:=fun y : Rule=>PyData.str y.1) (out:=fun y=>.bool (zca W y.2 x.2)) fun y hy=>⟨[.pl (.str y.1), .pl (.dict (dS zac (ups W))), .pl (.dict (dS zaj rs)), .pl (.str x.1)], rfl, rfl, vb (zca W y.2 x.2), ?_, rfl⟩
     have hyr:=(hO y hy).1
     exact zbc (n:=3) (rs:=[⟨.dict (dS zac (ups W)), false, []⟩, ⟨zaj y.2, false, []⟩, ⟨zaj x.2, false, []⟩]) (zbm rfl (zbm (znt (k:=2) (.inl rfl) rfl (zuu b.nd hyr)) (zdv (znt (k:=2) (.inl rfl) rfl (zuu b.nd hxr))))) rfl (nearOf hyr hxr)
    have em : (nms O).map PyData.str = O.map fun y : Rule=>PyData.str y.1:=by unfold nms; rw [List.map_map]; rfl
    have an:=zalg (f:=fun y : Rule=>zca W y.2 x.2) (zeo (own:=["_law_other"]) (fr:=[1, 3, 8]) (fi:=zaw (eVar 7)) (env:=[.pl (zas W c.length rs), .pl (.dict (dS zac (ups W))), .pl (zan c), .ac (.dict (dS zaj rs)), s4, .pl (.str r.1), .pl (zat (nms O)), .pl (zac (nms O)), .pl (.str x.1)]) (ds:=(nms O).map .str) (bs:=[]) rfl (by rw [List.length_map, List.length_map]; omega) (by rw [em]; exact cm))
    have no : (O.any fun y=>zca W y.2 x.2) = false:=List.any_eq_false.mpr fun y hy=>by rw [hM x hx y hy]; decide
    rw [no] at an
    have t2 : tTru (eCB (anyD fun bs=>bs.any id) (zab (zdl ["_law_other"] [1, 3, 8] (zaw (eVar 7)) (gN 0) zdh (zav 3 zbz (zab (eVar 1) (zab (zbq 2 (eVar 0)) (zab (zbq 2 (eVar 3)) aNil))))) aNil)) [.pl (zas W c.length rs), .pl (.dict (dS zac (ups W))), .pl (zan c), .ac (.dict (dS zaj rs)), s4, .pl (.str r.1), .pl (zat (nms O)), .pl (zac (nms O)), .pl (.str x.1)] = some false:=by
     unfold tTru
     rw [an]; rfl
    exact ⟨_, zaq (if_f t1 rfl) (if_f t2 rfl), _, rfl⟩)
   obtain ⟨env2, l2, s8', rfl⟩:=inner.1 (by simp)
   have em : (nms O).map PyData.str = O.map fun y : Rule=>PyData.str y.1:=by unfold nms; rw [List.map_map]; rfl
   rw [← em] at l2
   exact ⟨_, _, rfl, .inl (zaq e6 (zaq (zbv (r:=⟨zac [], true, []⟩) rfl) (zaq f1 (zaq f2 (zic (ds:=(nms O).map .str) (bs:=[7]) rfl l2))))), _, _, _, _, rfl⟩)
 have gf:=zaim b.web b.rul b.cal
 have em : ((fitL W rs c).map (·.1)).map PyData.str = (fitL W rs c).map fun y : Rule=>PyData.str y.1:=by rw [List.map_map]; rfl
 rw [← em] at lp
 have it : zaw (zav 2 zlg (zab (eVar 0) (zab (eVar 2) aNil))) [.pl (zas W c.length rs), .pl (.dict (dS zac (ups W))), .pl (zan c), .ac (.dict (dS zaj rs)), s4, s5, .no, .no, .no] = some (((fitL W rs c).map (·.1)).map PyData.str, []):=by
  unfold zaw
  rw [zbc (n:=2) (rs:=[⟨zas W c.length rs, false, []⟩, ⟨zan c, false, []⟩]) rfl rfl gf]
  rfl
 exact zgp (env:=[.pl (zas W c.length rs), .pl (.dict (dS zac (ups W))), .pl (zan c), .no, .no, .no, .no, .no, .no]) rfl (zaq rfl (zaq (zic (ds:=rs.map zbt) (bs:=[]) rfl by1) (zaq (zic it lp) rfl)))
end Bc
namespace Bc
open PySem L2
noncomputable def zzz : SF:=(sSeq (sSet 2 (eOp addD (eC (.int 1)) (eOp modD (eIxV 1 (eC (.int 0))) (eC (.int 3)))))
  (sSeq (sSet 3 (zav 2 zcu (zab (eOp addD (eC (.int 1)) (eOp modD (eOp zde (eIxV 1 (eC (.int 0))) (eC (.int 3))) (eOp ixD (eTup (zab (eC (.int 10)) (zab (eC (.int 10)) (zab (eC (.int 6)) aNil)))) (eOp subD (eVar 2) (eC (.int 1)))))) (zab (eIxV 1 (eC (.int 1))) aNil))))
  (sSeq (sSet 4 (zav 2 zkx (zab (eSl (eVar 1) (zbs (eC (.int 8))) (zbs (eC (.int 18)))) (zab (eVar 3) aNil))))
  (sSeq (sSet 5 (zav 1 znp (zab (eVar 4) aNil)))
  (sSeq (sSet 6 (zdl ["_law_cell"] [2, 3] (zaw (eSl (eVar 1) (zbs (eC (.int 4))) (zbs (eC (.int 7))))) (gN 0) zdh (zav 3 zge (zab (eVar 0) (zab (eVar 2) (zab (eVar 1) aNil))))))
  (sSeq (sSet 7 (zav 5 ziy (zab (eSl (eVar 1) (zbs (eC (.int 18))) (zbs (eC (.int 30)))) (zab (eVar 3) (zab (eVar 5) (zab (eIxV 6 (eC (.int 0))) (zab (zav 2 zcu (zab (eOp modD (eIxV 1 (eC (.int 3))) (eC (.int 13))) (zab (eIxV 1 (eC (.int 2))) aNil))) aNil)))))))
  (sSeq (sSet 8 (eTup (zab (zdl ["_law_name", "_law_elders"] [] (zaw (eVar 4)) (gT 2 (zay 0 (zay 1 zds))) zdh (eTup (zab (eVar 0) (zab (eCB zme (zab (eVar 1) aNil)) aNil)))) (zab (eVar 2) (zab (eCB zme (zab (eVar 7) aNil)) aNil)))))
  (sSeq (sFor (zaw (eVar 6)) (gN 9)
  (sSeq (sIf (tOrF (zig (tTru (zav 3 zgy (zab (eVar 8) (zab (eVar 5) (zab (eVar 9) aNil)))))) (zig (tTru (zav 2 zgz (zab (eVar 8) (zab (eVar 9) aNil)))))) (sRet (eC (.bool false))) sNil)
  (sIf (zig (tTru (zav 3 zha (zab (eVar 8) (zab (eVar 5) (zab (eVar 9) aNil)))))) (sRet (eC (.bool false))) sNil)))
  (sRet (eOp eqD (eVar 8) (eTup (zab (eVar 4) (zab (eVar 2) (zab (eVar 7) aNil))))))))))))))
theorem zabt {W : Web} {p : Nat} {rs : List Rule} (h : WebOk W) (lo : ∀ x ∈ nm W, Low x) (lr : ∀ r ∈ rs, PyData.strOk r.1 = true ∧ LowS r.2) : SeqAt.shaped (zas W p rs) = true:=by
 obtain ⟨w1, w2⟩:=zact W (zaok h lo)
 obtain ⟨r1, r2⟩:=ztb rs lr
 unfold SeqAt.shaped zas
 rw [Bool.and_eq_true]
 refine ⟨?_, decide_eq_true ?_⟩
 ·show (PyData.canLayAll0 (W.map rowD) && (true && (PyData.canLayAll0 (rs.map zbt) && true))) = true
  rw [w1, r1]; rfl
 ·show max (PyData.depthAll (W.map rowD) + 1) (max 0 (max (PyData.depthAll (rs.map zbt) + 1) 0)) + 1 ≤ 64
  omega
theorem zalo {cs : List Int} (hl : cs.length = 31) (h0 : ∀ c ∈ cs, 0 ≤ c) : zzz (envL 8 cs) = some (.rt (.bool true) false):=by
 have L : ∀ n : Nat, n < 31 → n < cs.length:=fun n h=>by rw [hl]; exact h
 have gc:=fun (n : Nat) (hn : n < cs.length)=>h0 (cs[n]'hn) (List.getElem_mem _)
 have md : ∀ (z j : Int), 0 < j → 0 ≤ z % j ∧ z % j < j:=fun z j hj=>⟨Int.emod_nonneg z (by omega), Int.emod_lt_of_pos z hj⟩
 have p3:=md (cs[0]'(L _ (by decide))) 3 (by decide)
 obtain ⟨p, hp⟩ : ∃ p : Nat, (1 : Int) + cs[0]'(L _ (by decide)) % 3 = (p : Int):=⟨(1 + cs[0]'(L _ (by decide)) % 3).toNat, by omega⟩
 have hpr : 1 ≤ p ∧ p ≤ 3:=by omega
 have e2 : sSet 2 (eOp addD (eC (.int 1)) (eOp modD (eIxV 1 (eC (.int 0))) (eC (.int 3)))) (envL 8 cs) = some (.nx [.no, .pl (zbw cs), .pl (.int p), .no, .no, .no, .no, .no, .no, .no]):=by
  rw [zbv (zti rfl (zii (zyd (n:=0) rfl rfl (L _ (by decide))) rfl (by decide))), hp]
  rfl
 have ev : ∃ v : Int, 0 < v ∧ v ≤ 10 ∧ eOp ixD (eTup (zab (eC (.int 10)) (zab (eC (.int 10)) (zab (eC (.int 6)) aNil)))) (eOp subD (eVar 2) (eC (.int 1))) [.no, .pl (zbw cs), .pl (.int p), .no, .no, .no, .no, .no, .no, .no] = some (vi v):=by
  have : p = 1 ∨ p = 2 ∨ p = 3:=by omega
  rcases this with rfl | rfl | rfl
  ·exact ⟨10, by decide, by decide, rfl⟩
  ·exact ⟨10, by decide, by decide, rfl⟩
  ·exact ⟨6, by decide, by decide, rfl⟩
 obtain ⟨v, v0, v10, ev⟩:=ev
 have mv:=md (cs[0]'(L _ (by decide)) / 3) v v0
 obtain ⟨xs, gx, lx, nx, lo⟩:=zqc (m:=1 + cs[0]'(L _ (by decide)) / 3 % v) (c:=cs[1]'(L _ (by decide))) (by omega) (by omega) (gc 1 (L _ (by decide)))
 have hx : 1 ≤ xs.length ∧ xs.length ≤ 10:=by omega
 have e3 : sSet 3 (zav 2 zcu (zab (eOp addD (eC (.int 1)) (eOp modD (eOp zde (eIxV 1 (eC (.int 0))) (eC (.int 3))) (eOp ixD (eTup (zab (eC (.int 10)) (zab (eC (.int 10)) (zab (eC (.int 6)) aNil)))) (eOp subD (eVar 2) (eC (.int 1)))))) (zab (eIxV 1 (eC (.int 1))) aNil))) [.no, .pl (zbw cs), .pl (.int p), .no, .no, .no, .no, .no, .no, .no] = some (.nx [.no, .pl (zbw cs), .pl (.int p), .ac (zac xs), .no, .no, .no, .no, .no, .no]) :=
  zbv (r:=⟨zac xs, true, []⟩) (zbc (n:=2) (rs:=[vi (1 + cs[0]'(L _ (by decide)) / 3 % v), vi (cs[1]'(L _ (by decide)))]) (zbm (zti rfl (zii (zky (zyd (n:=0) rfl rfl (L _ (by decide))) rfl (by decide) (by decide)) ev v0)) (zdv (zyd (n:=1) rfl rfl (L _ (by decide))))) rfl gx)
 obtain ⟨W, gw, hnm, ok⟩:=zahm (cs:=(cs.drop 8).take 10) (xs:=xs) (by rw [List.length_take, List.length_drop]; omega) (by omega) nx
 have lo' : ∀ x ∈ nm W, Low x:=by rw [hnm]; exact lo
 have e4 : sSet 4 (zav 2 zkx (zab (eSl (eVar 1) (zbs (eC (.int 8))) (zbs (eC (.int 18)))) (zab (eVar 3) aNil))) [.no, .pl (zbw cs), .pl (.int p), .ac (zac xs), .no, .no, .no, .no, .no, .no] = some (.nx [.no, .pl (zbw cs), .pl (.int p), .pl (zac xs), .ac (webD W), .no, .no, .no, .no, .no]):=by
  have es : eSl (eVar 1) (zbs (eC (.int 8))) (zbs (eC (.int 18))) [.no, .pl (zbw cs), .pl (.int p), .ac (zac xs), .no, .no, .no, .no, .no, .no] = some ⟨zbw ((cs.drop 8).take 10), true, []⟩:=by
   rw [show eSl (eVar 1) (zbs (eC (.int 8))) (zbs (eC (.int 18))) [.no, .pl (zbw cs), .pl (.int p), .ac (zac xs), .no, .no, .no, .no, .no, .no] = some ⟨.list (cutD (cs.map .int) (some ((8 : Nat) : Int)) (some ((18 : Nat) : Int))), true, []⟩ from rfl, zvn cs 8 18 (by omega) (by omega)]
   rfl
  exact zbv (r:=⟨webD W, true, [3]⟩) (zbc (n:=2) (rs:=[⟨zbw ((cs.drop 8).take 10), true, []⟩, ⟨zac xs, false, [3]⟩]) (zbm es (zdv rfl)) rfl gw)
 have e5 : sSet 5 (zav 1 znp (zab (eVar 4) aNil)) [.no, .pl (zbw cs), .pl (.int p), .pl (zac xs), .ac (webD W), .no, .no, .no, .no, .no] = some (.nx [.no, .pl (zbw cs), .pl (.int p), .pl (zac xs), .pl (webD W), .ac (.dict (dS zac (ups W))), .no, .no, .no, .no]) :=
  zbv (r:=⟨.dict (dS zac (ups W)), true, [4]⟩) (zbc (n:=1) (rs:=[⟨webD W, false, [4]⟩]) (zdv rfl) rfl (zakk ok))
 have H : ∀ c : Int, ∃ cl : List Arm, 0 ≤ c → (zge [.int c, zac xs, .int p] = some (zan cl, false) ∧ cl.length = p ∧ CallIn xs cl):=fun c=>by
  by_cases hc : 0 ≤ c
  ·obtain ⟨cl, h⟩:=zafc (xs:=xs) (c:=c) (p:=p) (by omega) hc hpr.2
   exact ⟨cl, fun _=>h⟩
  ·exact ⟨[], fun z=>absurd z hc⟩
 let f : Int → List Arm:=fun c=>Classical.choose (H c)
 have hf : ∀ c : Int, 0 ≤ c → (zge [.int c, zac xs, .int p] = some (zan (f c), false) ∧ (f c).length = p ∧ CallIn xs (f c)):=fun c=>Classical.choose_spec (H c)
 generalize f = f at hf
 have hcells : ∀ c ∈ (cs.drop 4).take 3, 0 ≤ c:=fun c hc=>h0 c (List.mem_of_mem_drop (List.mem_of_mem_take hc))
 have l3 : ((cs.drop 4).take 3).length = 3:=by rw [List.length_take, List.length_drop]; omega
 generalize hq : (cs.drop 4).take 3 = q3 at hcells l3
 have cm : zee (gN 0) zdh (zav 3 zge (zab (eVar 0) (zab (eVar 2) (zab (eVar 1) aNil)))) [.no, .pl (.int p), .pl (zac xs)] (q3.map .int) = some (q3.map fun c=>zan (f c)) :=
  zdu (enc:=PyData.int) (out:=fun c=>zan (f c)) fun c hc=>⟨[.pl (.int c), .pl (.int p), .pl (zac xs)], rfl, rfl, ⟨zan (f c), false, []⟩, zbc (n:=3) (rs:=[vi c, ⟨zac xs, false, []⟩, vi p]) rfl rfl (hf c (hcells c hc)).1, rfl⟩
 have e6 : sSet 6 (zdl ["_law_cell"] [2, 3] (zaw (eSl (eVar 1) (zbs (eC (.int 4))) (zbs (eC (.int 7))))) (gN 0) zdh (zav 3 zge (zab (eVar 0) (zab (eVar 2) (zab (eVar 1) aNil))))) [.no, .pl (zbw cs), .pl (.int p), .pl (zac xs), .pl (webD W), .ac (.dict (dS zac (ups W))), .no, .no, .no, .no] = some (.nx [.no, .pl (zbw cs), .pl (.int p), .pl (zac xs), .pl (webD W), .ac (.dict (dS zac (ups W))), .ac (.list (q3.map fun c=>zan (f c))), .no, .no, .no]):=by
  have it : zaw (eSl (eVar 1) (zbs (eC (.int 4))) (zbs (eC (.int 7)))) [.no, .pl (zbw cs), .pl (.int p), .pl (zac xs), .pl (webD W), .ac (.dict (dS zac (ups W))), .no, .no, .no, .no] = some (q3.map .int, []):=by
   unfold zaw
   rw [show eSl (eVar 1) (zbs (eC (.int 4))) (zbs (eC (.int 7))) [.no, .pl (zbw cs), .pl (.int p), .pl (zac xs), .pl (webD W), .ac (.dict (dS zac (ups W))), .no, .no, .no, .no] = some ⟨.list (cutD (cs.map .int) (some ((4 : Nat) : Int)) (some ((7 : Nat) : Int))), true, []⟩ from rfl, zvn cs 4 7 (by omega) (by omega), hq]
   rfl
  refine zbv (r:=⟨.list (q3.map fun c=>zan (f c)), true, []⟩) ?_
  rw [zeo (own:=["_law_cell"]) (fr:=[2, 3]) it (by rw [List.length_map]; omega) cm]
  have : (if zft (q3.map fun c=>zan (f c)) = true then ([] : List Nat) else [] ++ capA [2, 3] [.no, .pl (zbw cs), .pl (.int p), .pl (zac xs), .pl (webD W), .ac (.dict (dS zac (ups W))), .no, .no, .no, .no]) = []:=by split <;> rfl
  rw [this]
 obtain ⟨c1, q2, hq2⟩ : ∃ c1 q2, q3 = c1 :: q2:=by
  cases q3 with
  | nil=>cases l3
  | cons a b=>exact ⟨a, b, rfl⟩
 have hc1:=hf c1 (hcells c1 (by rw [hq2]; simp))
 have m13:=md (cs[3]'(L _ (by decide))) 13 (by decide)
 obtain ⟨ts, gt, lt, nt, lot⟩:=zqc (m:=cs[3]'(L _ (by decide)) % 13) (c:=cs[2]'(L _ (by decide))) (by omega) (by omega) (gc 2 (L _ (by decide)))
 obtain ⟨rs, gr, mk⟩:=zabl ok lo' (by rw [hnm]; omega) (cs:=(cs.drop 18).take 12) (c:=f c1) (ts:=ts) (fun z hz=>h0 z (List.mem_of_mem_drop (List.mem_of_mem_take hz))) (by rw [List.length_take, List.length_drop]; omega) (by omega) (by rw [hnm]; exact hc1.2.2) (by rw [hc1.2.1]; exact hpr.2)
 rw [hnm] at gr
 rw [hc1.2.1] at mk
 have e7 : sSet 7 (zav 5 ziy (zab (eSl (eVar 1) (zbs (eC (.int 18))) (zbs (eC (.int 30)))) (zab (eVar 3) (zab (eVar 5) (zab (eIxV 6 (eC (.int 0))) (zab (zav 2 zcu (zab (eOp modD (eIxV 1 (eC (.int 3))) (eC (.int 13))) (zab (eIxV 1 (eC (.int 2))) aNil))) aNil)))))) [.no, .pl (zbw cs), .pl (.int p), .pl (zac xs), .pl (webD W), .ac (.dict (dS zac (ups W))), .ac (.list (q3.map fun c=>zan (f c))), .no, .no, .no] = some (.nx [.no, .pl (zbw cs), .pl (.int p), .pl (zac xs), .pl (webD W), .pl (.dict (dS zac (ups W))), .ac (.list (q3.map fun c=>zan (f c))), .ac (zau rs), .no, .no]):=by
  have es : eSl (eVar 1) (zbs (eC (.int 18))) (zbs (eC (.int 30))) [.no, .pl (zbw cs), .pl (.int p), .pl (zac xs), .pl (webD W), .ac (.dict (dS zac (ups W))), .ac (.list (q3.map fun c=>zan (f c))), .no, .no, .no] = some ⟨zbw ((cs.drop 18).take 12), true, []⟩:=by
   rw [show eSl (eVar 1) (zbs (eC (.int 18))) (zbs (eC (.int 30))) [.no, .pl (zbw cs), .pl (.int p), .pl (zac xs), .pl (webD W), .ac (.dict (dS zac (ups W))), .ac (.list (q3.map fun c=>zan (f c))), .no, .no, .no] = some ⟨.list (cutD (cs.map .int) (some ((18 : Nat) : Int)) (some ((30 : Nat) : Int))), true, []⟩ from rfl, zvn cs 18 30 (by omega) (by omega)]
   rfl
  have ei : eIxV 6 (eC (.int 0)) [.no, .pl (zbw cs), .pl (.int p), .pl (zac xs), .pl (webD W), .ac (.dict (dS zac (ups W))), .ac (.list (q3.map fun c=>zan (f c))), .no, .no, .no] = some ⟨zan (f c1), false, []⟩:=zaqn (n:=0) rfl rfl (by rw [hq2]; rfl)
  have et : zav 2 zcu (zab (eOp modD (eIxV 1 (eC (.int 3))) (eC (.int 13))) (zab (eIxV 1 (eC (.int 2))) aNil)) [.no, .pl (zbw cs), .pl (.int p), .pl (zac xs), .pl (webD W), .ac (.dict (dS zac (ups W))), .ac (.list (q3.map fun c=>zan (f c))), .no, .no, .no] = some ⟨zac ts, true, []⟩:=zbc (n:=2) (rs:=[vi (cs[3]'(L _ (by decide)) % 13), vi (cs[2]'(L _ (by decide)))]) (zbm (zii (zyd (n:=3) rfl rfl (L _ (by decide))) rfl (by decide)) (zdv (zyd (n:=2) rfl rfl (L _ (by decide))))) rfl gt
  exact zbv (r:=⟨zau rs, true, [5]⟩) (zbc (n:=5) (rs:=[⟨zbw ((cs.drop 18).take 12), true, []⟩, ⟨zac xs, false, []⟩, ⟨.dict (dS zac (ups W)), false, [5]⟩, ⟨zan (f c1), false, []⟩, ⟨zac ts, true, []⟩]) (zbm es (zbm rfl (zbm rfl (zbm ei (zdv et))))) rfl gr)
 have hts : ts.length ≤ 16:=by omega
 have rok : RulesOk W rs:=mk.rules lo' hpr.2 hts
 have rlow : ∀ r ∈ rs, PyData.strOk r.1 = true:=fun r hr=>znr (lot r.1 (mk.sub.subset (List.mem_map.mpr ⟨r, hr, rfl⟩)))
 have e8 : sSet 8 (eTup (zab (zdl ["_law_name", "_law_elders"] [] (zaw (eVar 4)) (gT 2 (zay 0 (zay 1 zds))) zdh (eTup (zab (eVar 0) (zab (eCB zme (zab (eVar 1) aNil)) aNil)))) (zab (eVar 2) (zab (eCB zme (zab (eVar 7) aNil)) aNil)))) [.no, .pl (zbw cs), .pl (.int p), .pl (zac xs), .pl (webD W), .pl (.dict (dS zac (ups W))), .ac (.list (q3.map fun c=>zan (f c))), .ac (zau rs), .no, .no] = some (.nx [.no, .pl (zbw cs), .pl (.int p), .pl (zac xs), .pl (webD W), .pl (.dict (dS zac (ups W))), .ac (.list (q3.map fun c=>zan (f c))), .pl (zau rs), .pl (zas W p rs), .no]):=by
  refine zbv (r:=⟨zas W p rs, false, [7]⟩) ?_
  have cw:=zeo (own:=["_law_name", "_law_elders"]) (fr:=[]) (fi:=zaw (eVar 4)) (g:=gT 2 (zay 0 (zay 1 zds))) (t:=zdh) (e:=eTup (zab (eVar 0) (zab (eCB zme (zab (eVar 1) aNil)) aNil))) (env:=[.no, .pl (zbw cs), .pl (.int p), .pl (zac xs), .pl (webD W), .pl (.dict (dS zac (ups W))), .ac (.list (q3.map fun c=>zan (f c))), .ac (zau rs), .no, .no]) (ds:=W.map rowD) (bs:=[]) rfl (by rw [List.length_map]; have:=ok.len; omega) zakn
  have : (if zft (W.map rowD) = true then ([] : List Nat) else [] ++ capA [] [.no, .pl (zbw cs), .pl (.int p), .pl (zac xs), .pl (webD W), .pl (.dict (dS zac (ups W))), .ac (.list (q3.map fun c=>zan (f c))), .ac (zau rs), .no, .no]) = []:=by split <;> rfl
  rw [this] at cw
  unfold eTup
  unfold eTup at cw
  rw [zbm cw (zbm (r:=vi p) rfl (zdv (a:=eCB zme (zab (eVar 7) aNil)) (r:=⟨zau rs, true, [7]⟩) rfl))]
  rfl
 have bk : ∀ c ∈ q3, Bk W rs (f c):=fun c hc=>by
  have h:=hf c (hcells c hc)
  have ci : CallIn (nm W) (f c):=by rw [hnm]; exact h.2.2
  exact ⟨ok, rok, ci.ok (by rw [h.2.1]; exact hpr.2), ⟨mk.kinds, fun r hr=>by rw [h.2.1]; exact mk.size r hr⟩, mk.names nt, rlow⟩
 obtain ⟨env', lp, s9, rfl⟩:=zfv (enc:=fun c=>zan (f c)) (g:=gN 9) (l:=q3) (env:=[.no, .pl (zbw cs), .pl (.int p), .pl (zac xs), .pl (webD W), .pl (.dict (dS zac (ups W))), .pl (.list (q3.map fun c=>zan (f c))), .pl (zau rs), .pl (zas W p rs), .no])
  (body:=(sSeq (sIf (tOrF (zig (tTru (zav 3 zgy (zab (eVar 8) (zab (eVar 5) (zab (eVar 9) aNil)))))) (zig (tTru (zav 2 zgz (zab (eVar 8) (zab (eVar 9) aNil)))))) (sRet (eC (.bool false))) sNil)
  (sIf (zig (tTru (zav 3 zha (zab (eVar 8) (zab (eVar 5) (zab (eVar 9) aNil)))))) (sRet (eC (.bool false))) sNil)))
  (fun _ env=>∃ s9, env = [.no, .pl (zbw cs), .pl (.int p), .pl (zac xs), .pl (webD W), .pl (.dict (dS zac (ups W))), .pl (.list (q3.map fun c=>zan (f c))), .pl (zau rs), .pl (zas W p rs), s9]) ⟨_, rfl⟩ (by
   rintro pre c post env hpc ⟨s9, rfl⟩
   have hc : c ∈ q3:=by rw [← hpc]; simp
   have b:=bk c hc
   have hcl:=(hf c (hcells c hc)).2.1
   have g1:=zwp b
   have g2:=zwr b
   have g3:=zws b
   rw [hcl] at g1 g2 g3
   refine ⟨_, _, rfl, .inl (zaq (if_f (zaor (zpp (zbc (n:=3) (rs:=[⟨zas W p rs, false, []⟩, ⟨.dict (dS zac (ups W)), false, []⟩, ⟨zan (f c), false, []⟩]) rfl rfl g1)) (zpp (zbc (n:=2) (rs:=[⟨zas W p rs, false, []⟩, ⟨zan (f c), false, []⟩]) rfl rfl g2))) rfl) (if_f (zpp (zbc (n:=3) (rs:=[⟨zas W p rs, false, []⟩, ⟨.dict (dS zac (ups W)), false, []⟩, ⟨zan (f c), false, []⟩]) rfl rfl g3)) rfl)), _, rfl⟩)
 refine zaq e2 (zaq e3 (zaq e4 (zaq e5 (zaq e6 (zaq e7 (zaq e8 (zaq (zic (ds:=q3.map fun c=>zan (f c)) (bs:=[6]) rfl lp) (zgw (bs:=[]) ?_))))))))
 exact zaln (d:=zas W p rs) (f1:=false) (f2:=false) (b1:=[]) (b2:=[]) rfl rfl (zabt ok lo' fun r hr=>⟨rlow r hr, rok.low r hr⟩)
end Bc
namespace Bc
open PySem L2
section
variable {P : Program} {w : World} {K : PySem.W.Frag} {mg : Str → Option Value} {base : Heap}
theorem zars {s k : Int} (h1 : 0 ≤ s) (h2 : s < 2147483647) (h3 : 0 ≤ k) (h4 : k ≤ 64) : 0 ≤ s * (k + 2) + 7919 * k * k + 11 ∧ s * (k + 2) + 7919 * k * k + 11 < 200000000000:=by
 have a1 : 0 ≤ s * (k + 2):=Int.mul_nonneg h1 (by omega)
 have a2 : s * (k + 2) ≤ 2147483647 * 66:=Int.mul_le_mul (by omega) (by omega) (by omega) (by omega)
 have a3 : 0 ≤ 7919 * k * k:=Int.mul_nonneg (by omega) h3
 have a4 : 7919 * k * k ≤ 7919 * 64 * 64:=Int.mul_le_mul (by omega) h4 h3 (by omega)
 omega
noncomputable def zabu (K : PySem.W.Frag) : Sp:=fun vs H Q _=>∃ (a : Addr) (ns : List Int) (m : Int), vs = [.ref a, .int m] ∧ SqL K H a (ns.map .int) ∧ 0 ≤ m ∧ m ≤ 64 ∧
 ∀ p H' (cs : List Int), H p = none → Same H H' → H' p = some (.lst (cs.map .int)) → cs.length = m.toNat → (∀ c ∈ cs, 0 ≤ c ∧ c < 1000000000000) → Q (.ref p) H'
theorem zaaa {f : Addr} {fd : FuncData} (F : Fun K "_law_draws" "_law_draws" zhk f fd) (T : Txt mg) : FnOk P w K mg base CX0 1 f fd ["_law_script", "_law_many"] (zabu K):=by
 refine F.ok zyw (fun vs H Q E h=>?_) (fun cdv A outer s H vs Q E hr h=>?_)
 ·obtain ⟨a, ns, m, rfl, _⟩:=h
  rfl
 ·obtain ⟨a, ns, m, rfl, hS, h0, h64, k⟩:=h
  apply Exists.intro
  apply And.intro
  ·refine' (zne (zabx (i:=2) (hf:=Or.inl rfl) zgk rfl (Or.inl rfl) zjd)
 (zne (zafi PassesOwn.never rfl (zakd (K:=K) rfl (zabz (zkt (K:=K) rfl) (pv 0) zafs (zaft zjd))) (zaae (i:=3) (hf:=Or.inl rfl) zgk rfl (Or.inl rfl))
  (zon (zabx (i:=2) (hf:=Or.inl rfl) zgk rfl (Or.inl rfl) (zmc zdm (zmc (zcs (K:=K) rfl) (zmc zjm (pv 2) zjd) (zmc zdm (pv 3) zjd)) zjd))))
 (zne (zabx (i:=4) (hf:=Or.inl rfl) zgk rfl (Or.inl rfl) (zalt ztz))
 (zne (zafi PassesOwn.never rfl (zwv rfl T.range (zra (pv 1) ztz)) (zaae (i:=5) (hf:=Or.inl rfl) zgk rfl (Or.inl rfl))
  (zon (zapg (zafl zare (pv 5) (zaby (zdj (K:=K) rfl) (by rfl) T.len zep (zra (pv 0) ztz)) (zea _)) (zon (zaad (zagh (K:=K) rfl PySem.F.plainAttrs_list PySem.F.slot_list_append PySem.F.type_list_append zcz (pv 4) (zra (zmc zdm (zapq (zdi (K:=K) rfl) (pv 0) (pv 5) (fun _ _=>rfl)) (zmc zals zjd zjd)) ztz)))) (zon (zaad (zagh (K:=K) rfl PySem.F.plainAttrs_list PySem.F.slot_list_append PySem.F.type_list_append zcz (pv 4) (zra (zmc zey (zmc zdm (zmc zals (zmc (zcs (K:=K) rfl) (zmc (zcs (K:=K) rfl) (zmc zjm (pv 2) (zmc (zcs (K:=K) rfl) (pv 5) zjd)) (zmc zjm (zmc zjm zjd (pv 5)) (pv 5))) zjd) zjd) zjd) zjd) ztz)))))))
 (zon (zalr (pv 4)))))))
  refine ⟨_, rfl, _, rfl, a, _, rfl, hS, fun p hp=>⟨p, rfl, ⟨_, SqL.of zbn⟩, L2.for_list (xs:=cutV (ns.map V.int) none (some 63)) (fun i σ H1=>∃ (sd : Int) (v3 : Option V), σ = [some (.ref a), some (.int m), some (.int sd), v3, none, none] ∧ H1 = upd H p (.lst (cutV (ns.map V.int) none (some 63))) ∧ 0 ≤ sd ∧ sd < 2147483647)
   ⟨7, none, rfl, rfl, by decide, by decide⟩ (fun i σ H1 _ ⟨_, _, _, e, _⟩=>e ▸ SqL.of zbn) ?_ ?_⟩⟩
  ·rintro i x σ H1 hi ⟨sd, v3, rfl, rfl, b0, b1⟩
   obtain ⟨z, rfl⟩ : ∃ z, x = V.int z:=by
    have hm:=List.mem_of_getElem? hi
    unfold cutV at hm
    obtain ⟨z, _, e⟩:=List.mem_map.mp (List.mem_of_mem_drop (List.mem_of_mem_take hm))
    exact ⟨z, e.symm⟩
   refine ⟨_, rfl, .inl ⟨by omega, by omega⟩, _, rfl, _, _, rfl, rfl, (by show (0 : Int) < 2147483629; decide), _, _, rfl, rfl, (by show (0 : Int) < 2147483647; decide), ?_⟩
   exact ⟨_, _, rfl, rfl, Int.emod_nonneg _ (by decide), Int.emod_lt_of_pos _ (by decide)⟩
  ·rintro σ H1 ⟨sd, v3, rfl, rfl, b0, b1⟩
   refine ⟨Nat.zero_le _, fun q hq=>?_⟩
   have hqH : H q = none:=(Same.new hp).free hq
   have sH : ∀ o, Same H (upd (upd H p (.lst (cutV (ns.map V.int) none (some 63)))) q o):=fun o=>(Same.new hp).upd hqH
   refine ⟨_, rfl, m, rfl, by omega, by omega, L2.for_range (n:=m.toNat) (fun i σ H2=>∃ (cs : List Int) (v5 : Option V), σ = [some (.ref a), some (.int m), some (.int sd), v3, some (.ref q), v5] ∧ H2 = upd (upd H p (.lst (cutV (ns.map V.int) none (some 63)))) q (.lst (cs.map .int)) ∧ cs.length = i ∧ ∀ c ∈ cs, 0 ≤ c ∧ c < 1000000000000)
    ⟨[], none, rfl, rfl, rfl, fun _ h=>nomatch h⟩ ?_ ?_⟩
   ·rintro i σ H2 hi ⟨cs, v5, rfl, rfl, hc, hp0⟩
    have hi64 : (i : Int) ≤ 64:=by omega
    refine ⟨_, rfl, _, rfl, _, _, rfl, .inl ⟨_, (sH _).seq hS, rfl⟩, _, _, rfl, rfl, _, rfl, ?_⟩
    have lz : (cs.map V.int).length < sizeLine:=by rw [List.length_map, hc]; exact Nat.lt_of_le_of_lt (show i ≤ 64 by omega) (by decide)
    have fin : ∀ v : Int, 0 ≤ v → v < 1000000000000 → ∃ (cs' : List Int) (v5 : Option V), [some (.ref a), some (.int m), some (.int sd), v3, some (.ref q), some (.int (0 + (i : Int)))] = [some (.ref a), some (.int m), some (.int sd), v3, some (.ref q), v5] ∧
      upd (upd (upd H p (.lst (cutV (ns.map V.int) none (some 63)))) q (.lst (cs.map .int))) q (.lst (cs.map V.int ++ [.int v])) = upd (upd H p (.lst (cutV (ns.map V.int) none (some 63)))) q (.lst (cs'.map .int)) ∧ cs'.length = i + 1 ∧ ∀ c ∈ cs', 0 ≤ c ∧ c < 1000000000000:=fun v hv hv2=>by
     refine ⟨cs ++ [v], _, rfl, ?_, by simp [hc], fun c h=>?_⟩
     ·rw [zaml, List.map_append]; rfl
     ·rcases List.mem_append.mp h with h | h
      ·exact hp0 c h
      ·rw [List.mem_singleton.mp h]; exact ⟨hv, hv2⟩
    refine ite2 (fun h=>?_) (fun h=>?_)
    ·have h : (0 : Int) + i < ((ns.map V.int).length : Nat):=of_decide_eq_true h
     rw [List.length_map] at h
     have hin : i < ns.length:=by omega
     have ga : atI (ns.map V.int) (0 + (i : Int)) = some (.int ns[i]):=by
      rw [Int.zero_add]
      exact zoo (by rw [List.getElem?_map, List.getElem?_eq_getElem hin]; rfl)
     refine ⟨_, rfl, .inl ⟨rfl, _, SqL.of zbn⟩, _, rfl, _, rfl, _, _, .inl ((sH _).seq hS), ga, _, _, rfl, rfl, ⟨by decide, by decide, by decide⟩, _, _, rfl, rfl, (by show (0 : Int) < 10 ^ 12; decide), q, _, _, rfl, rfl, zbn, lz, ?_⟩
     exact fin _ (Int.emod_nonneg _ (by decide)) (Int.emod_lt_of_pos _ (by decide))
    ·obtain ⟨d1, d2⟩:=zars (s:=sd) (k:=0 + (i : Int)) b0 b1 (by omega) (by omega)
     refine ⟨_, rfl, .inl ⟨rfl, _, SqL.of zbn⟩, _, rfl, _, rfl, .inl ⟨by omega, by omega⟩, _, rfl, .inl ⟨by decide, by decide⟩, _, rfl, .inr ⟨by omega, by omega⟩, ?_⟩
     refine ⟨_, _, rfl, rfl, ⟨by decide, by decide, ?_⟩, _, _, rfl, rfl, (by show (0 : Int) < 2147483647; decide), _, _, rfl, rfl, ⟨by decide, by decide⟩, q, _, _, rfl, rfl, zbn, lz, ?_⟩
     ·show (sd * (0 + (i : Int) + 2) + 7919 * (0 + (i : Int)) * (0 + (i : Int)) + 11).natAbs < 2 ^ 64
      omega
     ·refine fin _ (Int.ediv_nonneg (Int.emod_nonneg _ (by decide)) (by decide)) ?_
      have h9 : ∀ z : Int, z % 2147483647 / 7 < 1000000000000:=fun z=>by have:=Int.emod_lt_of_pos z (show (0 : Int) < 2147483647 by decide); omega
      exact h9 _
   ·rintro σ H2 ⟨cs, v5, rfl, rfl, hc, hp0⟩
    exact ⟨_, rfl, k q _ cs hqH (sH _) zbn hc hp0⟩
end
section
variable {P : Program} {w : World} {K : PySem.W.Frag} {mg : Str → Option Value} {base : Heap}
noncomputable def zalp (K : PySem.W.Frag) : Sp:=fun vs H Q _=>∃ (a : Addr) (ns : List Int), vs = [.ref a] ∧ SqL K H a (ns.map V.int) ∧ ∀ H', Q (.bl true) H'
theorem zaqy {f : Addr} {fd : FuncData} (F : Fun K "law" "law" zwd f fd) (T : Txt mg) (D_law_call : zur P w K mg base) (D_law_chained : zoi P w K mg base) (D_law_draws : Dn P w K mg base "_law_draws" ["_law_script", "_law_many"] 1 (zabu K)) (D_law_farther : zok P w K mg base) (D_law_layered : zoj P w K mg base) (D_law_names : zss P w K mg base) (D_law_rules : zst P w K mg base) (D_law_up : zadf P w K mg base) (D_law_web : zzi P w K mg base) : FnOk P w K mg base CX0 9 f fd ["_law_script"] (zalp K):=by
 refine F.ok zaqv (fun vs H Q E h=>?_) (fun cdv A outer s H vs Q E hr h=>?_)
 ·obtain ⟨a, ns, rfl, _⟩:=h
  rfl
 ·obtain ⟨a, ns, rfl, hS, k⟩:=h
  have hu:=zfe hr
  apply Exists.intro
  apply And.intro
  ·refine' Bx.out (zah (zax (i:=1) zml rfl (Or.inl rfl) (zbk D_law_draws (hr.mono (by decide)) (by rfl) (zaa (bv 0) (zaa zam zai (by rfl)) (by rfl)) (by decide) (zaf (by rfl)) (by rfl)) (by rfl) (.inl rfl))
 (zah (zax (i:=2) zml rfl (Or.inr rfl) (zbe (zcs (K:=K) rfl) zam (zbe zdm (zcd (zdi (K:=K) rfl) (bv 1) zam (fun _ _=>rfl)) zam)) (by rfl) (.inl rfl))
 (zah (zax (i:=3) zml rfl (Or.inr rfl) (zbk D_law_names (hr.mono (by decide)) (by rfl) (zaa (zbe (zcs (K:=K) rfl) zam (zbe zdm (zbe zey (zcd (zdi (K:=K) rfl) (bv 1) zam (fun _ _=>rfl)) zam) (zcd (zdi (K:=K) rfl) (zfr (zaa zam (zaa zam (zaa zam zai (by rfl)) (by rfl)) (by rfl))) (zbe zpk (bv 2) zam) (fun _ _=>rfl)))) (zaa (zcd (zdi (K:=K) rfl) (bv 1) zam (fun _ _=>rfl)) zai (by rfl)) (by rfl)) (by decide) (zaf (by rfl)) (by rfl)) (by rfl) (.inl rfl))
 (zah (zax (i:=4) zml rfl (Or.inl rfl) (zbk D_law_web (hr.mono (by decide)) (by rfl) (zaa (zdb (zkt (K:=K) rfl) (bv 1) (zcv zam) (zcv zam)) (zaa (bv 3) zai (by rfl)) (by rfl)) (by decide) (zaf (by rfl)) (by rfl)) (by rfl) (.inl rfl))
 (zah (zax (i:=5) zml rfl (Or.inl rfl) (zbk D_law_up (hr.mono (by decide)) (by rfl) (zaa (bv 4) zai (by rfl)) (by decide) (zaf (by rfl)) (by rfl)) (by rfl) (.inl rfl))
 (zah (znw (i:=6) (zck (N':=["_law_cell", "_law_places", "_law_names_here"]) (own:=["_law_cell"]) (fr:=[2, 3]) (by kernel_rfl)) rfl (zbo (K:=K) rfl (zdb (zkt (K:=K) rfl) (bv 1) (zcv zam) (zcv zam))) ?hb1 (by rfl) zml rfl rfl (by intro _; rfl))
 (zah (zax (i:=7) zml rfl (Or.inl rfl) (zbk D_law_rules (hr.mono (by decide)) (by rfl) (zaa (zdb (zkt (K:=K) rfl) (bv 1) (zcv zam) (zcv zam)) (zaa (bv 3) (zaa (bv 5) (zaa (zcd (zdi (K:=K) rfl) (bv 6) zam (fun _ _=>rfl)) (zaa (zbk D_law_names (hr.mono (by decide)) (by rfl) (zaa (zbe zdm (zcd (zdi (K:=K) rfl) (bv 1) zam (fun _ _=>rfl)) zam) (zaa (zcd (zdi (K:=K) rfl) (bv 1) zam (fun _ _=>rfl)) zai (by rfl)) (by rfl)) (by decide) (zaf (by rfl)) (by rfl)) zai (by rfl)) (by rfl)) (by rfl)) (by rfl)) (by rfl)) (by decide) (zaf (by rfl)) (by rfl)) (by rfl) (.inl rfl))
 (zah (zax (i:=8) zml rfl (Or.inl rfl) (zfr (zaa (zdc (zck (N':=["_law_name", "_law_elders"]) (own:=["_law_name", "_law_elders"]) (fr:=[]) (by kernel_rfl)) rfl (zbo (K:=K) rfl (bv 4)) ?hb2 (by intro _; rfl)) (zaa (bv 2) (zaa (zdq (zij (K:=K) rfl) (by rfl) T.list zju (zaa (bv 7) zai (by rfl)) (by decide) (by decide) (zaf (by rfl)) (by rfl)) zai (by rfl)) (by rfl)) (by rfl))) (by rfl) (.inl rfl))
 (zah (zdy PassesOwn.never rfl (zbo (K:=K) rfl (bv 6)) (zap (i:=9) zml rfl (Or.inl rfl) (.inl rfl))
  (zah (zdo (zahw (zkh (zcp (K:=K) rfl (zbk D_law_chained (hr.mono (by decide)) (by rfl) (zaa (bv 8) (zaa (bv 5) (zaa (bv 9) zai (by rfl)) (by rfl)) (by rfl)) (by decide) (zaf (by rfl)) (by rfl)) (fun _=>rfl))) (zaat (zkh (zcp (K:=K) rfl (zbk D_law_layered (hr.mono (by decide)) (by rfl) (zaa (bv 8) (zaa (bv 9) zai (by rfl)) (by rfl)) (by decide) (zaf (by rfl)) (by rfl)) (fun _=>rfl))))).pt (zak (zbj ziv)) zch)
 (zak (zdo (zkh (zcp (K:=K) rfl (zbk D_law_farther (hr.mono (by decide)) (by rfl) (zaa (bv 8) (zaa (bv 5) (zaa (bv 9) zai (by rfl)) (by rfl)) (by rfl)) (by decide) (zaf (by rfl)) (by rfl)) (fun _=>rfl))) (zak (zbj ziv)) zch))) (by intro _; rfl))
 (zak (zbj (zji (zjg (K:=K) rfl hr.units) (bv 8) (zfr (zaa (bv 4) (zaa (bv 2) (zaa (bv 7) zai (by rfl)) (by rfl)) (by rfl))) (zea _)))))))))))))
   case hb1=>(intro cl C s H fp; refine' ⟨Bx.out (zap (i:=0) zaii rfl (Or.inl rfl) (by first | exact .inl rfl | exact .inr rfl | assumption)), Bx.out zga, Bx.out (zbk D_law_call (hr.mono (by decide)) (by rfl) (zaa (bv 0) (zaa (bv 2) (zaa (bv 1) zai (by rfl)) (by rfl)) (by rfl)) (by decide) (zaf (by rfl)) (by rfl))⟩)
   case hb2=>(intro cl C s H fp; refine' ⟨Bx.out (zcx (K:=K) (n:=2) rfl rfl (zba (zap (i:=0) zze rfl (Or.inl rfl) (by first | exact .inl rfl | exact .inr rfl | assumption)) (zba (zap (i:=1) zze rfl (Or.inl rfl) (by first | exact .inl rfl | exact .inr rfl | assumption)) zcw (by rfl)) (by rfl)) (by rfl) (by rfl)), Bx.out zga, Bx.out (zfr (zaa (bv 0) (zaa (zdq (zij (K:=K) rfl) (by rfl) T.list zju (zaa (bv 1) zai (by rfl)) (by decide) (by decide) (zaf (by rfl)) (by rfl)) zai (by rfl)) (by rfl)))⟩)
  refine ⟨_, rfl, a, ns, 31, rfl, hS, by decide, by decide, fun pc H1 cs hpc s1 e1 lc p1=>?_⟩
  exact zanz (F:=zzz) ((zar (zbg (zbd zhu (se_c fun _=>zag) (zbd zel (zcg (se_c fun _=>zag)) (se_c fun _=>zag)))) (zar (zbg (zbb (zae (zbd zhu (se_c fun _=>zag) (zbd zel (zbd zfp (zcg (se_c fun _=>zag)) (se_c fun _=>zag)) (zbd zanq (zia (zae (se_c fun _=>zag) (zae (se_c fun _=>zag) (zae (se_c fun _=>zag) zal)))) (zbd zpm (zad 2) (se_c fun _=>zag))))) (zae (zcg (se_c fun _=>zag)) zal)))) (zar (zbg (zbb (zae (zmf (zad 1) (zec (se_c fun _=>zag)) (zec (se_c fun _=>zag))) (zae (zad 3) zal)))) (zar (zbg (zbb (zae (zad 4) zal))) (zar (zbg (zef (zda (zmf (zad 1) (zec (se_c fun _=>zag)) (zec (se_c fun _=>zag)))) zcr (zhc (by decide)) ziu (zbb (zae (zad 0) (zae (zad 2) (zae (zad 1) zal)))))) (zar (zbg (zbb (zae (zmf (zad 1) (zec (se_c fun _=>zag)) (zec (se_c fun _=>zag))) (zae (zad 3) (zae (zad 5) (zae (zcg (se_c fun _=>zag)) (zae (zbb (zae (zbd zel (zcg (se_c fun _=>zag)) (se_c fun _=>zag)) (zae (zcg (se_c fun _=>zag)) zal))) zal))))))) (zar (zbg (zia (zae (zef (zda (zad 4)) (zgd (zbf (zbf zed))) (zrp (zew (by decide) (zew (by decide) zms))) ziu (zia (zae (zad 0) (zae (zfq zot (zae (zad 1) zal)) zal)))) (zae (zad 2) (zae (zfq zot (zae (zad 7) zal)) zal))))) (zar (zfu (zda (zad 6)) zcr (zar (zgo (zant (znk (zhz (zbb (zae (zad 8) (zae (zad 5) (zae (zad 9) zal)))))) (znk (zhz (zbb (zae (zad 8) (zae (zad 9) zal)))))) (zcm (se_c fun _=>zbl)) zem) (zgo (znk (zhz (zbb (zae (zad 8) (zae (zad 5) (zae (zad 9) zal)))))) (zcm (se_c fun _=>zbl)) zem))) (zcm (zbd znj (zad 8) (zia (zae (zad 4) (zae (zad 2) (zae (zad 7) zal))))))))))))))) (zaoa (n:=8) e1) (zalo lc (fun c h=>(p1 c h).1)) k
end
theorem us_s {us : List Value} {n : Nat} (h : us.length = n + 1) : ∃ a t, us = a :: t ∧ t.length = n:=by
 cases us with
 | nil=>cases h
 | cons a t=>exact ⟨a, t, rfl, Nat.succ.inj h⟩
theorem us_1 {us : List Value} (h : us.length = 1) : ∃ a0, us = [a0]:=by
 obtain ⟨a, t, rfl, h2⟩:=us_s h
 cases List.length_eq_zero_iff.mp h2
 exact ⟨a, rfl⟩
theorem us_2 {us : List Value} (h : us.length = 2) : ∃ a0 a1, us = [a0, a1]:=by
 obtain ⟨a0, t, rfl, h2⟩:=us_s h
 obtain ⟨a1, rfl⟩:=us_1 h2
 exact ⟨a0, a1, rfl⟩
theorem us_3 {us : List Value} (h : us.length = 3) : ∃ a0 a1 a2, us = [a0, a1, a2]:=by
 obtain ⟨a0, t, rfl, h2⟩:=us_s h
 obtain ⟨a1, a2, rfl⟩:=us_2 h2
 exact ⟨a0, a1, a2, rfl⟩
theorem us_4 {us : List Value} (h : us.length = 4) : ∃ a0 a1 a2 a3, us = [a0, a1, a2, a3]:=by
 obtain ⟨a0, t, rfl, h2⟩:=us_s h
 obtain ⟨a1, a2, a3, rfl⟩:=us_3 h2
 exact ⟨a0, a1, a2, a3, rfl⟩
theorem us_5 {us : List Value} (h : us.length = 5) : ∃ a0 a1 a2 a3 a4, us = [a0, a1, a2, a3, a4]:=by
 obtain ⟨a0, t, rfl, h2⟩:=us_s h
 obtain ⟨a1, a2, a3, a4, rfl⟩:=us_4 h2
 exact ⟨a0, a1, a2, a3, a4, rfl⟩
theorem all_mk {l : PySem.W.OpenLaw} {w : World} {K : PySem.W.Frag} {h : Heap} {mg : Str → Option Value} {fa f1 f2 f3 f4 f5 f6 f7 f8 f9 f10 f11 f12 f13 f14 f15 f16 f17 f18 f19 f20 f21 f22 f23 f24 f25 f26 f27 f28 f29 f30 f31 f32 f33 f34 f35 : Addr} (X : K.In h) (G : h.Ns mainGlobals mg) (hfa : mg "law" = some (.ref fa))
  {od1 an1 od2 an2 od3 an3 od4 an4 od5 an5 od6 an6 od7 an7 od8 an8 od9 an9 od10 an10 od11 an11 od12 an12 od13 an13 od14 an14 od15 an15 od16 an16 od17 an17 od18 an18 od19 an19 od20 an20 od21 an21 od22 an22 od23 an23 od24 an24 od25 an25 od26 an26 od27 an27 od28 an28 od29 an29 od30 an30 od31 an31 od32 an32 od33 an33 od34 an34 od35 an35 : Option Addr} {sl1 sl2 sl3 sl4 sl5 sl6 sl7 sl8 sl9 sl10 sl11 sl12 sl13 sl14 sl15 sl16 sl17 sl18 sl19 sl20 sl21 sl22 sl23 sl24 sl25 sl26 sl27 sl28 sl29 sl30 sl31 sl32 sl33 sl34 sl35 : Array (Option Value)} {oc1 kV1 dc1 pm1 cd1 ct1 oc2 kV2 dc2 pm2 cd2 ct2 oc3 kV3 dc3 pm3 cd3 ct3 oc4 kV4 dc4 pm4 cd4 ct4 oc5 kV5 dc5 pm5 cd5 ct5 oc6 kV6 dc6 pm6 cd6 ct6 oc7 kV7 dc7 pm7 cd7 ct7 oc8 kV8 dc8 pm8 cd8 ct8 oc9 kV9 dc9 pm9 cd9 ct9 oc10 kV10 dc10 pm10 cd10 ct10 oc11 kV11 dc11 pm11 cd11 ct11 oc12 kV12 dc12 pm12 cd12 ct12 oc13 kV13 dc13 pm13 cd13 ct13 oc14 kV14 dc14 pm14 cd14 ct14 oc15 kV15 dc15 pm15 cd15 ct15 oc16 kV16 dc16 pm16 cd16 ct16 oc17 kV17 dc17 pm17 cd17 ct17 oc18 kV18 dc18 pm18 cd18 ct18 oc19 kV19 dc19 pm19 cd19 ct19 oc20 kV20 dc20 pm20 cd20 ct20 oc21 kV21 dc21 pm21 cd21 ct21 oc22 kV22 dc22 pm22 cd22 ct22 oc23 kV23 dc23 pm23 cd23 ct23 oc24 kV24 dc24 pm24 cd24 ct24 oc25 kV25 dc25 pm25 cd25 ct25 oc26 kV26 dc26 pm26 cd26 ct26 oc27 kV27 dc27 pm27 cd27 ct27 oc28 kV28 dc28 pm28 cd28 ct28 oc29 kV29 dc29 pm29 cd29 ct29 oc30 kV30 dc30 pm30 cd30 ct30 oc31 kV31 dc31 pm31 cd31 ct31 oc32 kV32 dc32 pm32 cd32 ct32 oc33 kV33 dc33 pm33 cd33 ct33 oc34 kV34 dc34 pm34 cd34 ct34 oc35 kV35 dc35 pm35 cd35 ct35 : Value}
  (a1 : PySem.W.nsIn K mainGlobals "names_of" = some (some (.ref f1))) (l1 : K.lookup f1 = some ⟨oc1, od1, .func (PySem.W.fnOf "names_of" "names_of" (zbr zil) (zbp zil) (zao zil) .none kV1 dc1 pm1 an1 cd1 ct1), sl1⟩) (c1 : PySem.W.codeIn K cd1 "names_of" = true) (k1 : PySem.W.keepIn K (.ref f1) = true)
  (a2 : PySem.W.nsIn K mainGlobals "names_in" = some (some (.ref f2))) (l2 : K.lookup f2 = some ⟨oc2, od2, .func (PySem.W.fnOf "names_in" "names_in" (zbr zim) (zbp zim) (zao zim) .none kV2 dc2 pm2 an2 cd2 ct2), sl2⟩) (c2 : PySem.W.codeIn K cd2 "names_in" = true) (k2 : PySem.W.keepIn K (.ref f2) = true)
  (a3 : PySem.W.nsIn K mainGlobals "check_kinds" = some (some (.ref f3))) (l3 : K.lookup f3 = some ⟨oc3, od3, .func (PySem.W.fnOf "check_kinds" "check_kinds" (zbr zfi) (zbp zfi) (zao zfi) .none kV3 dc3 pm3 an3 cd3 ct3), sl3⟩) (c3 : PySem.W.codeIn K cd3 "check_kinds" = true) (k3 : PySem.W.keepIn K (.ref f3) = true)
  (a4 : PySem.W.nsIn K mainGlobals "roofs_of" = some (some (.ref f4))) (l4 : K.lookup f4 = some ⟨oc4, od4, .func (PySem.W.fnOf "roofs_of" "roofs_of" (zbr zin) (zbp zin) (zao zin) .none kV4 dc4 pm4 an4 cd4 ct4), sl4⟩) (c4 : PySem.W.codeIn K cd4 "roofs_of" = true) (k4 : PySem.W.keepIn K (.ref f4) = true)
  (a5 : PySem.W.nsIn K mainGlobals "roof_of" = some (some (.ref f5))) (l5 : K.lookup f5 = some ⟨oc5, od5, .func (PySem.W.fnOf "roof_of" "roof_of" (zbr zjv) (zbp zjv) (zao zjv) .none kV5 dc5 pm5 an5 cd5 ct5), sl5⟩) (c5 : PySem.W.codeIn K cd5 "roof_of" = true) (k5 : PySem.W.keepIn K (.ref f5) = true)
  (a6 : PySem.W.nsIn K mainGlobals "names_in_call" = some (some (.ref f6))) (l6 : K.lookup f6 = some ⟨oc6, od6, .func (PySem.W.fnOf "names_in_call" "names_in_call" (zbr zeh) (zbp zeh) (zao zeh) .none kV6 dc6 pm6 an6 cd6 ct6), sl6⟩) (c6 : PySem.W.codeIn K cd6 "names_in_call" = true) (k6 : PySem.W.keepIn K (.ref f6) = true)
  (a7 : PySem.W.nsIn K mainGlobals "check_call" = some (some (.ref f7))) (l7 : K.lookup f7 = some ⟨oc7, od7, .func (PySem.W.fnOf "check_call" "check_call" (zbr zgg) (zbp zgg) (zao zgg) .none kV7 dc7 pm7 an7 cd7 ct7), sl7⟩) (c7 : PySem.W.codeIn K cd7 "check_call" = true) (k7 : PySem.W.keepIn K (.ref f7) = true)
  (a8 : PySem.W.nsIn K mainGlobals "roofs_in_call" = some (some (.ref f8))) (l8 : K.lookup f8 = some ⟨oc8, od8, .func (PySem.W.fnOf "roofs_in_call" "roofs_in_call" (zbr zei) (zbp zei) (zao zei) .none kV8 dc8 pm8 an8 cd8 ct8), sl8⟩) (c8 : PySem.W.codeIn K cd8 "roofs_in_call" = true) (k8 : PySem.W.keepIn K (.ref f8) = true)
  (a9 : PySem.W.nsIn K mainGlobals "fits_under" = some (some (.ref f9))) (l9 : K.lookup f9 = some ⟨oc9, od9, .func (PySem.W.fnOf "fits_under" "fits_under" (zbr zgh) (zbp zgh) (zao zgh) .none kV9 dc9 pm9 an9 cd9 ct9), sl9⟩) (c9 : PySem.W.codeIn K cd9 "fits_under" = true) (k9 : PySem.W.keepIn K (.ref f9) = true)
  (a10 : PySem.W.nsIn K mainGlobals "is_nearer" = some (some (.ref f10))) (l10 : K.lookup f10 = some ⟨oc10, od10, .func (PySem.W.fnOf "is_nearer" "is_nearer" (zbr zhh) (zbp zhh) (zao zhh) .none kV10 dc10 pm10 an10 cd10 ct10), sl10⟩) (c10 : PySem.W.codeIn K cd10 "is_nearer" = true) (k10 : PySem.W.keepIn K (.ref f10) = true)
  (a11 : PySem.W.nsIn K mainGlobals "rules_that_fit" = some (some (.ref f11))) (l11 : K.lookup f11 = some ⟨oc11, od11, .func (PySem.W.fnOf "rules_that_fit" "rules_that_fit" (zbr zdr) (zbp zdr) (zao zdr) .none kV11 dc11 pm11 an11 cd11 ct11), sl11⟩) (c11 : PySem.W.codeIn K cd11 "rules_that_fit" = true) (k11 : PySem.W.keepIn K (.ref f11) = true)
  (a12 : PySem.W.nsIn K mainGlobals "nearest_of" = some (some (.ref f12))) (l12 : K.lookup f12 = some ⟨oc12, od12, .func (PySem.W.fnOf "nearest_of" "nearest_of" (zbr zgi) (zbp zgi) (zao zgi) .none kV12 dc12 pm12 an12 cd12 ct12), sl12⟩) (c12 : PySem.W.codeIn K cd12 "nearest_of" = true) (k12 : PySem.W.keepIn K (.ref f12) = true)
  (a13 : PySem.W.nsIn K mainGlobals "rule_names" = some (some (.ref f13))) (l13 : K.lookup f13 = some ⟨oc13, od13, .func (PySem.W.fnOf "rule_names" "rule_names" (zbr zgj) (zbp zgj) (zao zgj) .none kV13 dc13 pm13 an13 cd13 ct13), sl13⟩) (c13 : PySem.W.codeIn K cd13 "rule_names" = true) (k13 : PySem.W.keepIn K (.ref f13) = true)
  (a14 : PySem.W.nsIn K mainGlobals "answer_by" = some (some (.ref f14))) (l14 : K.lookup f14 = some ⟨oc14, od14, .func (PySem.W.fnOf "answer_by" "answer_by" (zbr zhi) (zbp zhi) (zao zhi) .none kV14 dc14 pm14 an14 cd14 ct14), sl14⟩) (c14 : PySem.W.codeIn K cd14 "answer_by" = true) (k14 : PySem.W.keepIn K (.ref f14) = true)
  (a15 : PySem.W.nsIn K mainGlobals "answer_among" = some (some (.ref f15))) (l15 : K.lookup f15 = some ⟨oc15, od15, .func (PySem.W.fnOf "answer_among" "answer_among" (zbr zet) (zbp zet) (zao zet) .none kV15 dc15 pm15 an15 cd15 ct15), sl15⟩) (c15 : PySem.W.codeIn K cd15 "answer_among" = true) (k15 : PySem.W.keepIn K (.ref f15) = true)
  (a16 : PySem.W.nsIn K mainGlobals "fitting" = some (some (.ref f16))) (l16 : K.lookup f16 = some ⟨oc16, od16, .func (PySem.W.fnOf "fitting" "fitting" (zbr zjw) (zbp zjw) (zao zjw) .none kV16 dc16 pm16 an16 cd16 ct16), sl16⟩) (c16 : PySem.W.codeIn K cd16 "fitting" = true) (k16 : PySem.W.keepIn K (.ref f16) = true)
  (a17 : PySem.W.nsIn K mainGlobals "nearest" = some (some (.ref f17))) (l17 : K.lookup f17 = some ⟨oc17, od17, .func (PySem.W.fnOf "nearest" "nearest" (zbr zjx) (zbp zjx) (zao zjx) .none kV17 dc17 pm17 an17 cd17 ct17), sl17⟩) (c17 : PySem.W.codeIn K cd17 "nearest" = true) (k17 : PySem.W.keepIn K (.ref f17) = true)
  (a18 : PySem.W.nsIn K mainGlobals "answer_of" = some (some (.ref f18))) (l18 : K.lookup f18 = some ⟨oc18, od18, .func (PySem.W.fnOf "answer_of" "answer_of" (zbr zhj) (zbp zhj) (zao zhj) .none kV18 dc18 pm18 an18 cd18 ct18), sl18⟩) (c18 : PySem.W.codeIn K cd18 "answer_of" = true) (k18 : PySem.W.keepIn K (.ref f18) = true)
  (a19 : PySem.W.nsIn K mainGlobals "onward" = some (some (.ref f19))) (l19 : K.lookup f19 = some ⟨oc19, od19, .func (PySem.W.fnOf "onward" "onward" (zbr zly) (zbp zly) (zao zly) .none kV19 dc19 pm19 an19 cd19 ct19), sl19⟩) (c19 : PySem.W.codeIn K cd19 "onward" = true) (k19 : PySem.W.keepIn K (.ref f19) = true)
  (a20 : PySem.W.nsIn K mainGlobals "chain" = some (some (.ref f20))) (l20 : K.lookup f20 = some ⟨oc20, od20, .func (PySem.W.fnOf "chain" "chain" (zbr zpb) (zbp zpb) (zao zpb) .none kV20 dc20 pm20 an20 cd20 ct20), sl20⟩) (c20 : PySem.W.codeIn K cd20 "chain" = true) (k20 : PySem.W.keepIn K (.ref f20) = true)
  (a21 : PySem.W.nsIn K mainGlobals "layers" = some (some (.ref f21))) (l21 : K.lookup f21 = some ⟨oc21, od21, .func (PySem.W.fnOf "layers" "layers" (zbr zlz) (zbp zlz) (zao zlz) .none kV21 dc21 pm21 an21 cd21 ct21), sl21⟩) (c21 : PySem.W.codeIn K cd21 "layers" = true) (k21 : PySem.W.keepIn K (.ref f21) = true)
  (a22 : PySem.W.nsIn K mainGlobals "_law_draws" = some (some (.ref f22))) (l22 : K.lookup f22 = some ⟨oc22, od22, .func (PySem.W.fnOf "_law_draws" "_law_draws" (zbr zhk) (zbp zhk) (zao zhk) .none kV22 dc22 pm22 an22 cd22 ct22), sl22⟩) (c22 : PySem.W.codeIn K cd22 "_law_draws" = true) (k22 : PySem.W.keepIn K (.ref f22) = true)
  (a23 : PySem.W.nsIn K mainGlobals "_law_names" = some (some (.ref f23))) (l23 : K.lookup f23 = some ⟨oc23, od23, .func (PySem.W.fnOf "_law_names" "_law_names" (zbr zhl) (zbp zhl) (zao zhl) .none kV23 dc23 pm23 an23 cd23 ct23), sl23⟩) (c23 : PySem.W.codeIn K cd23 "_law_names" = true) (k23 : PySem.W.keepIn K (.ref f23) = true)
  (a24 : PySem.W.nsIn K mainGlobals "_law_web" = some (some (.ref f24))) (l24 : K.lookup f24 = some ⟨oc24, od24, .func (PySem.W.fnOf "_law_web" "_law_web" (zbr zjz) (zbp zjz) (zao zjz) .none kV24 dc24 pm24 an24 cd24 ct24), sl24⟩) (c24 : PySem.W.codeIn K cd24 "_law_web" = true) (k24 : PySem.W.keepIn K (.ref f24) = true)
  (a25 : PySem.W.nsIn K mainGlobals "_law_up" = some (some (.ref f25))) (l25 : K.lookup f25 = some ⟨oc25, od25, .func (PySem.W.fnOf "_law_up" "_law_up" (zbr zma) (zbp zma) (zao zma) .none kV25 dc25 pm25 an25 cd25 ct25), sl25⟩) (c25 : PySem.W.codeIn K cd25 "_law_up" = true) (k25 : PySem.W.keepIn K (.ref f25) = true)
  (a26 : PySem.W.nsIn K mainGlobals "_law_parts" = some (some (.ref f26))) (l26 : K.lookup f26 = some ⟨oc26, od26, .func (PySem.W.fnOf "_law_parts" "_law_parts" (zbr zhm) (zbp zhm) (zao zhm) .none kV26 dc26 pm26 an26 cd26 ct26), sl26⟩) (c26 : PySem.W.codeIn K cd26 "_law_parts" = true) (k26 : PySem.W.keepIn K (.ref f26) = true)
  (a27 : PySem.W.nsIn K mainGlobals "_law_call" = some (some (.ref f27))) (l27 : K.lookup f27 = some ⟨oc27, od27, .func (PySem.W.fnOf "_law_call" "_law_call" (zbr zio) (zbp zio) (zao zio) .none kV27 dc27 pm27 an27 cd27 ct27), sl27⟩) (c27 : PySem.W.codeIn K cd27 "_law_call" = true) (k27 : PySem.W.keepIn K (.ref f27) = true)
  (a28 : PySem.W.nsIn K mainGlobals "_law_rules" = some (some (.ref f28))) (l28 : K.lookup f28 = some ⟨oc28, od28, .func (PySem.W.fnOf "_law_rules" "_law_rules" (zbr zhn) (zbp zhn) (zao zhn) .none kV28 dc28 pm28 an28 cd28 ct28), sl28⟩) (c28 : PySem.W.codeIn K cd28 "_law_rules" = true) (k28 : PySem.W.keepIn K (.ref f28) = true)
  (a29 : PySem.W.nsIn K mainGlobals "_law_fits" = some (some (.ref f29))) (l29 : K.lookup f29 = some ⟨oc29, od29, .func (PySem.W.fnOf "_law_fits" "_law_fits" (zbr ziq) (zbp ziq) (zao ziq) .none kV29 dc29 pm29 an29 cd29 ct29), sl29⟩) (c29 : PySem.W.codeIn K cd29 "_law_fits" = true) (k29 : PySem.W.keepIn K (.ref f29) = true)
  (a30 : PySem.W.nsIn K mainGlobals "_law_nearer" = some (some (.ref f30))) (l30 : K.lookup f30 = some ⟨oc30, od30, .func (PySem.W.fnOf "_law_nearer" "_law_nearer" (zbr zgl) (zbp zgl) (zao zgl) .none kV30 dc30 pm30 an30 cd30 ct30), sl30⟩) (c30 : PySem.W.codeIn K cd30 "_law_nearer" = true) (k30 : PySem.W.keepIn K (.ref f30) = true)
  (a31 : PySem.W.nsIn K mainGlobals "_law_without" = some (some (.ref f31))) (l31 : K.lookup f31 = some ⟨oc31, od31, .func (PySem.W.fnOf "_law_without" "_law_without" (zbr zfj) (zbp zfj) (zao zfj) .none kV31 dc31 pm31 an31 cd31 ct31), sl31⟩) (c31 : PySem.W.codeIn K cd31 "_law_without" = true) (k31 : PySem.W.keepIn K (.ref f31) = true)
  (a32 : PySem.W.nsIn K mainGlobals "_law_chained" = some (some (.ref f32))) (l32 : K.lookup f32 = some ⟨oc32, od32, .func (PySem.W.fnOf "_law_chained" "_law_chained" (zbr zfk) (zbp zfk) (zao zfk) .none kV32 dc32 pm32 an32 cd32 ct32), sl32⟩) (c32 : PySem.W.codeIn K cd32 "_law_chained" = true) (k32 : PySem.W.keepIn K (.ref f32) = true)
  (a33 : PySem.W.nsIn K mainGlobals "_law_layered" = some (some (.ref f33))) (l33 : K.lookup f33 = some ⟨oc33, od33, .func (PySem.W.fnOf "_law_layered" "_law_layered" (zbr zfl) (zbp zfl) (zao zfl) .none kV33 dc33 pm33 an33 cd33 ct33), sl33⟩) (c33 : PySem.W.codeIn K cd33 "_law_layered" = true) (k33 : PySem.W.keepIn K (.ref f33) = true)
  (a34 : PySem.W.nsIn K mainGlobals "_law_farther" = some (some (.ref f34))) (l34 : K.lookup f34 = some ⟨oc34, od34, .func (PySem.W.fnOf "_law_farther" "_law_farther" (zbr zfm) (zbp zfm) (zao zfm) .none kV34 dc34 pm34 an34 cd34 ct34), sl34⟩) (c34 : PySem.W.codeIn K cd34 "_law_farther" = true) (k34 : PySem.W.keepIn K (.ref f34) = true)
  (a35 : PySem.W.nsIn K mainGlobals "law" = some (some (.ref f35))) (l35 : K.lookup f35 = some ⟨oc35, od35, .func (PySem.W.fnOf "law" "law" (zbr zwd) (zbp zwd) (zao zwd) .none kV35 dc35 pm35 an35 cd35 ct35), sl35⟩) (c35 : PySem.W.codeIn K cd35 "law" = true) (k35 : PySem.W.keepIn K (.ref f35) = true)
  (z1 : PySem.W.nsIn K mainGlobals "all" = some none) (z2 : PySem.W.nsIn K mainGlobals "any" = some none) (z3 : PySem.W.nsIn K mainGlobals "dict" = some none) (z4 : PySem.W.nsIn K mainGlobals "enumerate" = some none) (z5 : PySem.W.nsIn K mainGlobals "isinstance" = some none) (z6 : PySem.W.nsIn K mainGlobals "len" = some none) (z7 : PySem.W.nsIn K mainGlobals "list" = some none) (z8 : PySem.W.nsIn K mainGlobals "min" = some none) (z9 : PySem.W.nsIn K mainGlobals "range" = some none) (z10 : PySem.W.nsIn K mainGlobals "tuple" = some none) (z11 : PySem.W.nsIn K mainGlobals "zip" = some none) :
  ∃ fd : FuncData, (∀ (s : Shared) (v : Value), BindsTo s fd ⟨[v], []⟩ [("_law_script", v)]) ∧ ∀ base : Heap, K.In base → base.Ns mainGlobals mg → FnOk l.prog w K mg base CX0 9 fa fd ["_law_script"] (zalp K):=by
 have e:=hfa.symm.trans (PySem.W.mg_of X G a35)
 cases e
 have T : Txt mg:=⟨PySem.W.mg_none_of X G z1, PySem.W.mg_none_of X G z2, PySem.W.mg_none_of X G z3, PySem.W.mg_none_of X G z4, PySem.W.mg_none_of X G z5, PySem.W.mg_none_of X G z6, PySem.W.mg_none_of X G z7, PySem.W.mg_none_of X G z8, PySem.W.mg_none_of X G z9, PySem.W.mg_none_of X G z10, PySem.W.mg_none_of X G z11⟩
 have F1:=zct (st:=zil) l1 c1 k1
 have b1:=F1.binds (ps:=["web"]) fun _ _ _ _ _ _ us hl=>by obtain ⟨_, rfl⟩:=us_1 hl; rfl
 have F2:=zct (st:=zim) l2 c2 k2
 have b2:=F2.binds (ps:=["arm"]) fun _ _ _ _ _ _ us hl=>by obtain ⟨_, rfl⟩:=us_1 hl; rfl
 have F3:=zct (st:=zfi) l3 c3 k3
 have b3:=F3.binds (ps:=["web", "names"]) fun _ _ _ _ _ _ us hl=>by obtain ⟨_, _, rfl⟩:=us_2 hl; rfl
 have F4:=zct (st:=zin) l4 c4 k4
 have b4:=F4.binds (ps:=["web"]) fun _ _ _ _ _ _ us hl=>by obtain ⟨_, rfl⟩:=us_1 hl; rfl
 have F5:=zct (st:=zjv) l5 c5 k5
 have b5:=F5.binds (ps:=["roofs", "arm"]) fun _ _ _ _ _ _ us hl=>by obtain ⟨_, _, rfl⟩:=us_2 hl; rfl
 have F6:=zct (st:=zeh) l6 c6 k6
 have b6:=F6.binds (ps:=["call"]) fun _ _ _ _ _ _ us hl=>by obtain ⟨_, rfl⟩:=us_1 hl; rfl
 have F7:=zct (st:=zgg) l7 c7 k7
 have b7:=F7.binds (ps:=["web", "places", "call"]) fun _ _ _ _ _ _ us hl=>by obtain ⟨_, _, _, rfl⟩:=us_3 hl; rfl
 have F8:=zct (st:=zei) l8 c8 k8
 have b8:=F8.binds (ps:=["roofs", "call"]) fun _ _ _ _ _ _ us hl=>by obtain ⟨_, _, rfl⟩:=us_2 hl; rfl
 have F9:=zct (st:=zgh) l9 c9 k9
 have b9:=F9.binds (ps:=["kinds", "call_roofs"]) fun _ _ _ _ _ _ us hl=>by obtain ⟨_, _, rfl⟩:=us_2 hl; rfl
 have F10:=zct (st:=zhh) l10 c10 k10
 have b10:=F10.binds (ps:=["roofs", "one", "other"]) fun _ _ _ _ _ _ us hl=>by obtain ⟨_, _, _, rfl⟩:=us_3 hl; rfl
 have F11:=zct (st:=zdr) l11 c11 k11
 have b11:=F11.binds (ps:=["book", "call"]) fun _ _ _ _ _ _ us hl=>by obtain ⟨_, _, rfl⟩:=us_2 hl; rfl
 have F12:=zct (st:=zgi) l12 c12 k12
 have b12:=F12.binds (ps:=["roofs", "rules"]) fun _ _ _ _ _ _ us hl=>by obtain ⟨_, _, rfl⟩:=us_2 hl; rfl
 have F13:=zct (st:=zgj) l13 c13 k13
 have b13:=F13.binds (ps:=["rules"]) fun _ _ _ _ _ _ us hl=>by obtain ⟨_, rfl⟩:=us_1 hl; rfl
 have F14:=zct (st:=zhi) l14 c14 k14
 have b14:=F14.binds (ps:=["names"]) fun _ _ _ _ _ _ us hl=>by obtain ⟨_, rfl⟩:=us_1 hl; rfl
 have F15:=zct (st:=zet) l15 c15 k15
 have b15:=F15.binds (ps:=["roofs", "rules"]) fun _ _ _ _ _ _ us hl=>by obtain ⟨_, _, rfl⟩:=us_2 hl; rfl
 have F16:=zct (st:=zjw) l16 c16 k16
 have b16:=F16.binds (ps:=["book", "call"]) fun _ _ _ _ _ _ us hl=>by obtain ⟨_, _, rfl⟩:=us_2 hl; rfl
 have F17:=zct (st:=zjx) l17 c17 k17
 have b17:=F17.binds (ps:=["book", "call"]) fun _ _ _ _ _ _ us hl=>by obtain ⟨_, _, rfl⟩:=us_2 hl; rfl
 have F18:=zct (st:=zhj) l18 c18 k18
 have b18:=F18.binds (ps:=["book", "call"]) fun _ _ _ _ _ _ us hl=>by obtain ⟨_, _, rfl⟩:=us_2 hl; rfl
 have F19:=zct (st:=zly) l19 c19 k19
 have b19:=F19.binds (ps:=["book", "call", "name"]) fun _ _ _ _ _ _ us hl=>by obtain ⟨_, _, _, rfl⟩:=us_3 hl; rfl
 have F20:=zct (st:=zpb) l20 c20 k20
 have b20:=F20.binds (ps:=["book", "call"]) fun _ _ _ _ _ _ us hl=>by obtain ⟨_, _, rfl⟩:=us_2 hl; rfl
 have F21:=zct (st:=zlz) l21 c21 k21
 have b21:=F21.binds (ps:=["book", "call"]) fun _ _ _ _ _ _ us hl=>by obtain ⟨_, _, rfl⟩:=us_2 hl; rfl
 have F22:=zct (st:=zhk) l22 c22 k22
 have b22:=F22.binds (ps:=["_law_script", "_law_many"]) fun _ _ _ _ _ _ us hl=>by obtain ⟨_, _, rfl⟩:=us_2 hl; rfl
 have F23:=zct (st:=zhl) l23 c23 k23
 have b23:=F23.binds (ps:=["_law_many", "_law_cell"]) fun _ _ _ _ _ _ us hl=>by obtain ⟨_, _, rfl⟩:=us_2 hl; rfl
 have F24:=zct (st:=zjz) l24 c24 k24
 have b24:=F24.binds (ps:=["_law_cells", "_law_names_here"]) fun _ _ _ _ _ _ us hl=>by obtain ⟨_, _, rfl⟩:=us_2 hl; rfl
 have F25:=zct (st:=zma) l25 c25 k25
 have b25:=F25.binds (ps:=["_law_web_here"]) fun _ _ _ _ _ _ us hl=>by obtain ⟨_, rfl⟩:=us_1 hl; rfl
 have F26:=zct (st:=zhm) l26 c26 k26
 have b26:=F26.binds (ps:=["_law_arm"]) fun _ _ _ _ _ _ us hl=>by obtain ⟨_, rfl⟩:=us_1 hl; rfl
 have F27:=zct (st:=zio) l27 c27 k27
 have b27:=F27.binds (ps:=["_law_cell", "_law_names_here", "_law_places"]) fun _ _ _ _ _ _ us hl=>by obtain ⟨_, _, _, rfl⟩:=us_3 hl; rfl
 have F28:=zct (st:=zhn) l28 c28 k28
 have b28:=F28.binds (ps:=["_law_cells", "_law_names_here", "_law_up_here", "_law_call_here", "_law_titles"]) fun _ _ _ _ _ _ us hl=>by obtain ⟨_, _, _, _, _, rfl⟩:=us_5 hl; rfl
 have F29:=zct (st:=ziq) l29 c29 k29
 have b29:=F29.binds (ps:=["_law_up_here", "_law_kinds", "_law_call_here"]) fun _ _ _ _ _ _ us hl=>by obtain ⟨_, _, _, rfl⟩:=us_3 hl; rfl
 have F30:=zct (st:=zgl) l30 c30 k30
 have b30:=F30.binds (ps:=["_law_up_here", "_law_one", "_law_other"]) fun _ _ _ _ _ _ us hl=>by obtain ⟨_, _, _, rfl⟩:=us_3 hl; rfl
 have F31:=zct (st:=zfj) l31 c31 k31
 have b31:=F31.binds (ps:=["_law_book", "_law_names_here"]) fun _ _ _ _ _ _ us hl=>by obtain ⟨_, _, rfl⟩:=us_2 hl; rfl
 have F32:=zct (st:=zfk) l32 c32 k32
 have b32:=F32.binds (ps:=["_law_book", "_law_up_here", "_law_call_here"]) fun _ _ _ _ _ _ us hl=>by obtain ⟨_, _, _, rfl⟩:=us_3 hl; rfl
 have F33:=zct (st:=zfl) l33 c33 k33
 have b33:=F33.binds (ps:=["_law_book", "_law_call_here"]) fun _ _ _ _ _ _ us hl=>by obtain ⟨_, _, rfl⟩:=us_2 hl; rfl
 have F34:=zct (st:=zfm) l34 c34 k34
 have b34:=F34.binds (ps:=["_law_book", "_law_up_here", "_law_call_here"]) fun _ _ _ _ _ _ us hl=>by obtain ⟨_, _, _, rfl⟩:=us_3 hl; rfl
 have F35:=zct (st:=zwd) l35 c35 k35
 refine ⟨PySem.W.fnOf "law" "law" (zbr zwd) (zbp zwd) (zao zwd) .none kV35 dc35 pm35 an35 cd35 ct35, fun s v=>.of_eq rfl, fun base _ _=>?_⟩
 have D_names_of : zuq l.prog w K mg base:=⟨f1, _, zabd F1 T , PySem.W.mg_of X G a1, k1, b1⟩
 have D_names_in : zpf l.prog w K mg base:=⟨f2, _, zabe F2 T , PySem.W.mg_of X G a2, k2, b2⟩
 have D_check_kinds : zoh l.prog w K mg base:=⟨f3, _, ztr F3 T D_names_of, PySem.W.mg_of X G a3, k3, b3⟩
 have D_roofs_of : zka l.prog w K mg base:=⟨f4, _, zabf F4 T , PySem.W.mg_of X G a4, k4, b4⟩
 have D_roof_of : zzf l.prog w K mg base:=⟨f5, _, zaev F5 T D_names_in, PySem.W.mg_of X G a5, k5, b5⟩
 have D_names_in_call : zlm l.prog w K mg base:=⟨f6, _, zqn F6 T D_names_in, PySem.W.mg_of X G a6, k6, b6⟩
 have D_check_call : zqa l.prog w K mg base:=⟨f7, _, zwe F7 T D_check_kinds D_names_in_call, PySem.W.mg_of X G a7, k7, b7⟩
 have D_roofs_in_call : zln l.prog w K mg base:=⟨f8, _, zqo F8 T D_roof_of, PySem.W.mg_of X G a8, k8, b8⟩
 have D_fits_under : zqb l.prog w K mg base:=⟨f9, _, zwf F9 T , PySem.W.mg_of X G a9, k9, b9⟩
 have D_is_nearer : zmz l.prog w K mg base:=⟨f10, _, zzj F10 T , PySem.W.mg_of X G a10, k10, b10⟩
 have D_rules_that_fit : zer l.prog w K mg base:=⟨f11, _, zph F11 T D_check_call D_fits_under D_roofs_in_call D_roofs_of, PySem.W.mg_of X G a11, k11, b11⟩
 have D_nearest_of : zjk l.prog w K mg base:=⟨f12, _, zwg F12 T D_is_nearer, PySem.W.mg_of X G a12, k12, b12⟩
 have D_rule_names : zgm l.prog w K mg base:=⟨f13, _, zwh F13 T , PySem.W.mg_of X G a13, k13, b13⟩
 have D_answer_by : zna l.prog w K mg base:=⟨f14, _, zzk F14 T , PySem.W.mg_of X G a14, k14, b14⟩
 have D_answer_among : zmn l.prog w K mg base:=⟨f15, _, zsu F15 T D_answer_by D_nearest_of D_rule_names, PySem.W.mg_of X G a15, k15, b15⟩
 have D_fitting : zzg l.prog w K mg base:=⟨f16, _, zaew F16 T D_rule_names D_rules_that_fit, PySem.W.mg_of X G a16, k16, b16⟩
 have D_nearest : zzh l.prog w K mg base:=⟨f17, _, zaex F17 T D_nearest_of D_roofs_of D_rule_names D_rules_that_fit, PySem.W.mg_of X G a17, k17, b17⟩
 have D_answer_of : znb l.prog w K mg base:=⟨f18, _, zzl F18 T D_answer_by D_nearest, PySem.W.mg_of X G a18, k18, b18⟩
 have D_onward : zqx l.prog w K mg base:=⟨f19, _, zaij F19 T D_answer_among D_is_nearer D_roofs_of D_rule_names D_rules_that_fit, PySem.W.mg_of X G a19, k19, b19⟩
 have D_chain : zabc l.prog w K mg base:=⟨f20, _, zalf F20 T D_answer_of D_onward, PySem.W.mg_of X G a20, k20, b20⟩
 have D_layers : zade l.prog w K mg base:=⟨f21, _, zaik F21 T D_nearest_of D_roofs_of D_rule_names D_rules_that_fit, PySem.W.mg_of X G a21, k21, b21⟩
 have D_law_draws : Dn l.prog w K mg base "_law_draws" ["_law_script", "_law_many"] 1 (zabu K):=⟨f22, _, zaaa F22 T , PySem.W.mg_of X G a22, k22, b22⟩
 have D_law_names : zss l.prog w K mg base:=⟨f23, _, zzm F23 T , PySem.W.mg_of X G a23, k23, b23⟩
 have D_law_web : zzi l.prog w K mg base:=⟨f24, _, zaey F24 T , PySem.W.mg_of X G a24, k24, b24⟩
 have D_law_up : zadf l.prog w K mg base:=⟨f25, _, zail F25 T , PySem.W.mg_of X G a25, k25, b25⟩
 have D_law_parts : znc l.prog w K mg base:=⟨f26, _, zzn F26 T , PySem.W.mg_of X G a26, k26, b26⟩
 have D_law_call : zur l.prog w K mg base:=⟨f27, _, zabg F27 T , PySem.W.mg_of X G a27, k27, b27⟩
 have D_law_rules : zst l.prog w K mg base:=⟨f28, _, zzo F28 T D_law_parts, PySem.W.mg_of X G a28, k28, b28⟩
 have D_law_fits : zpg l.prog w K mg base:=⟨f29, _, zabh F29 T D_law_parts, PySem.W.mg_of X G a29, k29, b29⟩
 have D_law_nearer : zlo l.prog w K mg base:=⟨f30, _, zwi F30 T D_law_fits, PySem.W.mg_of X G a30, k30, b30⟩
 have D_law_without : zki l.prog w K mg base:=⟨f31, _, zts F31 T , PySem.W.mg_of X G a31, k31, b31⟩
 have D_law_chained : zoi l.prog w K mg base:=⟨f32, _, ztt F32 T D_law_nearer D_law_without D_answer_of D_chain D_onward, PySem.W.mg_of X G a32, k32, b32⟩
 have D_law_layered : zoj l.prog w K mg base:=⟨f33, _, ztu F33 T D_law_without D_chain D_layers, PySem.W.mg_of X G a33, k33, b33⟩
 have D_law_farther : zok l.prog w K mg base:=⟨f34, _, ztv F34 T D_law_fits D_law_nearer D_fitting D_onward, PySem.W.mg_of X G a34, k34, b34⟩
 exact zaqy F35 T D_law_call D_law_chained D_law_draws D_law_farther D_law_layered D_law_names D_law_rules D_law_up D_law_web
theorem walk {l : PySem.W.OpenLaw} {q : Program} {loose : List Str} {XP : (Str → Option Value) → Heap → Prop} {YP : World → Heap → Prop} {d : DefRec} {K : Params → PySem.W.Frag} (hn : l.most = some 63) (hdf : d.params.defaults = [])
  (hY : ∀ (w : World) (h : Heap), YP w h → (K w.params).In h)
  (F : ∀ (w : World) (mg : Str → Option Value) (fa : Addr) (h : Heap), (K w.params).In h → h.Ns mainGlobals mg → mg d.name = some (.ref fa) →
   ∃ fd : FuncData, (∀ (s : Shared) (u : Value), BindsTo s fd ⟨[u], []⟩ [("_law_script", u)]) ∧ ∀ base : Heap, (K w.params).In base → base.Ns mainGlobals mg → FnOk l.prog w (K w.params) mg base CX0 9 fa fd ["_law_script"] (zalp (K w.params))) :
  PySem.W.WalkO q loose XP YP l.row.toRowW d [] (fun f vs=>PySem.call f vs) :=
 L2.walk_of (n:=63) (k:=9) (x:="_law_script") (CX:=fun _=>CX0) (sp:=fun w=>zalp (K w.params)) hn (by decide) hdf ⟨rfl, by decide, by decide⟩ hY F (fun _ _ a ns hl _ hS=>⟨a, ns, rfl, hS, fun _=>rfl⟩) fun _ _ _ _ _ z=>z
end Bc
theorem PySem.W.Fast.te7917647984530135104:True:=trivial
open PySem PySem.W PyProof.Rows
set_option maxRecDepth 100000 in
set_option maxHeartbeats 0 in
theorem PySem.Challenge.cw_bestcalls_k21_whole_onward_holds : PySem.Challenge.rw_bestcalls_k21_whole_onward.Holds := by
 w_on; o_law; k_head; (case hw=>w_witness2)
 k_fill
 refine Bc.walk (l:=PySem.Challenge.rw_bestcalls_k21_whole_onward) rfl rfl (fun w h Y=>PySem.W.kIn_of Y) ?F
 case F =>
  intro w mg fa h KX G hmg
  refine' Bc.all_mk KX G hmg ?a1 ?l1 ?c1 ?k1 ?a2 ?l2 ?c2 ?k2 ?a3 ?l3 ?c3 ?k3 ?a4 ?l4 ?c4 ?k4 ?a5 ?l5 ?c5 ?k5 ?a6 ?l6 ?c6 ?k6 ?a7 ?l7 ?c7 ?k7 ?a8 ?l8 ?c8 ?k8 ?a9 ?l9 ?c9 ?k9 ?a10 ?l10 ?c10 ?k10 ?a11 ?l11 ?c11 ?k11 ?a12 ?l12 ?c12 ?k12 ?a13 ?l13 ?c13 ?k13 ?a14 ?l14 ?c14 ?k14 ?a15 ?l15 ?c15 ?k15 ?a16 ?l16 ?c16 ?k16 ?a17 ?l17 ?c17 ?k17 ?a18 ?l18 ?c18 ?k18 ?a19 ?l19 ?c19 ?k19 ?a20 ?l20 ?c20 ?k20 ?a21 ?l21 ?c21 ?k21 ?a22 ?l22 ?c22 ?k22 ?a23 ?l23 ?c23 ?k23 ?a24 ?l24 ?c24 ?k24 ?a25 ?l25 ?c25 ?k25 ?a26 ?l26 ?c26 ?k26 ?a27 ?l27 ?c27 ?k27 ?a28 ?l28 ?c28 ?k28 ?a29 ?l29 ?c29 ?k29 ?a30 ?l30 ?c30 ?k30 ?a31 ?l31 ?c31 ?k31 ?a32 ?l32 ?c32 ?k32 ?a33 ?l33 ?c33 ?k33 ?a34 ?l34 ?c34 ?k34 ?a35 ?l35 ?c35 ?k35 ?z1 ?z2 ?z3 ?z4 ?z5 ?z6 ?z7 ?z8 ?z9 ?z10 ?z11
  (case a1=>k_is)
  (case l1=>k_is)
  (case c1=>k_is)
  (case k1=>k_is)
  (case a2=>k_is)
  (case l2=>k_is)
  (case c2=>k_is)
  (case k2=>k_is)
  (case a3=>k_is)
  (case l3=>k_is)
  (case c3=>k_is)
  (case k3=>k_is)
  (case a4=>k_is)
  (case l4=>k_is)
  (case c4=>k_is)
  (case k4=>k_is)
  (case a5=>k_is)
  (case l5=>k_is)
  (case c5=>k_is)
  (case k5=>k_is)
  (case a6=>k_is)
  (case l6=>k_is)
  (case c6=>k_is)
  (case k6=>k_is)
  (case a7=>k_is)
  (case l7=>k_is)
  (case c7=>k_is)
  (case k7=>k_is)
  (case a8=>k_is)
  (case l8=>k_is)
  (case c8=>k_is)
  (case k8=>k_is)
  (case a9=>k_is)
  (case l9=>k_is)
  (case c9=>k_is)
  (case k9=>k_is)
  (case a10=>k_is)
  (case l10=>k_is)
  (case c10=>k_is)
  (case k10=>k_is)
  (case a11=>k_is)
  (case l11=>k_is)
  (case c11=>k_is)
  (case k11=>k_is)
  (case a12=>k_is)
  (case l12=>k_is)
  (case c12=>k_is)
  (case k12=>k_is)
  (case a13=>k_is)
  (case l13=>k_is)
  (case c13=>k_is)
  (case k13=>k_is)
  (case a14=>k_is)
  (case l14=>k_is)
  (case c14=>k_is)
  (case k14=>k_is)
  (case a15=>k_is)
  (case l15=>k_is)
  (case c15=>k_is)
  (case k15=>k_is)
  (case a16=>k_is)
  (case l16=>k_is)
  (case c16=>k_is)
  (case k16=>k_is)
  (case a17=>k_is)
  (case l17=>k_is)
  (case c17=>k_is)
  (case k17=>k_is)
  (case a18=>k_is)
  (case l18=>k_is)
  (case c18=>k_is)
  (case k18=>k_is)
  (case a19=>k_is)
  (case l19=>k_is)
  (case c19=>k_is)
  (case k19=>k_is)
  (case a20=>k_is)
  (case l20=>k_is)
  (case c20=>k_is)
  (case k20=>k_is)
  (case a21=>k_is)
  (case l21=>k_is)
  (case c21=>k_is)
  (case k21=>k_is)
  (case a22=>k_is)
  (case l22=>k_is)
  (case c22=>k_is)
  (case k22=>k_is)
  (case a23=>k_is)
  (case l23=>k_is)
  (case c23=>k_is)
  (case k23=>k_is)
  (case a24=>k_is)
  (case l24=>k_is)
  (case c24=>k_is)
  (case k24=>k_is)
  (case a25=>k_is)
  (case l25=>k_is)
  (case c25=>k_is)
  (case k25=>k_is)
  (case a26=>k_is)
  (case l26=>k_is)
  (case c26=>k_is)
  (case k26=>k_is)
  (case a27=>k_is)
  (case l27=>k_is)
  (case c27=>k_is)
  (case k27=>k_is)
  (case a28=>k_is)
  (case l28=>k_is)
  (case c28=>k_is)
  (case k28=>k_is)
  (case a29=>k_is)
  (case l29=>k_is)
  (case c29=>k_is)
  (case k29=>k_is)
  (case a30=>k_is)
  (case l30=>k_is)
  (case c30=>k_is)
  (case k30=>k_is)
  (case a31=>k_is)
  (case l31=>k_is)
  (case c31=>k_is)
  (case k31=>k_is)
  (case a32=>k_is)
  (case l32=>k_is)
  (case c32=>k_is)
  (case k32=>k_is)
  (case a33=>k_is)
  (case l33=>k_is)
  (case c33=>k_is)
  (case k33=>k_is)
  (case a34=>k_is)
  (case l34=>k_is)
  (case c34=>k_is)
  (case k34=>k_is)
  (case a35=>k_is)
  (case l35=>k_is)
  (case c35=>k_is)
  (case k35=>k_is)
  (case z1=>k_is)
  (case z2=>k_is)
  (case z3=>k_is)
  (case z4=>k_is)
  (case z5=>k_is)
  (case z6=>k_is)
  (case z7=>k_is)
  (case z8=>k_is)
  (case z9=>k_is)
  (case z10=>k_is)
  (case z11=>k_is)
