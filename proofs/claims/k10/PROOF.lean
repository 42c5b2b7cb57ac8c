import PyProof.Rows.All
import Wide.All
import OpenK.AllK
import Wide.FinOn
import Lean
import PyProof.EqAt
import PyProof.EqKinds
import PyProof.TupleCall
import KE.KRevSl
import PySem.Challenge.RW_bestcalls_k10_whole_standing
set_option genSizeOf false
set_option Elab.async false
set_option linter.all false
set_option maxRecDepth 100000
namespace L2
open PySem PySem.Spec PyProof.Rows
noncomputable abbrev Key:=Sum Int Str
noncomputable def znh : Key → Value → Bool
 | .inl k, v=>Value.isInt k v
 | .inr x, v=>Value.isStrOf x v
noncomputable def keyH (w : World) : Key → Int
 | .inl k=>hashInt k
 | .inr x=>hashStr w x
theorem zch : ∀ {k : Key} {v : Value}, znh k v = true → (∃ i t, k = Sum.inl i ∧ v = Value.int i t) ∨ (∃ x t, k = Sum.inr x ∧ v = Value.str x t)
 | .inl i, v, h=>by
  obtain ⟨t, e⟩:=Value.isInt_shape (k:=i) (v:=v) h
  exact .inl ⟨i, t, rfl, e⟩
 | .inr x, v, h=>by
  obtain ⟨t, e⟩:=Value.isStrOf_shape (x:=x) (v:=v) h
  exact .inr ⟨x, t, rfl, e⟩
theorem zwq (i : Int) (t : Tok) : znh (.inl i) (.int i t) = true:=by simp [znh, Value.isInt]
theorem zwr (x : Str) (t : Tok) : znh (.inr x) (.str x t) = true:=by simp [znh, Value.isStrOf]
theorem zagn (a b : Int) : decide ((Sum.inl a : Key) = Sum.inl b) = (a == b):=by
 by_cases e : a = b
 ·subst e; simp
 ·have h : ¬ (Sum.inl a : Key) = Sum.inl b:=fun q=>e (Sum.inl.inj q)
  rw [decide_eq_false h]
  exact (beq_eq_false_iff_ne.mpr e).symm
theorem zago (a b : Str) : decide ((Sum.inr a : Key) = Sum.inr b) = decide (a = b):=by
 by_cases e : a = b
 ·subst e; simp
 ·have h : ¬ (Sum.inr a : Key) = Sum.inr b:=fun q=>e (Sum.inr.inj q)
  rw [decide_eq_false h, decide_eq_false e]
theorem zagp (a : Int) (b : Str) : decide ((Sum.inl a : Key) = Sum.inr b) = false:=decide_eq_false (fun q=>nomatch q)
theorem zagq (a : Str) (b : Int) : decide ((Sum.inr a : Key) = Sum.inl b) = false:=decide_eq_false (fun q=>nomatch q)
noncomputable def zbr (prog : Program) (w : World) : PySem.KeyKind prog w Key where
 is:=znh
 hash:=keyH w
 inj:=fun v a b ha hb=>by
  rcases zch ha with ⟨i, t, rfl, rfl⟩ | ⟨x, t, rfl, rfl⟩
  ·rcases zch hb with ⟨j, u, rfl, e⟩ | ⟨y, u, rfl, e⟩
   ·injection e with e1 _; rw [e1]
   ·exact nomatch e
  ·rcases zch hb with ⟨j, u, rfl, e⟩ | ⟨y, u, rfl, e⟩
   ·exact nomatch e
   ·injection e with e1 _; rw [e1]
 byValue:=fun k v h=>by
  rcases zch h with ⟨i, t, rfl, rfl⟩ | ⟨x, t, rfl, rfl⟩ <;> rfl
 pyHash:=fun hv h=>by
  rcases zch hv with ⟨i, t, rfl, rfl⟩ | ⟨x, t, rfl, rfl⟩
  ·exact wpAny_pyHash_int h
  ·exact wpAny_pyHash_str h
 eqBool:=fun hu hv h=>by
  rcases zch hu with ⟨i, t, rfl, rfl⟩ | ⟨x, t, rfl, rfl⟩
  ·rcases zch hv with ⟨j, u, rfl, rfl⟩ | ⟨y, u, rfl, rfl⟩
   ·rw [zagn] at h; exact wpAny_eqBool_int h
   ·rw [zagp] at h; exact SeqAt.EqAt.int_str i t y u _ _ _ _ h
  ·rcases zch hv with ⟨j, u, rfl, rfl⟩ | ⟨y, u, rfl, rfl⟩
   ·rw [zagq] at h; exact SeqAt.EqAt.str_int x t j u _ _ _ _ h
   ·rw [zago] at h; exact wpAny_eqBool_str h
 «strs»:=fun k x t v h=>by
  rcases zch h with ⟨i, u, rfl, e⟩ | ⟨y, u, rfl, e⟩
  ·exact nomatch e
  ·injection e with e1 _
   subst e1
   cases v <;> rfl
theorem zso (prog : Program) (w : World) (i : Int) (t : Tok) : (zbr prog w).is (.inl i) (.int i t) = true:=zwq i t
theorem zsp (prog : Program) (w : World) (x : Str) (t : Tok) : (zbr prog w).is (.inr x) (.str x t) = true:=zwr x t
end L2
namespace L2
open PySem PySem.Spec PyProof.Rows
inductive V where
 | non | bl (b : Bool) | int (i : Int) | str (x : Str) | byt (b : Array UInt8) | flt (b : UInt64) | ref (a : Addr) | ty (n : String)
 deriving DecidableEq
noncomputable def RelV : V → Value → Prop
 | .non, u=>u = Value.none
 | .bl b, u=>u = Value.bool b
 | .int i, u=>∃ t, u = Value.int i t
 | .str x, u=>∃ t, u = Value.str x t
 | .byt b, u=>∃ t, u = Value.bytes b t
 | .flt b, u=>∃ t, u = Value.float b t
 | .ref a, u=>u = Value.ref a
 | .ty n, u=>u = Value.type n
noncomputable abbrev Vals : List V → List Value → Prop:=Paired RelV
theorem Vals.length {xs : List V} {us : List Value} (r : Vals xs us) : xs.length = us.length:=Paired.length r
theorem Vals.get : ∀ {xs : List V} {us : List Value} {i : Nat} {x : V}, Vals xs us → xs[i]? = some x → ∃ u, us[i]? = some u ∧ RelV x u
 | _, _, _, _, .nil, e=>by simp at e
 | _, _, 0, _, .cons r _, e=>by simp at e; subst e; exact ⟨_, rfl, r⟩
 | _, _, i + 1, x, .cons _ t, e=>by
  obtain ⟨u, h1, h2⟩:=Vals.get (i:=i) (x:=x) t (by simpa using e)
  exact ⟨u, by simpa using h1, h2⟩
theorem Vals.set {x : V} {u : Value} (r : RelV x u) : ∀ {xs : List V} {us : List Value} (i : Nat), Vals xs us → Vals (xs.set i x) (us.set i u)
 | _, _, _, .nil=>.nil
 | _, _, 0, .cons _ t=>.cons r t
 | _, _, i + 1, .cons q t=>.cons q (Vals.set r i t)
theorem Vals.append : ∀ {xs ys : List V} {us ws : List Value}, Vals xs us → Vals ys ws → Vals (xs ++ ys) (us ++ ws)
 | _, _, _, _, .nil, s=>s
 | _, _, _, _, .cons r t, s=>.cons r (Vals.append t s)
theorem Vals.take : ∀ {xs : List V} {us : List Value} (n : Nat), Vals xs us → Vals (xs.take n) (us.take n)
 | _, _, 0, _=>.nil
 | _, _, _ + 1, .nil=>.nil
 | _, _, n + 1, .cons r t=>.cons r (Vals.take n t)
theorem Vals.drop : ∀ {xs : List V} {us : List Value} (n : Nat), Vals xs us → Vals (xs.drop n) (us.drop n)
 | _, _, 0, r=>r
 | _, _, _ + 1, .nil=>.nil
 | _, _, n + 1, .cons _ t=>Vals.drop n t
noncomputable def RelO : Option V → Option Value → Prop
 | some v, some u=>RelV v u
 | none, none=>True
 | _, _=>False
noncomputable def KV {κ : Type} : List (κ × V) → List (κ × Value) → Prop:=Paired fun (p : κ × V) (q : κ × Value)=>p.1 = q.1 ∧ RelV p.2 q.2
noncomputable def kV : Key → V
 | .inl i=>.int i
 | .inr x=>.str x
inductive HO where
  | lst (xs : List V)
  | tup (xs : List V)
  | dK (kvs : List (Key × V)) | dT (kvs : List (List Key × V))
  | set (S : Int → Bool) (n : Nat)
  | ins (C dx : Addr) (fs : List (Str × V))
  | own (x : Addr)
  | xd (fs : List (Str × V))
  | met (f x : Addr)
  | rng (lo hi : Int)
  | frz (o : Obj) (u : HO)
  | tbl (ps : Array Value)
  | ext (φ : Heap → Prop)
noncomputable abbrev Hp:=Addr → Option HO
noncomputable def upd (H : Hp) (a : Addr) (o : HO) : Hp:=fun b=>if b = a then some o else H b
theorem zav {H : Hp} {a : Addr} {o : HO} : upd H a o a = some o:=by unfold upd; rw [if_pos rfl]
theorem zbf {H : Hp} {a b : Addr} {o : HO} (h : b ≠ a) : upd H a o b = H b:=by unfold upd; rw [if_neg h]
theorem zadw {H : Hp} {a : Addr} {o u : HO} : upd (upd H a o) a u = upd H a u:=by
 funext b; unfold upd; split <;> rfl
theorem zaio {H : Hp} {a b : Addr} {o u : HO} (h : H a = some o) (h' : H b = some u) (d : o ≠ u) : a ≠ b:=by
 intro e; subst e; rw [h] at h'; exact d (Option.some.inj h')
theorem zbm {H : Hp} {a b : Addr} {o : HO} (h : H a = some o) (h' : H b = none) : a ≠ b:=by
 intro e; subst e; rw [h] at h'; cases h'
section
variable (P : Program) (w : World)
noncomputable def zdn (H : Hp) (h : Heap) (a : Addr) : HO → Prop
 | .lst xs=>xs.length ≤ sizeLine ∧ ∃ (its : List Value) (n : Nat), Vals xs its ∧ h.get? a = some { cls:=.type "list", data:=.seq its.toArray n }
 | .tup xs=>xs.length ≤ sizeLine ∧ ∃ its : List Value, Vals xs its ∧ IsTup h a its.toArray
 | .dK kvs=>kvs.length ≤ sizeLine ∧ (a == sysModules) = false ∧ ∃ vs, KV kvs vs ∧ h.DictOf (zbr P w) a vs
 | .dT kvs=>kvs.length ≤ sizeLine ∧ (a == sysModules) = false ∧ ∃ xs : List (List Key × Addr × Value),
   Paired (fun (p : List Key × V) (q : List Key × Addr × Value)=>p.1 = q.1 ∧ H q.2.1 = some (.tup (p.1.map kV)) ∧ RelV p.2 q.2.2) kvs xs ∧
   ∃ o es ep, h.get? a = some o ∧ o.ExactDict ∧ o.data = .dict es ep ∧ es.toList = xs.map (entryOfKey (tupleKind (zbr P w))) ∧ (xs.map (·.1)).Nodup
 | .set S n=>h.SetOf (intKind P w) a S n
 | .ins C dx fs=>H dx = some (.own a) ∧ fs.length ≤ 1000 ∧ dx ≠ a ∧ h.get? a = some (PySem.W.instObj C dx) ∧
   ∃ mA, h.Ns1 dx mA ∧ (∀ f, RelO (fs.lookup f) (mA f)) ∧ PySem.Within mA (fs.map (·.1))
 | .own _=>∃ o, h.get? a = some o
 | .xd fs=>∃ mA, h.Ns1 a mA ∧ ∀ f, RelO (fs.lookup f) (mA f)
 | .rng lo hi=>∃ t u v, h.get? a = some { cls:=.type "range", data:=.fields #[.int lo t, .int hi u, .int 1 v] }
 | .frz o u=>h.get? a = some o ∧ zdn H h a u
 | .tbl ps=>h.get? a = some { cls:=.none, data:=.fields ps }
 | .met f x=>h.get? a = some (PySem.W.methodObj (.ref f) (.ref x))
 | .ext φ=>φ h ∧ (∃ o, h.get? a = some o) ∧ ∀ h1 h2 : Heap, φ h1 → (∀ o, h1.get? a = some o → h2.get? a = some o) → φ h2
noncomputable def HOk (H : Hp) (h : Heap) : Prop:=∀ a o, H a = some o → zdn P w H h a o
end
section
variable {P : Program} {w : World} {H H' : Hp} {h h' : Heap} {a : Addr} {o : HO}
theorem zdn.lt (x : zdn P w H h a o) : a < h.objs.size:=by
 cases o with
 | lst xs=>obtain ⟨_, _, _, _, e⟩:=x; exact Heap.lt_size e
 | tup xs=>obtain ⟨_, _, _, p⟩:=x; exact p.lt
 | dK kvs=>obtain ⟨_, _, _, _, o, _, _, e, _⟩:=x; exact Heap.lt_size e
 | dT kvs=>obtain ⟨_, _, _, _, o, _, _, e, _⟩:=x; exact Heap.lt_size e
 | set S n=>obtain ⟨o, _, _, _, e, _⟩:=x; exact Heap.lt_size e
 | ins C dx fs=>obtain ⟨_, _, _, e, _⟩:=x; exact Heap.lt_size e
 | own y=>obtain ⟨_, e⟩:=x; exact Heap.lt_size e
 | xd fs=>obtain ⟨_, ⟨_, _, _, e, _⟩, _⟩:=x; exact Heap.lt_size e
 | rng lo hi=>obtain ⟨_, _, _, e⟩:=x; exact Heap.lt_size e
 | frz ob u=>obtain ⟨e, _⟩:=x; exact Heap.lt_size e
 | tbl ps=>exact Heap.lt_size (show h.get? a = some _ from x)
 | met f y=>exact Heap.lt_size (show h.get? a = some _ from x)
 | ext φ=>obtain ⟨_, ⟨_, e⟩, _⟩:=x; exact Heap.lt_size e
theorem Paired.mapP {α β : Type} {F G : α → β → Prop} : ∀ {l₁ : List α} {l₂ : List β}, Paired F l₁ l₂ → (∀ a b, F a b → G a b) → Paired G l₁ l₂
 | _, _, .nil, _=>.nil
 | _, _, .cons r t, f=>.cons (f _ _ r) (Paired.mapP t f)
theorem zdn.stay (x : zdn P w H h a o) (k : ∀ b u, (b = a ∨ H b = some (.own a)) → h.get? b = some u → h'.get? b = some u)
  (ho : ∀ b, H b = some (.own a) → H' b = some (.own a)) (ht : ∀ b xs, H b = some (.tup xs) → H' b = some (.tup xs)) : zdn P w H' h' a o:=by
 induction o with
 | lst xs=>obtain ⟨z, its, n, r, e⟩:=x; exact ⟨z, its, n, r, k _ _ (.inl rfl) e⟩
 | tup xs=>obtain ⟨z, its, r, ob, e, c⟩:=x; exact ⟨z, its, r, ob, k _ _ (.inl rfl) e, c⟩
 | dK kvs=>obtain ⟨z, y, vs, r, ob, es, ep, e, c⟩:=x; exact ⟨z, y, vs, r, ob, es, ep, k _ _ (.inl rfl) e, c⟩
 | dT kvs =>
  obtain ⟨z, y, xs, r, ob, es, ep, e, c⟩:=x
  exact ⟨z, y, xs, Paired.mapP r fun p q z=>⟨z.1, ht _ _ z.2.1, z.2.2⟩, ob, es, ep, k _ _ (.inl rfl) e, c⟩
 | set S n=>obtain ⟨ob, es, ep, t, e, c⟩:=x; exact ⟨ob, es, ep, t, k _ _ (.inl rfl) e, c⟩
 | ins C dx fs =>
  obtain ⟨d, z, ne, e, mA, ⟨od, es, ep, e2, c⟩, r⟩:=x
  exact ⟨ho _ d, z, ne, k _ _ (.inl rfl) e, mA, ⟨od, es, ep, k _ _ (.inr d) e2, c⟩, r⟩
 | own y=>obtain ⟨ob, e⟩:=x; exact ⟨ob, k _ _ (.inl rfl) e⟩
 | xd fs=>obtain ⟨mA, ⟨od, es, ep, e, c⟩, r⟩:=x; exact ⟨mA, ⟨od, es, ep, k _ _ (.inl rfl) e, c⟩, r⟩
 | rng lo hi=>obtain ⟨t, u, v, e⟩:=x; exact ⟨t, u, v, k _ _ (.inl rfl) e⟩
 | frz ob u ih=>obtain ⟨e, q⟩:=x; exact ⟨k _ _ (.inl rfl) e, ih q⟩
 | tbl ps =>
  have e : h.get? a = some { cls:=.none, data:=.fields ps }:=x
  show h'.get? a = some { cls:=.none, data:=.fields ps }
  exact k a _ (.inl rfl) e
 | met f y =>
  have e : h.get? a = some (PySem.W.methodObj (.ref f) (.ref y)):=x
  show h'.get? a = some (PySem.W.methodObj (.ref f) (.ref y))
  exact k a _ (.inl rfl) e
 | ext φ=>obtain ⟨p, ⟨o, e⟩, st⟩:=x; exact ⟨st _ _ p fun o q=>k _ _ (.inl rfl) q, ⟨o, k _ _ (.inl rfl) e⟩, st⟩
theorem HOk.lt (x : HOk P w H h) (e : H a = some o) : a < h.objs.size:=(x a o e).lt
theorem HOk.fresh (x : HOk P w H h) (e : h.objs.size ≤ a) : H a = none:=by
 cases q : H a with
 | none=>rfl
 | some u=>exact absurd (Nat.lt_of_lt_of_le (x.lt q) e) (Nat.lt_irrefl _)
theorem HOk.kept (x : HOk P w H h) (k : ∀ b u, h.get? b = some u → h'.get? b = some u) : HOk P w H h':=fun a o e =>
 (x a o e).stay (fun b u _ q=>k b u q) (fun _ q=>q) fun _ _ q=>q
theorem HOk.laid (x : HOk P w H h) (k : ∀ b u, h.get? b = some u → h'.get? b = some u) (hp : h.objs.size ≤ a) (new : zdn P w (upd H a o) h' a o) : HOk P w (upd H a o) h':=fun b u e=>by
 have hn:=x.fresh hp
 by_cases hb : b = a
 ·subst hb; rw [zav] at e; cases e; exact new
 ·rw [zbf hb] at e
  exact (x b u e).stay (fun c v _ q=>k c v q) (fun c q=>by rw [zbf (zbm q hn)]; exact q) fun c xs q=>by rw [zbf (zbm q hn)]; exact q
end
noncomputable def Rd (H : Hp) (a : Addr) (u : HO) : Prop:=H a = some u ∨ ∃ o, H a = some (.frz o u)
theorem Rd.ok {P : Program} {w : World} {H : Hp} {h : Heap} {a : Addr} {u : HO} (r : Rd H a u) (x : HOk P w H h) : zdn P w H h a u:=by
 rcases r with r | ⟨o, r⟩
 ·exact x a u r
 ·obtain ⟨_, q⟩:=x a _ r
  exact q
noncomputable def Mut : Option HO → Prop
 | some (.lst _)=>True
 | some (.dK _)=>True
 | some (.dT _)=>True
 | some (.set _ _)=>True
 | some (.ins _ _ _)=>True
 | some (.ext _)=>True
 | _=>False
section
variable {P : Program} {w : World} {H : Hp} {h h' : Heap} {x e : Addr} {o' : HO}
theorem HOk.write (ok : HOk P w H h) (mu : Mut (H x)) (he : e = x ∨ H e = some (.own x)) (k : ∀ b u, b ≠ e → h.get? b = some u → h'.get? b = some u) (heo : ∃ u, h'.get? e = some u)
  (new : zdn P w (upd H x o') h' x o') : HOk P w (upd H x o') h':=fun b u q=>by
 have nown : ∀ c y, H c = some (.own y) → c ≠ x:=fun c y r z=>by subst z; rw [r] at mu; exact mu
 have ntup : ∀ c xs, H c = some (.tup xs) → c ≠ x:=fun c xs r z=>by subst z; rw [r] at mu; exact mu
 by_cases hb : b = x
 ·subst hb; rw [zav] at q; cases q; exact new
 ·rw [zbf hb] at q
  by_cases hbe : b = e
  ·have q' : H b = some (.own x):=by
    rcases he with z | z
    ·exact absurd (hbe.trans z) hb
    ·rw [hbe]; exact z
   rw [q] at q'; cases q'
   obtain ⟨v, hv⟩:=heo
   exact ⟨v, by rw [hbe]; exact hv⟩
  ·refine (ok b u q).stay (fun c v hc r=>k c v ?_ r) (fun c r=>by rw [zbf (nown c b r)]; exact r) fun c xs r=>by rw [zbf (ntup c xs r)]; exact r
   rcases hc with rfl | hc
   ·exact hbe
   ·rintro rfl
    rcases he with z | z
    ·exact nown c b hc z
    ·rw [hc] at z; cases z; exact hb rfl
end
set_option genInjectivity false in
structure Un (fs ex : List Addr) (H H' : Hp) (h h' : Heap) : Prop where
 keep : ∀ b o, h.get? b = some o → H b = none → b ∉ fs → b ∉ ex → h'.get? b = some o
 slot : ∀ b o, h.get? b = some o → H b = none → b ∈ fs → b ∉ ex → ∃ sl, h'.get? b = some { o with slots:=sl }
 free : ∀ b o, h.get? b = some o → H b = none → b ∉ ex → H' b = none
 there : ∀ b o, h.get? b = some o → b ∉ ex → ∃ o', h'.get? b = some o'
 tups : ∀ b xs, H b = some (.tup xs) → H' b = some (.tup xs)
 frzs : ∀ b o u, H b = some (.frz o u) → H' b = some (.frz o u)
 tbls : ∀ b ps, H b = some (.tbl ps) → ∃ more, H' b = some (.tbl (ps ++ more))
section
variable {fs fs' ex ex' : List Addr} {H H1 H2 : Hp} {h h1 h2 h' : Heap} {a x e : Addr} {o : HO}
theorem Un.any (u : Un fs ex H H1 h h1) {b : Addr} {ob : Obj} (q : h.get? b = some ob) (n : H b = none) (hx : b ∉ ex) : ∃ sl, h1.get? b = some { ob with slots:=sl }:=by
 by_cases hb : b ∈ fs
 ·exact u.slot b ob q n hb hx
 ·exact ⟨ob.slots, u.keep b ob q n hb hx⟩
theorem Un.kept (k : ∀ b u, h.get? b = some u → h'.get? b = some u) : Un fs ex H H h h' :=
 ⟨fun b ob q _ _ _=>k b ob q, fun b ob q _ _ _=>⟨ob.slots, k b ob q⟩, fun _ _ _ n _=>n, fun b ob q _=>⟨ob, k b ob q⟩, fun _ _ q=>q, fun _ _ _ q=>q, fun _ ps q=>⟨#[], by rw [q]; simp⟩⟩
theorem Un.refl : Un fs ex H H h h:=Un.kept fun _ _ q=>q
theorem Un.laid (k : ∀ b u, h.get? b = some u → h'.get? b = some u) (hp : h.objs.size ≤ a) (hn : H a = none) : Un fs ex H (upd H a o) h h' where
 keep:=fun b u q _ _ _=>k b u q
 slot:=fun b u q _ _ _=>⟨u.slots, k b u q⟩
 free:=fun b u q n _=>by rw [zbf (Nat.ne_of_lt (Nat.lt_of_lt_of_le (Heap.lt_size q) hp))]; exact n
 there:=fun b u q _=>⟨u, k b u q⟩
 tups:=fun b xs q=>by rw [zbf (zbm q hn)]; exact q
 frzs:=fun b u xs q=>by rw [zbf (zbm q hn)]; exact q
 tbls:=fun b ps q=>⟨#[], by rw [zbf (zbm q hn), q]; simp⟩
theorem Un.write (mu : Mut (H x)) (he : e = x ∨ H e = some (.own x)) (k : ∀ b u, b ≠ e → h.get? b = some u → h'.get? b = some u) (heo : ∃ u, h'.get? e = some u) : Un fs ex H (upd H x o) h h':=by
 have hx : ∀ b, H b = none → b ≠ x:=fun b n z=>by subst z; rw [n] at mu; exact mu
 have hb : ∀ b, H b = none → b ≠ e:=fun b n z=>by
  subst z
  rcases he with r | r
  ·exact hx b n r
  ·rw [n] at r; cases r
 have hm : ∀ b u, H b = some u → ¬ Mut (some u) → b ≠ x:=fun b u q nm z=>by subst z; rw [q] at mu; exact nm mu
 refine ⟨fun b u q n _ _=>k b u (hb b n) q, fun b u q n _ _=>⟨u.slots, k b u (hb b n) q⟩, fun b u q n _=>by rw [zbf (hx b n)]; exact n, fun b u q _=>?_,
  fun b xs q=>by rw [zbf (hm b _ q fun z=>z)]; exact q, fun b u xs q=>by rw [zbf (hm b _ q fun z=>z)]; exact q, fun b ps q=>⟨#[], by rw [zbf (hm b _ q fun z=>z), q]; simp⟩⟩
 by_cases hbe : b = e
 ·subst hbe; exact heo
 ·exact ⟨u, k b u hbe q⟩
end
noncomputable def trk (h : Heap) (H : Hp) : List Addr:=(List.range h.objs.size).filter fun a=>(H a).isSome
noncomputable def hidT (h : Heap) (H : Hp) : Heap:=PySem.W.hideAll h (trk h H)
theorem zws (h : Heap) (H : Hp) : (hidT h H).objs.size = h.objs.size:=PySem.W.hideAll_size _ _
theorem zaaq {h : Heap} {H : Hp} {b : Addr} {o : Obj} (e : h.get? b = some o) (n : H b = none) : (hidT h H).get? b = some o :=
 PySem.W.hideAll_get _ e fun hm=>by
  have q : (H b).isSome = true:=(List.mem_filter.mp hm).2
  rw [n] at q; simp at q
theorem zadx {h : Heap} {H : Hp} {b : Addr} {o : Obj} (e : (hidT h H).get? b = some o) : h.get? b = some o ∧ H b = none:=by
 have e' : h.get? b = some o:=PySem.W.of_hideAll (trk h H) e
 refine ⟨e', ?_⟩
 cases q : H b with
 | none=>rfl
 | some x =>
  have hm : b ∈ trk h H:=List.mem_filter.mpr ⟨List.mem_range.mpr (Heap.lt_size e'), by simp [q]⟩
  have z : (hidT h H).get? b = none:=PySem.W.hideAll_none (trk h H) hm
  rw [z] at e; cases e
end L2
namespace L2
open PySem PySem.Spec PyProof.Rows
set_option genInjectivity false in
structure Mod (K : PySem.W.Frag) (mg : Str → Option Value) (base : Heap) : Prop where
 kin : K.In base
 glob : base.Ns mainGlobals mg
 blt : ∃ mb, base.Ns builtinsNs mb ∧ ∀ x : Str, x ≠ "__name__" → mb x = bootBuiltins x
 nolimit : base.NoLimit
set_option genInjectivity false in
structure Cx where
 prog : Program
 w : World
 K : PySem.W.Frag
 mg : Str → Option Value
 base : Heap
 A : Around
 N : List Str
 s₀ : Shared
 H₀ : Hp
 env : Env
 outer : List Env
 stack : List Env
 ex : List Addr
 fn : Str → Bool
 calm : Bool
 pn : List (Addr × Obj)
 xe : Value → Shared → Prop
noncomputable def frs (l : List Env) : List Addr:=l.filterMap (·.frame)
noncomputable abbrev Cx.fs (X : Cx) : List Addr:=frs X.outer
noncomputable def Vis (sc : Scope) (x : Str) : Prop:=sc.names.lookup x = some .local ∨ sc.names.lookup x = some .cell ∨ sc.names.lookup x = some .free
noncomputable def visB (sc : Scope) (x : Str) : Bool:=match sc.names.lookup x with
 | some .local=>true
 | some .cell=>true
 | some .free=>true
 | _=>false
theorem visB.of {sc : Scope} {x : Str} (h : visB sc x = true) : Vis sc x:=by
 unfold visB at h
 cases e : sc.names.lookup x with
 | none=>rw [e] at h; cases h
 | some k=>rw [e] at h; cases k <;> first | exact .inl e | exact .inr (.inl e) | exact .inr (.inr e) | cases h
noncomputable def Loc (sc : Scope) (x : Str) : Prop:=sc.names.lookup x = some .local ∨ sc.names.lookup x = some .cell
noncomputable def Look (env : Env) (h : Heap) (m : Str → Option Value) (x : Str) (u : Value) : Prop :=
 (env.kindOf x = some .local ∧ m x = some u) ∨ ((env.kindOf x = some .cell ∨ env.kindOf x = some .free) ∧ ∃ c, env.cells.lookup x = some c ∧ h.IsCell c (some u))
set_option genInjectivity false in
structure Cx.Ok (X : Cx) : Prop where
 mod : Mod X.K X.mg X.base
 kind : X.env.scope.kind = .function
 glob : X.env.globals = mainGlobals
 blt : X.env.builtins = builtinsNs
 above : X.s₀.heap.objs.size ≤ X.env.locals
 inj : ∀ x y c, X.env.cells.lookup x = some c → X.env.cells.lookup y = some c → x = y
 has : ∀ x, (X.env.kindOf x = some .cell ∨ X.env.kindOf x = some .free) → ∃ c, X.env.cells.lookup x = some c
 cab : ∀ x c, X.fn x = true → X.env.cells.lookup x = some c → X.s₀.heap.objs.size ≤ c
 hd : X.calm = true → X.A.handled = none
 frames : X.A.frames = some X.stack
 stk : X.stack = X.outer ∨ (X.stack = X.env :: X.outer ∧ X.env.frame = some X.env.locals)
 exf : ∀ b ∈ X.ex, b ≠ X.env.locals ∧ ∀ x c, X.env.cells.lookup x = some c → c ≠ b
 bs : ∀ b o, X.base.get? b = some o → X.s₀.heap.get? b = some o ∧ X.H₀ b = none
 bsz : X.base.objs.size ≤ X.s₀.heap.objs.size
 noex : ∀ b o, X.base.get? b = some o → b ∉ X.ex
 exfs : ∀ b ∈ X.ex, b ∉ X.fs
 funs : X.s₀.heap.FunFrames X.base X.outer
 frf : ∀ b ∈ X.fs, X.H₀ b = none
set_option genInjectivity false in
structure Inv (X : Cx) (pins : List (Addr × Obj)) (σ : List (Option V)) (H : Hp) (s : Shared) : Prop where
 ok : X.Ok
 os : s.os = X.s₀.os
 bare : AllBare s.gens
 base : Un X.fs X.ex X.H₀ H X.s₀.heap s.heap
 loc : ∃ m, s.heap.Ns X.env.locals m ∧ ∀ (i : Nat) (x : Str) (v : V), X.N[i]? = some x → σ[i]? = some (some v) → Vis X.env.scope x → ∃ u, RelV v u ∧ Look X.env s.heap m x u
 cell : ∀ x c, X.env.cells.lookup x = some c → ∃ v, s.heap.IsCell c v
 free : H X.env.locals = none
 freeC : ∀ x c, X.env.cells.lookup x = some c → H c = none
 pin : ∀ p ∈ X.pn ++ pins, s.heap.get? p.1 = some p.2 ∧ H p.1 = none ∧ p.1 ≠ X.env.locals ∧ p.1 ∉ X.fs ∧ ∀ v, p.2.data ≠ .cell v
 hok : HOk X.prog X.w H s.heap
 len : σ.length = X.N.length
section
variable {X : Cx} {pins : List (Addr × Obj)} {σ : List (Option V)} {H H' : Hp} {s : Shared} {h' : Heap}
theorem Cx.Ok.nofr (ok : X.Ok) {b : Addr} {o : Obj} (e : X.base.get? b = some o) : b ∉ X.fs:=fun hb=>by
 have:=(ok.funs.mem hb).1
 rw [e] at this; cases this
theorem Inv.bs (I : Inv X pins σ H s) : ∀ b o, X.base.get? b = some o → s.heap.get? b = some o ∧ H b = none:=fun b o e =>
 ⟨I.base.keep b o (I.ok.bs b o e).1 (I.ok.bs b o e).2 (I.ok.nofr e) (I.ok.noex b o e), I.base.free b o (I.ok.bs b o e).1 (I.ok.bs b o e).2 (I.ok.noex b o e)⟩
theorem Inv.bk (I : Inv X pins σ H s) : ∀ b o, X.base.get? b = some o → s.heap.get? b = some o:=fun b o e=>(I.bs b o e).1
theorem Inv.mod (I : Inv X pins σ H s) : Mod X.K X.mg X.base:=I.ok.mod
theorem Inv.kIn (I : Inv X pins σ H s) : X.K.In s.heap:=I.ok.mod.kin.keeps I.bk
theorem Inv.lt (I : Inv X pins σ H s) : X.env.locals < s.heap.objs.size:=let ⟨_, hn, _⟩:=I.loc; hn.lt
theorem Inv.sz (I : Inv X pins σ H s) : X.s₀.heap.objs.size ≤ s.heap.objs.size:=Nat.le_trans I.ok.above (Nat.le_of_lt I.lt)
theorem Inv.nofs (I : Inv X pins σ H s) {a : Addr} (h : s.heap.objs.size ≤ a) : a ∉ X.fs:=fun hb=>by
 obtain ⟨_, o, ho, _⟩:=I.ok.funs.mem hb
 exact absurd (Nat.lt_of_lt_of_le (Heap.lt_size ho) (Nat.le_trans I.sz h)) (Nat.lt_irrefl _)
theorem Inv.cne (I : Inv X pins σ H s) : ∀ x c, X.env.cells.lookup x = some c → c ≠ X.env.locals:=fun x c e z=>by
 obtain ⟨v, o, ho, hd⟩:=I.cell x c e
 obtain ⟨m, ⟨o', es, ep, ho', hd', _⟩, _⟩:=I.loc
 rw [z, ho'] at ho; cases ho; rw [hd'] at hd; cases hd
theorem Inv.funs (I : Inv X pins σ H s) : s.heap.FunFrames X.base X.outer:=by
 have all : ∀ (l : List Env), (∀ b ∈ frs l, b ∈ X.fs) → X.s₀.heap.FunFrames X.base l → s.heap.FunFrames X.base l:=by
  intro l
  induction l with
  | nil=>intro _ _; trivial
  | cons env r ih =>
   intro hs hl
   obtain ⟨hk, ⟨L, o, hf, hn, ho, hd⟩, hr⟩:=hl
   have hL : L ∈ X.fs:=hs L (by unfold frs; rw [List.filterMap_cons, hf]; exact List.mem_cons_self)
   obtain ⟨sl, e⟩:=I.base.slot L o ho (I.ok.frf L hL) hL fun z=>I.ok.exfs L z hL
   exact ⟨hk, ⟨L, _, hf, hn, e, hd⟩, ih (fun b hb=>hs b (by unfold frs; rw [List.filterMap_cons, hf]; exact List.mem_cons_of_mem _ hb)) hr⟩
 exact all X.outer (fun _ hb=>hb) I.ok.funs
theorem Inv.stack (I : Inv X pins σ H s) : s.heap.FunFrames X.base X.stack:=by
 rcases I.ok.stk with e | ⟨e, hf⟩
 ·rw [e]; exact I.funs
 ·rw [e]
  obtain ⟨m, hn, _⟩:=I.loc
  refine .cons (by rw [I.ok.kind]; decide) hf hn ?_ I.funs
  exact Heap.get?_none_of_le (Nat.le_trans I.ok.bsz I.ok.above)
theorem Inv.stkSub (I : Inv X pins σ H s) : ∀ b ∈ frs X.stack, b ∈ X.env.locals :: X.fs:=fun b hb=>by
 rcases I.ok.stk with e | ⟨e, hf⟩
 ·rw [e] at hb; exact List.mem_cons_of_mem _ hb
 ·rw [e] at hb
  unfold frs at hb
  rw [List.filterMap_cons, hf] at hb
  exact hb
theorem Inv.stkFree (I : Inv X pins σ H s) : ∀ b ∈ frs X.stack, H b = none:=fun b hb=>by
 rcases List.mem_cons.mp (I.stkSub b hb) with e | hb
 ·rw [e]; exact I.free
 ·obtain ⟨_, o, ho, _⟩:=I.ok.funs.mem hb
  exact I.base.free b o ho (I.ok.frf b hb) fun z=>I.ok.exfs b z hb
theorem Inv.step {g' : Array GenState} {t' : Nat} {d' : Drawn} {ch : List Addr} (I : Inv X pins σ H s)
  (hch : ∀ b ∈ ch, (b ∈ X.ex ∨ X.s₀.heap.objs.size ≤ b) ∧ b ≠ X.env.locals ∧ (∀ x c, X.env.cells.lookup x = some c → c ≠ b) ∧ ∀ p ∈ X.pn ++ pins, p.1 ≠ b)
  (keep : ∀ b o, b ≠ X.env.locals → b ∉ X.fs → b ∉ ch → s.heap.get? b = some o → H b = none → h'.get? b = some o)
  (slot : ∀ b o, b ≠ X.env.locals → b ∈ X.fs → b ∉ ch → s.heap.get? b = some o → H b = none → ∃ sl, h'.get? b = some { o with slots:=sl }) (free : ∀ b o, b ∉ ch → s.heap.get? b = some o → H b = none → H' b = none)
  (there : ∀ b o, b ∉ ch → s.heap.get? b = some o → ∃ o', h'.get? b = some o')
  (tups : ∀ b xs, H b = some (.tup xs) → H' b = some (.tup xs)) (frzs : ∀ b o u, H b = some (.frz o u) → H' b = some (.frz o u)) (tbls : ∀ b ps, H b = some (.tbl ps) → ∃ more, H' b = some (.tbl (ps ++ more)))
  (ns : ∀ m, s.heap.Ns X.env.locals m → h'.Ns X.env.locals m) (hok : HOk X.prog X.w H' h') (hg : AllBare g') :
  Inv X pins σ H' { s with heap:=h', gens:=g', drawn:=d', toks:=t' }:=by
 have neL : ∀ b o, X.s₀.heap.get? b = some o → b ≠ X.env.locals:=fun b o e=>Nat.ne_of_lt (Nat.lt_of_lt_of_le (Heap.lt_size e) I.ok.above)
 have neC : ∀ b o, X.s₀.heap.get? b = some o → b ∉ X.ex → b ∉ ch:=fun b o e hx hb=>by
  rcases (hch b hb).1 with z | z
  ·exact hx z
  ·exact absurd (Nat.lt_of_lt_of_le (Heap.lt_size e) z) (Nat.lt_irrefl _)
 have cellK : ∀ x c, X.env.cells.lookup x = some c → ∀ v, s.heap.IsCell c v → h'.IsCell c v:=fun x c e v ⟨o, ho, hd⟩=>by
  have nch : c ∉ ch:=fun z=>(hch c z).2.2.1 x c e rfl
  by_cases hc : c ∈ X.fs
  ·obtain ⟨sl, q⟩:=slot c o (I.cne x c e) hc nch ho (I.freeC x c e)
   exact ⟨_, q, hd⟩
  ·exact ⟨o, keep c o (I.cne x c e) hc nch ho (I.freeC x c e), hd⟩
 refine ⟨I.ok, I.os, hg, ⟨fun b o e n hb hx=>?_, fun b o e n hb hx=>?_, fun b o e n hx=>?_, fun b o e hx=>?_, fun b xs e=>tups b xs (I.base.tups b xs e), fun b o xs e=>frzs b o xs (I.base.frzs b o xs e), fun b ps e=>?_⟩, ?_, fun x c e=>?_, ?_, fun x c e=>?_, fun p hp=>?_, hok, I.len⟩
 ·exact keep b o (neL b o e) hb (neC b o e hx) (I.base.keep b o e n hb hx) (I.base.free b o e n hx)
 ·obtain ⟨sl, e1⟩:=I.base.slot b o e n hb hx
  obtain ⟨sl', e2⟩:=slot b _ (neL b o e) hb (neC b o e hx) e1 (I.base.free b o e n hx)
  exact ⟨sl', e2⟩
 ·obtain ⟨o', e1⟩:=I.base.there b o e hx
  exact free b o' (neC b o e hx) e1 (I.base.free b o e n hx)
 ·obtain ⟨o', e1⟩:=I.base.there b o e hx
  exact there b o' (neC b o e hx) e1
 ·obtain ⟨m1, e1⟩:=I.base.tbls b ps e
  obtain ⟨m2, e2⟩:=tbls b _ e1
  exact ⟨m1 ++ m2, by rw [e2, Array.append_assoc]⟩
 ·obtain ⟨m, hn, hl⟩:=I.loc
  refine ⟨m, ns m hn, fun i x v e1 e2 e3=>?_⟩
  obtain ⟨u, r, l⟩:=hl i x v e1 e2 e3
  refine ⟨u, r, ?_⟩
  rcases l with l | ⟨k, c, e, z⟩
  ·exact .inl l
  ·exact .inr ⟨k, c, e, cellK x c e _ z⟩
 ·obtain ⟨v, z⟩:=I.cell x c e
  exact ⟨v, cellK x c e v z⟩
 ·obtain ⟨m, ⟨o, _, _, ho, _⟩, _⟩:=I.loc
  exact free _ o (fun z=>(hch _ z).2.1 rfl) ho I.free
 ·obtain ⟨v, o, ho, hd⟩:=I.cell x c e
  exact free c o (fun z=>(hch c z).2.2.1 x c e rfl) ho (I.freeC x c e)
 ·obtain ⟨e, n, ne, nf, d⟩:=I.pin p hp
  have nch : p.1 ∉ ch:=fun z=>(hch p.1 z).2.2.2 p hp rfl
  exact ⟨keep p.1 p.2 ne nf nch e n, free p.1 p.2 nch e n, ne, nf, d⟩
theorem Inv.un {t' : Nat} (I : Inv X pins σ H s) (u : Un X.fs [] H H' s.heap h') (hok : HOk X.prog X.w H' h') : Inv X pins σ H' { s with heap:=h', toks:=t' }:=by
 obtain ⟨m, ⟨o, es, ep, ho, r⟩, _⟩:=id I.loc
 obtain ⟨sl, hL⟩:=u.any ho I.free (by simp)
 exact I.step (g':=s.gens) (d':=s.drawn) (ch:=[]) (fun _ z=>nomatch z) (fun b o _ hb _ e n=>u.keep b o e n hb (by simp)) (fun b o _ hb _ e n=>u.slot b o e n hb (by simp)) (fun b o _ e n=>u.free b o e n (by simp)) (fun b o _ e=>u.there b o e (by simp)) u.tups u.frzs u.tbls (fun m' hm=>by
  obtain ⟨o', es', ep', ho', r'⟩:=hm
  rw [ho] at ho'; cases ho'
  exact ⟨_, es', ep', hL, r'⟩) hok I.bare
theorem Inv.call {g' : Array GenState} {t' : Nat} {d' : Drawn} {ch : List Addr} (I : Inv X pins σ H s) (u : Un (frs X.stack) ch H H' s.heap h') (hok : HOk X.prog X.w H' h') (hg : AllBare g')
  (hch : ∀ b ∈ ch, (b ∈ X.ex ∨ X.s₀.heap.objs.size ≤ b) ∧ b ≠ X.env.locals ∧ (∀ x c, X.env.cells.lookup x = some c → c ≠ b) ∧ ∀ p ∈ X.pn ++ pins, p.1 ≠ b) :
  Inv X pins σ H' { s with heap:=h', gens:=g', drawn:=d', toks:=t' }:=by
 obtain ⟨m, ⟨o, es, ep, ho, r⟩, _⟩:=id I.loc
 obtain ⟨sl, hL⟩:=u.any ho I.free fun z=>(hch _ z).2.1 rfl
 exact I.step (ch:=ch) hch (fun b o hL hb hc e n=>u.keep b o e n (fun z=>(List.mem_cons.mp (I.stkSub b z)).elim hL hb) hc) (fun b o _ _ hc e n=>u.any e n hc) (fun b o hc e n=>u.free b o e n hc) (fun b o hc e=>u.there b o e hc) u.tups u.frzs u.tbls (fun m' hm=>by
  obtain ⟨o', es', ep', ho', r'⟩:=hm
  rw [ho] at ho'; cases ho'
  exact ⟨_, es', ep', hL, r'⟩) hok hg
theorem Inv.turned {t' : Nat} {it : Addr} (I : Inv X pins σ H s) (k : ∀ b o, b ≠ it → s.heap.get? b = some o → h'.get? b = some o) (hn : H it = none) (hL : it ≠ X.env.locals)
  (h1 : it ∈ X.ex ∨ X.s₀.heap.objs.size ≤ it) (h2 : ∀ x c, X.env.cells.lookup x = some c → c ≠ it) (h3 : ∀ p ∈ X.pn ++ pins, p.1 ≠ it) : Inv X pins σ H { s with heap:=h', toks:=t' }:=by
 have nit : ∀ b u, H b = some u → b ≠ it:=fun b u e z=>by rw [z, hn] at e; cases e
 refine I.step (g':=s.gens) (d':=s.drawn) (ch:=[it]) (fun b hb=>?_) (fun b o _ _ hc e _=>k b o (fun z=>hc (by simp [z])) e) (fun b o _ _ hc e _=>⟨o.slots, k b o (fun z=>hc (by simp [z])) e⟩) (fun _ _ _ _ n=>n)
  (fun b o hc e=>⟨o, k b o (fun z=>hc (by simp [z])) e⟩) (fun _ _ e=>e) (fun _ _ _ e=>e) (fun b ps e=>⟨#[], by rw [e]; simp⟩) (fun m hm=>?_) (fun b u e=>?_) I.bare
 ·have e : b = it:=by simpa using hb
  subst e
  exact ⟨h1, hL, h2, h3⟩
 ·obtain ⟨o, es, ep, ho, r⟩:=hm
  exact ⟨o, es, ep, k _ o (Ne.symm hL) ho, r⟩
 ·refine (I.hok b u e).stay (fun c v hc q=>k c v ?_ q) (fun _ q=>q) fun _ _ q=>q
  rcases hc with z | z
  ·rw [z]; exact nit b u e
  ·exact nit c _ z
theorem Inv.tok (I : Inv X pins σ H s) (t : Nat) : Inv X pins σ H { s with toks:=t }:=I.un (h':=s.heap) (t':=t) Un.refl I.hok
theorem Inv.kept {t' : Nat} (I : Inv X pins σ H s) (k : ∀ b u, s.heap.get? b = some u → h'.get? b = some u) : Inv X pins σ H { s with heap:=h', toks:=t' }:=I.un (Un.kept k) (I.hok.kept k)
theorem Inv.laid {a : Addr} {o : HO} {t' : Nat} (I : Inv X pins σ H s) (k : ∀ b u, s.heap.get? b = some u → h'.get? b = some u) (hp : s.heap.objs.size ≤ a) (new : zdn X.prog X.w (upd H a o) h' a o) :
  Inv X pins σ (upd H a o) { s with heap:=h', toks:=t' }:=I.un (Un.laid k hp (I.hok.fresh hp)) (I.hok.laid k hp new)
theorem Inv.write {x e : Addr} {o : HO} {t' : Nat} (I : Inv X pins σ H s) (mu : Mut (H x)) (he : e = x ∨ H e = some (.own x)) (k : ∀ b u, b ≠ e → s.heap.get? b = some u → h'.get? b = some u) (heo : ∃ u, h'.get? e = some u)
  (new : zdn X.prog X.w (upd H x o) h' x o) : Inv X pins σ (upd H x o) { s with heap:=h', toks:=t' }:=I.un (Un.write mu he k heo) (I.hok.write mu he k heo new)
theorem Inv.pins_of {pins' : List (Addr × Obj)} (I : Inv X pins σ H s) (h : ∀ p ∈ pins', s.heap.get? p.1 = some p.2 ∧ H p.1 = none ∧ p.1 ≠ X.env.locals ∧ p.1 ∉ X.fs ∧ ∀ v, p.2.data ≠ .cell v) : Inv X pins' σ H s :=
 ⟨I.ok, I.os, I.bare, I.base, I.loc, I.cell, I.free, I.freeC, fun p hp=>(List.mem_append.mp hp).elim (fun z=>I.pin p (List.mem_append_left _ z)) (h p), I.hok, I.len⟩
theorem zuj {N : List Str} (hN : N.Nodup) {i j : Nat} {x : Str} (a : N[i]? = some x) (b : N[j]? = some x) : i = j:=by
 obtain ⟨h1, e1⟩:=List.getElem?_eq_some_iff.mp a
 obtain ⟨h2, e2⟩:=List.getElem?_eq_some_iff.mp b
 exact (List.getElem_inj hN).mp (e1.trans e2.symm)
theorem zpr {M : Model} {A : Around} {E : Value → Shared → Prop} {i : Nat} {x : Str} {v : V} {u : Value} {Q : Unit → Shared → Prop} (I : Inv X pins σ H s) (hN : X.N.Nodup) (hi : X.N[i]? = some x) (hx : Loc X.env.scope x) (r : RelV v u)
  (h : ∀ s', Inv X pins (σ.set i (some v)) H s' → (∃ a, Heap.SameBut a s.heap s'.heap ∧ (a = X.env.locals ∨ X.env.cells.lookup x = some a)) → Q () s') (hf : X.fn x = true ∨ X.env.scope.names.lookup x = some .local:=by assumption) : wpAny M A (storeName X.env x u) Q E s:=by
 obtain ⟨m, hn, hl⟩:=id I.loc
 have hcls : (X.env.scope.kind == .class || (X.env.scope.kind == .module && X.env.locals != X.env.globals)) = false:=by rw [I.ok.kind]; rfl
 have hiσ : i < σ.length:=by rw [I.len]; exact (List.getElem?_eq_some_iff.mp hi).1
 have cne:=I.cne
 have tracked : ∀ {a : Addr} {h' : Heap}, (∃ o, s.heap.get? a = some o ∧ H a = none) → Heap.SameBut a s.heap h' → HOk X.prog X.w H h':=fun {a h'} ha hs b ob e=>by
  obtain ⟨_, _, hfree⟩:=ha
  refine (I.hok b ob e).stay (fun c w' hc q=>(hs.2 c ?_).trans q) (fun _ q=>q) fun _ _ q=>q
  rintro rfl
  rcases hc with rfl | hc
  ·rw [hfree] at e; cases e
  ·rw [hfree] at hc; cases hc
 rcases hx with hk | hk
 ·refine wpAny_storeName_local hk hn (fun h' hn' hs=>?_) hcls
  obtain ⟨oL, _, _, hoL, _⟩:=id hn
  refine h _ ⟨I.ok, I.os, I.bare, ⟨fun b o e n hb hx=>?_, fun b o e n hb hx=>?_, I.base.free, fun b o e hx=>?_, I.base.tups, I.base.frzs, I.base.tbls⟩, ⟨_, hn', fun j y v' e1 e2 e3=>?_⟩, fun y c e=>?_, I.free, I.freeC, fun p hp=>?_, tracked ⟨oL, hoL, I.free⟩ hs, by simpa using I.len⟩ ⟨_, hs, .inl rfl⟩
  ·exact (hs.2 b (Nat.ne_of_lt (Nat.lt_of_lt_of_le (Heap.lt_size e) I.ok.above))).trans (I.base.keep b o e n hb hx)
  ·obtain ⟨sl, e1⟩:=I.base.slot b o e n hb hx
   exact ⟨sl, (hs.2 b (Nat.ne_of_lt (Nat.lt_of_lt_of_le (Heap.lt_size e) I.ok.above))).trans e1⟩
  ·obtain ⟨o', e1⟩:=I.base.there b o e hx
   exact ⟨o', (hs.2 b (Nat.ne_of_lt (Nat.lt_of_lt_of_le (Heap.lt_size e) I.ok.above))).trans e1⟩
  ·by_cases hj : j = i
   ·subst hj
    rw [hi] at e1; cases e1
    rw [List.getElem?_set_self hiσ] at e2
    cases e2
    exact ⟨u, r, .inl ⟨hk, by simp⟩⟩
   ·rw [List.getElem?_set_ne (Ne.symm hj)] at e2
    obtain ⟨u', r', q⟩:=hl j y v' e1 e2 e3
    refine ⟨u', r', ?_⟩
    rcases q with ⟨k, e⟩ | ⟨k, c, e, z⟩
    ·refine .inl ⟨k, ?_⟩
     have : y ≠ x:=fun e=>hj (zuj hN e1 (e ▸ hi))
     simp [this, e]
    ·exact .inr ⟨k, c, e, z.sameBut hs (cne y c e)⟩
  ·obtain ⟨w', z⟩:=I.cell y c e
   exact ⟨w', z.sameBut hs (cne y c e)⟩
  ·obtain ⟨e, n, ne, nf, d⟩:=I.pin p hp
   exact ⟨(hs.2 p.1 ne).trans e, n, ne, nf, d⟩
 ·have hfn : X.fn x = true:=by
   rcases hf with z | z
   ·exact z
   ·rw [z] at hk; cases hk
  obtain ⟨c, hc⟩:=I.ok.has x (.inl hk)
  obtain ⟨w', z⟩:=I.cell x c hc
  refine wpAny_storeName_cell I.ok.kind hk hc z (fun h' hc' hs=>?_)
  obtain ⟨oc, hoc, hocd⟩:=id z
  refine h { s with heap:=h' } ⟨I.ok, I.os, I.bare, ⟨fun b o e n hb hx=>?_, fun b o e n hb hx=>?_, I.base.free, fun b o e hx=>?_, I.base.tups, I.base.frzs, I.base.tbls⟩, ⟨m, hn.sameBut hs (Ne.symm (cne x c hc)), fun j y v' e1 e2 e3=>?_⟩, fun y c' e=>?_, I.free, I.freeC, fun p hp=>?_, tracked ⟨oc, hoc, I.freeC x c hc⟩ hs, by simpa using I.len⟩ ⟨c, hs, .inr hc⟩
  ·exact (hs.2 b (Nat.ne_of_lt (Nat.lt_of_lt_of_le (Heap.lt_size e) (I.ok.cab x c hfn hc)))).trans (I.base.keep b o e n hb hx)
  ·obtain ⟨sl, e1⟩:=I.base.slot b o e n hb hx
   exact ⟨sl, (hs.2 b (Nat.ne_of_lt (Nat.lt_of_lt_of_le (Heap.lt_size e) (I.ok.cab x c hfn hc)))).trans e1⟩
  ·obtain ⟨o', e1⟩:=I.base.there b o e hx
   exact ⟨o', (hs.2 b (Nat.ne_of_lt (Nat.lt_of_lt_of_le (Heap.lt_size e) (I.ok.cab x c hfn hc)))).trans e1⟩
  ·by_cases hj : j = i
   ·subst hj
    rw [hi] at e1; cases e1
    rw [List.getElem?_set_self hiσ] at e2
    cases e2
    exact ⟨u, r, .inr ⟨.inl hk, c, hc, hc'⟩⟩
   ·rw [List.getElem?_set_ne (Ne.symm hj)] at e2
    obtain ⟨u', r', q⟩:=hl j y v' e1 e2 e3
    refine ⟨u', r', ?_⟩
    rcases q with q | ⟨k, c', e, z'⟩
    ·exact .inl q
    ·refine .inr ⟨k, c', e, z'.sameBut hs ?_⟩
     rintro rfl
     exact hj (zuj hN e1 (I.ok.inj _ _ _ e hc ▸ hi))
  ·by_cases hcc : c' = c
   ·subst hcc; exact ⟨_, hc'⟩
   ·obtain ⟨w2, z2⟩:=I.cell y c' e
    exact ⟨w2, z2.sameBut hs hcc⟩
  ·obtain ⟨e, n, ne, nf, d⟩:=I.pin p hp
   refine ⟨(hs.2 p.1 ?_).trans e, n, ne, nf, d⟩
   intro q
   rw [q, hoc] at e
   have q' : oc = p.2:=Option.some.inj e
   exact d w' (by rw [← q']; exact hocd)
theorem zuk {M : Model} {A : Around} {E : Value → Shared → Prop} {i : Nat} {x : Str} {v : V} {u : Value} {Q : Unit → Shared → Prop} (I : Inv X pins σ H s) (hN : X.N.Nodup) (hi : X.N[i]? = some x) (hx : Loc X.env.scope x) (r : RelV v u)
  (h : ∀ s', Inv X pins (σ.set i (some v)) H s' → Q () s') (hf : X.fn x = true ∨ X.env.scope.names.lookup x = some .local:=by assumption) : wpAny M A (storeName X.env x u) Q E s :=
 zpr I hN hi hx r (fun s' I' _=>h s' I') hf
end
noncomputable abbrev XK:=Value → Option Addr → Hp → Prop
noncomputable abbrev St:=List (Option V)
noncomputable abbrev VK:=V → Hp → Prop
noncomputable abbrev TE:=St → Hp → VK → Prop
noncomputable abbrev TT:=St → Hp → (Bool → Hp → Prop) → Prop
noncomputable abbrev TA:=St → Hp → (List V → Hp → Prop) → Prop
set_option genInjectivity false in
structure Ends where
 nx : St → Hp → Prop
 rt : VK
 bk : St → Hp → Prop:=fun _ _=>False
 ct : St → Hp → Prop:=fun _ _=>False
noncomputable abbrev TS:=Ends → St → Hp → Prop
noncomputable def EP (X : Cx) (pins : List (Addr × Obj)) (σ : St) (Q : VK) (u : Value) (s' : Shared) : Prop:=∃ v H', Inv X pins σ H' s' ∧ RelV v u ∧ Q v H'
noncomputable def TP (X : Cx) (pins : List (Addr × Obj)) (σ : St) (Q : Bool → Hp → Prop) (b : Bool) (s' : Shared) : Prop:=∃ H', Inv X pins σ H' s' ∧ Q b H'
noncomputable def AP (X : Cx) (pins : List (Addr × Obj)) (σ : St) (Q : List V → Hp → Prop) (us : List Value) (s' : Shared) : Prop:=∃ vs H', Inv X pins σ H' s' ∧ Vals vs us ∧ Q vs H'
noncomputable def SP (X : Cx) (pins : List (Addr × Obj)) (D : Ends) (f : Flow) (s' : Shared) : Prop :=
 match f with
 | .next=>∃ σ' H', Inv X pins σ' H' s' ∧ D.nx σ' H'
 | .brk=>∃ σ' H', Inv X pins σ' H' s' ∧ D.bk σ' H'
 | .cont=>∃ σ' H', Inv X pins σ' H' s' ∧ D.ct σ' H'
 | .ret u=>∃ v σ' H', Inv X pins σ' H' s' ∧ RelV v u ∧ D.rt v H'
noncomputable def PE (X : Cx) (e : Expr) (t : TE) : Prop :=
 ∀ (pins : List (Addr × Obj)) (s : Shared) (σ : St) (H : Hp) (Q : VK), Inv X pins σ H s → t σ H Q → wpAny (model X.prog X.w) X.A (eval e X.env) (EP X pins σ Q) X.xe s
noncomputable def PT (X : Cx) (e : Expr) (t : TT) : Prop :=
 ∀ (pins : List (Addr × Obj)) (s : Shared) (σ : St) (H : Hp) (Q : Bool → Hp → Prop), Inv X pins σ H s → t σ H Q → wpAny (model X.prog X.w) X.A (isTrue e X.env (eval e X.env)) (TP X pins σ Q) X.xe s
noncomputable def PW (X : Cx) (e : Expr) (t : TT) : Prop :=
 ∀ (whole : Sem Value) (pins : List (Addr × Obj)) (s : Shared) (σ : St) (H : Hp) (Q : Bool → Hp → Prop), Inv X pins σ H s → t σ H Q → wpAny (model X.prog X.w) X.A (isTrue e X.env whole) (TP X pins σ Q) X.xe s
theorem PW.pt {X : Cx} {e : Expr} {t : TT} (h : PW X e t) : PT X e t:=h _
noncomputable def PA (X : Cx) (es : List Expr) (t : TA) : Prop :=
 ∀ (pos : Pos) (pins : List (Addr × Obj)) (s : Shared) (σ : St) (H : Hp) (Q : List V → Hp → Prop), Inv X pins σ H s → t σ H Q → wpAny (model X.prog X.w) X.A (spliced (backTo pos (starEach es X.env))) (AP X pins σ Q) X.xe s
noncomputable def PS (X : Cx) (st : Stmt) (t : TS) : Prop :=
 ∀ (pins : List (Addr × Obj)) (s : Shared) (σ : St) (H : Hp) (D : Ends), Inv X pins σ H s → t D σ H → wpAny (model X.prog X.w) X.A (exec st X.env) (SP X pins D) X.xe s
noncomputable def PSs (X : Cx) (st : List Stmt) (t : TS) : Prop :=
 ∀ (pins : List (Addr × Obj)) (s : Shared) (σ : St) (H : Hp) (D : Ends), Inv X pins σ H s → t D σ H → wpAny (model X.prog X.w) X.A (execs st X.env) (SP X pins D) X.xe s
theorem thn {α : Type} {t : Sem α} {Q Q' : α → Shared → Prop} {M : Model} {A : Around} {E : Value → Shared → Prop} {s : Shared} (h : wpAny M A t Q E s) (hQ : ∀ a s, Q a s → Q' a s) : wpAny M A t Q' E s:=wpAny_mono h hQ fun _ _ x=>x
end L2
namespace L2
open PySem PySem.Spec PyProof.Rows
section
variable {X : Cx}
theorem bin {a b : Expr} {ta tb : TE} (ha : PE X a ta) (hb : PE X b tb) {pins : List (Addr × Obj)} {s : Shared} {σ : St} {H : Hp} {R : V → V → Hp → Prop} (I : Inv X pins σ H s) (h : ta σ H fun x H1=>tb σ H1 fun y H2=>R x y H2)
  {α : Type} {Q : α → Shared → Prop} {f : Value → Value → Sem α}
  (hf : ∀ v u s2 x y H2, Inv X pins σ H2 s2 → RelV x v → RelV y u → R x y H2 → wpAny (model X.prog X.w) X.A (f v u) Q X.xe s2) :
  wpAny (model X.prog X.w) X.A (eval a X.env) (fun v s₁=>wpAny (model X.prog X.w) X.A (eval b X.env) (fun u s₂=>wpAny (model X.prog X.w) X.A (f v u) Q X.xe s₂) X.xe s₁) X.xe s:=by
 refine thn (ha pins s σ H _ I h) fun v s1 ⟨x, H1, I1, r1, q1⟩=>?_
 refine thn (hb pins s1 σ H1 _ I1 q1) fun u s2 ⟨y, H2, I2, r2, q2⟩=>?_
 exact hf v u s2 x y H2 I2 r1 r2 q2
noncomputable def tVar (i : Nat) : TE:=fun σ H Q=>∃ v, σ[i]? = some (some v) ∧ Q v H
noncomputable def tC (v : V) : TE:=fun _ H Q=>Q v H
theorem zacz {i : Nat} {x : Str} {pos : Pos} (hN : X.N[i]? = some x) (hv : Vis X.env.scope x) (hd : (x == ("__debug__" : Str)) = false:=by decide) (hcd : (x == ("__classdict__" : Str)) = false:=by decide) : PE X (.Name x pos) (tVar i):=by
 intro pins s σ H Q I h
 obtain ⟨v, e, h⟩:=h
 obtain ⟨m, hn, hl⟩:=I.loc
 obtain ⟨u, r, l⟩:=hl i x v hN e hv
 have fin : EP X pins σ Q u s:=⟨v, H, I, r, h⟩
 rcases l with ⟨hk, hm⟩ | ⟨hk, c, hc, hcell⟩
 ·exact wpAny_Name (wpAny_loadName_local I.ok.kind hk hn hm fin) hd
 ·rcases hk with hk | hk
  ·exact wpAny_Name (wpAny_loadName_cell I.ok.kind hk hc hcell fin) hd
  ·exact wpAny_Name (wpAny_loadName_free I.ok.kind hk hc hcell fin hcd) hd
theorem zfy {i j pos} : PE X (.Constant (.int i) j pos) (tC (.int i)):=fun _ _ _ H _ I h=>wpAny_Constant_int ⟨.int i, H, I.tok _, ⟨_, rfl⟩, h⟩
theorem zaip {b j pos} : PE X (.Constant (.bool b) j pos) (tC (.bl b)):=fun _ _ _ H _ I h=>Constant_bool ⟨.bl b, H, I, rfl, h⟩
theorem zagr {j pos} : PE X (.Constant .none j pos) (tC .non):=fun _ _ _ H _ I h=>Constant_none ⟨.non, H, I, rfl, h⟩
theorem zags {x j pos} : PE X (.Constant (.str x) j pos) (tC (.str x)):=fun _ _ _ H _ I h=>Calls.Constant_str ⟨.str x, H, I.tok _, ⟨_, rfl⟩, h⟩
noncomputable def Gl (X : Cx) (x : Str) : Prop:=X.env.kindOf x = some .globalImplicit
theorem zady {E : Value → Shared → Prop} {pins : List (Addr × Obj)} {s : Shared} {σ : St} {H : Hp} {x : Str} {u : Value} {pos : Pos} {Q : Value → Shared → Prop} (I : Inv X pins σ H s) (hg : Gl X x) (hm : X.mg x = some u) (h : Q u s)
  (hd : (x == ("__debug__" : Str)) = false:=by decide) : wpAny (model X.prog X.w) X.A (eval (.Name x pos) X.env) Q E s :=
 Calls.Name_function_global I.ok.kind hg (Calls.loadGlobal_global (by rw [I.ok.glob]; exact I.mod.glob.keeps I.bk) hm h) hd
theorem zps {E : Value → Shared → Prop} {pins : List (Addr × Obj)} {s : Shared} {σ : St} {H : Hp} {x : Str} {u : Value} {pos : Pos} {Q : Value → Shared → Prop} (I : Inv X pins σ H s) (hg : Gl X x) (hm : X.mg x = none) (hv : bootBuiltins x = some u) (h : Q u s)
  (hn : x ≠ "__name__":=by decide) (hd : (x == ("__debug__" : Str)) = false:=by decide) : wpAny (model X.prog X.w) X.A (eval (.Name x pos) X.env) Q E s:=by
 obtain ⟨mb, h1, h2⟩:=I.mod.blt
 exact Calls.Name_function_global I.ok.kind hg (Calls.loadGlobal_builtin (by rw [I.ok.glob]; exact I.mod.glob.keeps I.bk) hm (by rw [I.ok.blt]; exact h1.keeps I.bk) ((h2 x hn).trans hv) h) hd
theorem zadz {x : Str} {v : V} {u : Value} {pos : Pos} (hg : Gl X x) (hm : X.mg x = none) (hv : bootBuiltins x = some u) (r : RelV v u) (hn : x ≠ "__name__":=by decide) (hd : (x == ("__debug__" : Str)) = false:=by decide) : PE X (.Name x pos) (tC v) :=
 fun _ _ _ H _ I h=>zps I hg hm hv ⟨v, H, I, r, h⟩ hn hd
variable {a b : Expr} {ta tb : TE} {pos : Pos}
noncomputable def PC (X : Cx) (op : CmpOp) (a b : Expr) (t : TE) : Prop :=
 ∀ (pins : List (Addr × Obj)) (s : Shared) (σ : St) (H : Hp) (Q : VK), Inv X pins σ H s → t σ H Q →
  wpAny (model X.prog X.w) X.A (eval a X.env) (fun v s₁=>wpAny (model X.prog X.w) X.A (eval b X.env) (fun u s₂=>wpAny (model X.prog X.w) X.A (compareOp op v u) (EP X pins σ Q) X.xe s₂) X.xe s₁) X.xe s
theorem zij (b : Expr) {op : CmpOp} (h : op ≠ .In) (h2 : op ≠ .NotIn) : behindInMarks op b = false:=by
 have e1 : (op == CmpOp.In) = false:=by cases op <;> first | rfl | exact absurd rfl h
 have e2 : (op == CmpOp.NotIn) = false:=by cases op <;> first | rfl | exact absurd rfl h2
 cases b <;> simp [behindInMarks, e1, e2]
noncomputable def tIsN (ta : TE) : TE:=fun σ H Q=>ta σ H fun x H1=>Q (.bl (decide (x = .non))) H1
theorem RelV.none_iff {x : V} {v : Value} (r : RelV x v) : (v == Value.none) = decide (x = .non):=by
 cases x with
 | non=>cases r; rfl
 | bl _=>cases r; rfl
 | int _=>obtain ⟨t, rfl⟩:=r; rfl
 | str _=>obtain ⟨t, rfl⟩:=r; rfl
 | byt _=>obtain ⟨t, rfl⟩:=r; rfl
 | flt _=>obtain ⟨t, rfl⟩:=r; rfl
 | ref _=>cases r; rfl
 | ty _=>cases r; rfl
theorem zagt {j pos'} (ha : PE X a ta) : PC X .Is a (.Constant .none j pos') (tIsN ta):=by
 intro pins s σ H Q I h
 refine thn (ha pins s σ H _ I h) fun v s1 ⟨x, H1, I1, r1, q1⟩=>?_
 exact Constant_none (is_none_gen ⟨.bl _, H1, I1, by rw [r1.none_iff]; rfl, q1⟩)
noncomputable def tB (t : TE) : TT:=fun σ H Q=>t σ H fun x H1=>∃ c, x = .bl c ∧ Q c H1
theorem zagu {op : CmpOp} {t : TE} (h : PC X op a b t) (h1 : behindInMarks op b = false:=by rfl) : PE X (.Compare a [op] [b] pos) t:=fun pins s σ H Q I hw=>wpAny_Compare1 (h pins s σ H Q I hw) h1
theorem zagv {op : CmpOp} {t : TE} (h : PC X op a b t) (h1 : behindInMarks op b = false:=by rfl) : PT X (.Compare a [op] [b] pos) (tB t):=by
 intro pins s σ H Q I hw
 refine wpAny_isTrue_Compare1 (thn (h pins s σ H _ I hw) fun v s1 h1=>thn h1 fun u s2 h2=>thn h2 fun c s3 ⟨x, H1, I1, r1, q1⟩=>?_) h1
 obtain ⟨d, rfl, q⟩:=q1
 cases r1
 exact wpAny_truthy_bool ⟨H1, I1, q⟩
variable {tA tB' : TT} {rest : List Expr}
noncomputable def tAnd (t u : TT) : TT:=fun σ H Q=>t σ H fun c H1=>if c = true then u σ H1 Q else Q false H1
noncomputable def tOr (t u : TT) : TT:=fun σ H Q=>t σ H fun c H1=>if c = true then Q true H1 else u σ H1 Q
noncomputable def tNot (t : TT) : TT:=fun σ H Q=>t σ H fun c H1=>Q (!c) H1
theorem zaea (ha : PT X a tA) : PW X (.BoolOp .And [a] pos) tA:=by
 intro wh pins s σ H Q I h
 refine isTrue_and (thn (ha pins s σ H Q I h) fun c s1 e=>?_)
 cases c with
 | true=>exact isTrue_and_nil e
 | false=>exact e
theorem zagw (ha : PT X a tA) : PW X (.BoolOp .Or [a] pos) tA:=by
 intro wh pins s σ H Q I h
 refine isTrue_or (thn (ha pins s σ H Q I h) fun c s1 e=>?_)
 cases c with
 | false=>exact isTrue_or_nil e
 | true=>exact e
theorem zagx (ha : PT X a tA) (hb : PW X (.BoolOp .And (b :: rest) pos) tB') : PW X (.BoolOp .And (a :: b :: rest) pos) (tAnd tA tB'):=by
 intro wh pins s σ H Q I h
 refine isTrue_and (thn (ha pins s σ H _ I h) fun c s1 ⟨H1, I1, q1⟩=>?_)
 cases c with
 | true=>exact hb wh pins s1 σ H1 Q I1 q1
 | false=>exact ⟨H1, I1, q1⟩
theorem zaiq (ha : PT X a tA) (hb : PW X (.BoolOp .Or (b :: rest) pos) tB') : PW X (.BoolOp .Or (a :: b :: rest) pos) (tOr tA tB'):=by
 intro wh pins s σ H Q I h
 refine isTrue_or (thn (ha pins s σ H _ I h) fun c s1 ⟨H1, I1, q1⟩=>?_)
 cases c with
 | true=>exact ⟨H1, I1, q1⟩
 | false=>exact hb wh pins s1 σ H1 Q I1 q1
theorem zagy (ha : PT X a tA) : PT X (.UnaryOp .Not a pos) (tNot tA):=by
 intro pins s σ H Q I h
 exact isTrue_not (ha pins s σ H (fun c H1=>Q (!c) H1) I h)
end
end L2
namespace L2
open PySem PySem.Spec PyProof.Rows
noncomputable def SqL (K : PySem.W.Frag) (H : Hp) (a : Addr) (xs : List V) : Prop :=
 Rd H a (.lst xs) ∨
  ∃ (o : Obj) (its : Array Value) (n : Nat), K.lookup a = some o ∧ o.cls = .type "list" ∧ o.dict = none ∧ o.data = .seq its n ∧ its.size ≤ sizeLine ∧ Vals xs its.toList
noncomputable def SqT (K : PySem.W.Frag) (H : Hp) (a : Addr) (xs : List V) : Prop :=
 Rd H a (.tup xs) ∨
  ∃ (o : Obj) (its : Array Value) (n : Nat), K.lookup a = some o ∧ o.cls = .type "tuple" ∧ o.data = .seq its n ∧ its.size ≤ sizeLine ∧ Vals xs its.toList
noncomputable def absV : Value → Option V
 | .none=>some .non
 | .bool b=>some (.bl b)
 | .int i _=>some (.int i)
 | .str x _=>some (.str x)
 | .bytes b _=>some (.byt b)
 | .float b _=>some (.flt b)
 | .ref a=>some (.ref a)
 | .type n=>some (.ty n)
 | _=>none
theorem RelV.abs {x : V} {u : Value} (r : RelV x u) : absV u = some x:=by
 cases x with
 | non=>cases r; rfl
 | bl _=>cases r; rfl
 | int _=>obtain ⟨t, rfl⟩:=r; rfl
 | str _=>obtain ⟨t, rfl⟩:=r; rfl
 | byt _=>obtain ⟨t, rfl⟩:=r; rfl
 | flt _=>obtain ⟨t, rfl⟩:=r; rfl
 | ref _=>cases r; rfl
 | ty _=>cases r; rfl
theorem RelV.inj {x y : V} {u : Value} (r : RelV x u) (q : RelV y u) : x = y:=Option.some.inj (r.abs.symm.trans q.abs)
theorem Vals.inj : ∀ {xs ys : List V} {us : List Value}, Vals xs us → Vals ys us → xs = ys
 | _, _, _, .nil, .nil=>rfl
 | _, _, _, .cons r t, .cons r' t'=>by rw [r.inj r', Vals.inj t t']
section
variable {X : Cx} {pins : List (Addr × Obj)} {σ : St} {H : Hp} {s : Shared} {a : Addr} {xs ys : List V}
theorem SqL.of {K : PySem.W.Frag} (h : H a = some (.lst xs)) : SqL K H a xs:=.inl (.inl h)
theorem SqT.of {K : PySem.W.Frag} (h : H a = some (.tup xs)) : SqT K H a xs:=.inl (.inl h)
theorem Inv.list (I : Inv X pins σ H s) (h : SqL X.K H a xs) : ∃ its : List Value, Vals xs its ∧ PlainL s.heap a its.toArray ∧ xs.length ≤ sizeLine:=by
 rcases h with h | ⟨o, its, n, hk, hc, hd, hs, hz, r⟩
 ·obtain ⟨z, its, n, r, e⟩:=h.ok I.hok
  exact ⟨its, r, ⟨_, n, e, rfl, rfl, rfl⟩, z⟩
 ·refine ⟨its.toList, r, ⟨o, n, I.kIn a o hk, hc, hd, by simpa using hs⟩, ?_⟩
  have e:=r.length
  simp only [Array.length_toList] at e
  omega
theorem Inv.tuple (I : Inv X pins σ H s) (h : SqT X.K H a xs) : ∃ its : List Value, Vals xs its ∧ IsTup s.heap a its.toArray ∧ xs.length ≤ sizeLine:=by
 rcases h with h | ⟨o, its, n, hk, hc, hs, hz, r⟩
 ·obtain ⟨z, its, r, p⟩:=h.ok I.hok
  exact ⟨its, r, p, z⟩
 ·refine ⟨its.toList, r, ⟨o, I.kIn a o hk, hc, n, by simpa using hs⟩, ?_⟩
  have e:=r.length
  simp only [Array.length_toList] at e
  omega
theorem Inv.list_inj (I : Inv X pins σ H s) (h : SqL X.K H a xs) (h' : SqL X.K H a ys) : xs = ys:=by
 obtain ⟨its, r, ⟨o, n, e, _, _, d⟩, _⟩:=I.list h
 obtain ⟨its', r', ⟨o', n', e', _, _, d'⟩, _⟩:=I.list h'
 rw [e] at e'; cases e'
 rw [d] at d'
 injection d' with d1 _
 have : its = its':=by simpa using congrArg Array.toList d1
 subst this
 exact r.inj r'
theorem Inv.tuple_inj (I : Inv X pins σ H s) (h : SqT X.K H a xs) (h' : SqT X.K H a ys) : xs = ys:=by
 obtain ⟨its, r, ⟨o, e, _, n, d⟩, _⟩:=I.tuple h
 obtain ⟨its', r', ⟨o', e', _, n', d'⟩, _⟩:=I.tuple h'
 rw [e] at e'; cases e'
 rw [d] at d'
 injection d' with d1 _
 have : its = its':=by simpa using congrArg Array.toList d1
 subst this
 exact r.inj r'
end
noncomputable abbrev Cx.wish (X : Cx) (E : Value → Shared → Prop) : Cx:={ X with xe:=E }
noncomputable abbrev Cx.nox (X : Cx) : Cx:=X.wish fun _ _=>False
theorem Cx.Ok.wish {X : Cx} (ok : X.Ok) (E : Value → Shared → Prop) : (X.wish E).Ok :=
 ⟨ok.mod, ok.kind, ok.glob, ok.blt, ok.above, ok.inj, ok.has, ok.cab, ok.hd, ok.frames, ok.stk, ok.exf, ok.bs, ok.bsz, ok.noex, ok.exfs, ok.funs, ok.frf⟩
theorem Cx.Ok.unwish {X : Cx} {E : Value → Shared → Prop} (ok : (X.wish E).Ok) : X.Ok :=
 ⟨ok.mod, ok.kind, ok.glob, ok.blt, ok.above, ok.inj, ok.has, ok.cab, ok.hd, ok.frames, ok.stk, ok.exf, ok.bs, ok.bsz, ok.noex, ok.exfs, ok.funs, ok.frf⟩
section
variable {X : Cx} {pins : List (Addr × Obj)} {σ : St} {H : Hp} {s : Shared} {E : Value → Shared → Prop}
theorem Inv.wish (I : Inv X pins σ H s) (E : Value → Shared → Prop) : Inv (X.wish E) pins σ H s:=⟨I.ok.wish E, I.os, I.bare, I.base, I.loc, I.cell, I.free, I.freeC, I.pin, I.hok, I.len⟩
theorem Inv.unwish (I : Inv (X.wish E) pins σ H s) : Inv X pins σ H s:=⟨I.ok.unwish, I.os, I.bare, I.base, I.loc, I.cell, I.free, I.freeC, I.pin, I.hok, I.len⟩
theorem SP.unwish {D : Ends} {f : Flow} {s' : Shared} (h : SP (X.wish E) pins D f s') : SP X pins D f s':=by
 cases f with
 | next=>obtain ⟨σ', H', I, q⟩:=h; exact ⟨σ', H', I.unwish, q⟩
 | brk=>obtain ⟨σ', H', I, q⟩:=h; exact ⟨σ', H', I.unwish, q⟩
 | cont=>obtain ⟨σ', H', I, q⟩:=h; exact ⟨σ', H', I.unwish, q⟩
 | ret u=>obtain ⟨v, σ', H', I, r, q⟩:=h; exact ⟨v, σ', H', I.unwish, r, q⟩
theorem PSs.nox {st : List Stmt} {t : TS} (h : PSs X.nox st t) : PSs X st t:=fun pins s σ H D I hw =>
 wpAny_mono (h pins s σ H D (I.wish _) hw) (fun _ _ q=>q.unwish) fun _ _ z=>False.elim z
end
section
variable {X : Cx} {st : Stmt} {rest : List Stmt} {t u : TS} {e : Expr} {te : TE} {pos : Pos}
noncomputable def tNext : TS:=fun D σ H=>D.nx σ H
noncomputable def tSeq (t u : TS) : TS:=fun D σ H=>t { D with nx:=u D } σ H
theorem zaeb : PSs X [] tNext:=fun _ _ σ H _ I h=>wpAny_execs_nil ⟨σ, H, I, h⟩
theorem zjg (h1 : PS X st t) (h2 : PSs X rest u) : PSs X (st :: rest) (tSeq t u):=by
 intro pins s σ H D I h
 refine wpAny_execs_cons (thn (h1 pins s σ H { D with nx:=u D } I h) fun f s1 q=>?_)
 cases f with
 | next =>
  obtain ⟨σ', H', I', q⟩:=q
  exact h2 pins s1 σ' H' D I' q
 | ret v=>exact q
 | brk=>exact q
 | cont=>exact q
theorem zka (h1 : PS X st t) : PSs X [st] t:=by
 intro pins s σ H D I h
 refine wpAny_execs_cons (thn (h1 pins s σ H D I h) fun f s1 q=>?_)
 cases f with
 | next=>exact wpAny_execs_nil q
 | ret v=>exact q
 | brk=>exact q
 | cont=>exact q
theorem Inv.quiet {pins : List (Addr × Obj)} {σ : St} {H : Hp} {s : Shared} (I : Inv X pins σ H s) : interactive X.env = false:=by simp [interactive, I.ok.kind]
noncomputable def tDrop (te : TE) : TS:=fun D σ H=>te σ H fun _ H1=>D.nx σ H1
theorem zsq (he : PE X e te) (hs : swapsWith e none pos.line X.env = pure false:=by rfl) : PS X (.Expr e pos) (tDrop te):=by
 intro pins s σ H D I h
 exact wpAny_Expr_any (thn (he pins s σ H _ I h) fun v s1 ⟨x, H1, I1, r1, q1⟩=>⟨σ, H1, I1, q1⟩) I.quiet hs
noncomputable def tRet (te : TE) : TS:=fun D σ H=>te σ H D.rt
theorem zada (he : PE X e te) : PS X (.Return (some e) pos) (tRet te):=by
 intro pins s σ H D I h
 exact wpAny_Return_some (thn (he pins s σ H _ I h) fun v s1 ⟨x, H1, I1, r1, q1⟩=>⟨x, σ, H1, I1, r1, q1⟩)
noncomputable def tIfS (c : TT) (t u : TS) : TS:=fun D σ H=>c σ H fun b H1=>if b = true then t D σ H1 else u D σ H1
theorem zagz {c : Expr} {a b : List Stmt} {tc : TT} (hc : PT X c tc) (ha : PSs X a t) (hb : PSs X b u) : PS X (.If c a b pos) (tIfS tc t u):=by
 intro pins s σ H D I h
 refine wpAny_If (thn (hc pins s σ H _ I h) fun d s1 ⟨H1, I1, q1⟩=>?_)
 cases d with
 | true=>exact ha pins s1 σ H1 D I1 q1
 | false=>exact hb pins s1 σ H1 D I1 q1
noncomputable def tNever : TS:=fun _ _ _=>False
theorem zaar : PS X st tNever:=fun _ _ _ _ _ _ h=>h.elim
end
noncomputable abbrev TG:=V → St → Hp → (St → Hp → Prop) → Prop
noncomputable abbrev TGs:=List V → St → Hp → (St → Hp → Prop) → Prop
noncomputable def PG (X : Cx) (target : Expr) (t : TG) : Prop :=
 ∀ (pins : List (Addr × Obj)) (s : Shared) (σ : St) (H : Hp) (v : V) (u : Value) (Q : St → Hp → Prop), Inv X pins σ H s → RelV v u → t v σ H Q →
  wpAny (model X.prog X.w) X.A (assign target X.env u) (fun _ s'=>∃ σ' H', Inv X pins σ' H' s' ∧ Q σ' H') X.xe s
noncomputable def PGs (X : Cx) (ts : List Expr) (t : TGs) : Prop :=
 ∀ (pins : List (Addr × Obj)) (s : Shared) (σ : St) (H : Hp) (vs : List V) (us : List Value) (Q : St → Hp → Prop), Inv X pins σ H s → Vals vs us → t vs σ H Q →
  wpAny (model X.prog X.w) X.A (assignInOrder ((assignEach ts X.env).map (·.2)) us) (fun _ s'=>∃ σ' H', Inv X pins σ' H' s' ∧ Q σ' H') X.xe s
section
variable {X : Cx} {pos : Pos}
noncomputable def gName (i : Nat) : TG:=fun v σ H Q=>Q (σ.set i (some v)) H
theorem zsr {i : Nat} {x : Str} (hN : X.N.Nodup) (hi : X.N[i]? = some x) (hx : Loc X.env.scope x) (hf : X.fn x = true ∨ X.env.scope.names.lookup x = some .local:=by assumption) : PG X (.Name x pos) (gName i):=by
 intro pins s σ H v u Q I r h
 exact wpAny_assign_Name (zuk I hN hi hx r (fun s' I'=>⟨_, H, I', h⟩) hf)
noncomputable def gNil : TGs:=fun vs σ H Q=>vs = [] ∧ Q σ H
noncomputable def gCons (t : TG) (u : TGs) : TGs:=fun vs σ H Q=>∃ v r, vs = v :: r ∧ t v σ H fun σ' H'=>u r σ' H' Q
theorem zaec : PGs X [] gNil:=by
 intro pins s σ H vs us Q I r h
 obtain ⟨e, h⟩:=h
 subst e
 cases r
 exact assignInOrder_nil ⟨σ, H, I, h⟩
theorem zaas {e : Expr} {es : List Expr} {t : TG} {u : TGs} (h1 : PG X e t) (h2 : PGs X es u)
  (hs : (assignEach (e :: es) X.env).map (·.2) = assign e X.env :: (assignEach es X.env).map (·.2):=by rfl) : PGs X (e :: es) (gCons t u):=by
 intro pins s σ H vs us Q I r h
 obtain ⟨v, vr, e1, h⟩:=h
 subst e1
 cases r with
 | cons r rr =>
  rw [hs]
  refine assignInOrder_cons (thn (h1 pins s σ H _ _ _ I r h) fun _ s1 ⟨σ1, H1, I1, q1⟩=>?_)
  exact h2 pins s1 σ1 H1 _ _ Q I1 rr q1
noncomputable def gTup (K : PySem.W.Frag) (n : Nat) (t : TGs) : TG:=fun v σ H Q=>∃ a xs, v = .ref a ∧ SqT K H a xs ∧ xs.length = n ∧ t xs σ H Q
theorem zaha {es : List Expr} {k : Nat} {t : TGs} {n : Nat} (hc : X.calm = true) (h : PGs X es t)
  (hn : (assignEach es X.env).length = n:=by rfl) (hst : (assignEach es X.env).findIdx? (·.1) = none:=by rfl) : PG X (.Tuple es k pos) (gTup X.K n t):=by
 intro pins s σ H v u Q I r hw
 obtain ⟨a, xs, e1, hq, hl, hw⟩:=hw
 subst e1
 cases r
 obtain ⟨its, rv, ht, hz⟩:=I.tuple hq
 refine assign_Tuple_tuple (I.ok.hd hc) ht (by simp [hn, ← hl, rv.length]) hst fun h' hx=>?_
 have I1 : Inv X pins σ H { s with heap:=h' }:=I.kept (t':=s.toks) fun b o e=>hx b o (Nat.ne_of_lt (Heap.lt_size e)) e
 exact h pins _ σ H xs _ Q I1 (by simpa using rv) hw
noncomputable def tAsg (te : TE) (g : TG) : TS:=fun D σ H=>te σ H fun x H1=>g x σ H1 D.nx
theorem zul {i : Nat} {x : Str} {e : Expr} {te : TE} {pos' : Pos} (hN : X.N.Nodup) (hi : X.N[i]? = some x) (hx : Loc X.env.scope x) (he : PE X e te) (hs : swapsWith e (some (.Name x pos')) pos.line X.env = pure false:=by rfl) (hf : X.fn x = true ∨ X.env.scope.names.lookup x = some .local:=by assumption) :
  PS X (.Assign [.Name x pos'] e pos) (tAsg te (gName i)):=by
 intro pins s σ H D I h
 refine wpAny_Assign_Name (thn (he pins s σ H _ I h) fun v s1 ⟨y, H1, I1, r1, q1⟩=>?_) hs
 exact zuk I1 hN hi hx r1 (fun s2 I2=>⟨_, H1, I2, q1⟩) hf
end
section
variable {X : Cx} {pos : Pos}
noncomputable def tWhile (c : TT) (tb : TS) : TS:=fun D σ H=>∃ W : Nat → St → Hp → Prop, (∃ m, W m σ H) ∧ ∀ m σ H, W m σ H →
 c σ H fun b H1=>if b = true then ∃ N : St → Hp → Prop, (∀ σ' H', N σ' H' → ∃ m', m' < m ∧ W m' σ' H') ∧ tb { D with nx:=N, ct:=N, bk:=D.nx } σ H1 else D.nx σ H1
theorem zaat {c : Expr} {body : List Stmt} {tc : TT} {tb : TS} (hp : PassesOwn (model X.prog X.w) X.A X.env X.xe) (hc : PT X c tc) (hb : PSs X body tb) : PS X (.While c body [] pos) (tWhile tc tb):=by
 intro pins s σ H D I h
 obtain ⟨W, ⟨m0, w0⟩, turn⟩:=h
 refine wpAny_While (codeAny_whileLoop (fun n s'=>∃ σ' H', Inv X pins σ' H' s' ∧ W n σ' H') ?_ m0 ⟨σ, H, I, w0⟩)
 rintro n s1 ⟨σ1, H1, I1, w1⟩
 refine wpAny_passesOwn hp (thn (hc pins s1 σ1 H1 _ I1 (turn n σ1 H1 w1)) fun b s2 ⟨H2, I2, q2⟩=>?_)
 cases b with
 | true =>
  obtain ⟨N, hN, q2⟩:=q2
  rw [if_pos rfl]
  refine wpAny_passesOwn hp (thn (hb pins s2 σ1 H2 _ I2 q2) fun f s3 q3=>?_)
  cases f with
  | next =>
   obtain ⟨σ3, H3, I3, n3⟩:=q3
   obtain ⟨m', hm, w3⟩:=hN σ3 H3 n3
   exact ⟨m', hm, σ3, H3, I3, w3⟩
  | cont =>
   obtain ⟨σ3, H3, I3, n3⟩:=q3
   obtain ⟨m', hm, w3⟩:=hN σ3 H3 n3
   exact ⟨m', hm, σ3, H3, I3, w3⟩
  | brk=>exact q3
  | ret v=>exact q3
 | false =>
  rw [if_neg Bool.false_ne_true]
  exact wpAny_execs_nil ⟨σ1, H2, I2, q2⟩
end
set_option genInjectivity false in
structure It where
 go : Nat → Hp → Prop
 yld : Nat → Hp → V → Hp → Prop
 stop : Nat → Hp → Prop
noncomputable def FpOk (X : Cx) (pins : List (Addr × Obj)) (H : Hp) (b : Addr) : Prop :=
 H b = none ∧ b ≠ X.env.locals ∧ b ∉ X.fs ∧ (b ∈ X.ex ∨ X.s₀.heap.objs.size ≤ b) ∧ (∀ x c, X.env.cells.lookup x = some c → c ≠ b) ∧ ∀ p ∈ X.pn ++ pins, p.1 ≠ b
theorem Inv.fpOk {X : Cx} {pins : List (Addr × Obj)} {σ : St} {H H' : Hp} {s : Shared} {b : Addr} (I : Inv X pins σ H s) (hb : s.heap.objs.size ≤ b) (hn : H' b = none) : FpOk X pins H' b:=by
 refine ⟨hn, Nat.ne_of_gt (Nat.lt_of_lt_of_le I.lt hb), I.nofs hb, .inr (Nat.le_trans I.sz hb), fun x c e z=>?_, fun p hp z=>?_⟩
 ·obtain ⟨v, q⟩:=I.cell x c e
  exact absurd (Nat.lt_of_lt_of_le q.lt (by rw [z]; exact hb)) (Nat.lt_irrefl _)
 ·exact absurd (Nat.lt_of_lt_of_le (Heap.lt_size (I.pin p hp).1) (by rw [z]; exact hb)) (Nat.lt_irrefl _)
set_option genInjectivity false in
structure Turn (P : Program) (w : World) (K : PySem.W.Frag) (tg : Expr) (J : It) (fp : List Addr) (it : Addr) (tn : Nat → Heap → Prop) : Prop where
 mem : it ∈ fp
 obj : ∀ i h, tn i h → ∀ b ∈ fp, ∃ o, h.get? b = some o ∧ ∀ v, o.data ≠ .cell v
 keep : ∀ i h h', tn i h → (∀ b ∈ fp, ∀ o, h.get? b = some o → h'.get? b = some o) → tn i h'
 item : ∀ (X : Cx), X.prog = P → X.w = w → X.K = K → X.calm = true → ∀ (i : Nat) (pins : List (Addr × Obj)) (s : Shared) (σ : St) (H : Hp) (E : Value → Shared → Prop), Inv X pins σ H s → (∀ b ∈ fp, FpOk X pins H b) → tn i s.heap → J.go i H →
  wpAny (model P w) X.A (pyNext (.ref it)) (fun r s1=>∃ u, r = some u ∧
   wpAny (model P w) X.A (letOwnedTupleGo tg (.ref it) u) (fun _ s2=>∃ x H', Inv X pins σ H' s2 ∧ RelV x u ∧ J.yld i H x H' ∧ tn (i + 1) s2.heap ∧ ∀ b ∈ fp, H' b = none) E s1) E s
 done : ∀ (X : Cx), X.prog = P → X.w = w → X.K = K → X.calm = true → ∀ (i : Nat) (pins : List (Addr × Obj)) (s : Shared) (σ : St) (H : Hp) (E : Value → Shared → Prop), Inv X pins σ H s → (∀ b ∈ fp, FpOk X pins H b) → tn i s.heap → J.stop i H →
  wpAny (model P w) X.A (pyNext (.ref it)) (fun r s1=>r = none ∧ Inv X pins σ H s1) E s
 self : ∀ (A : Around) (i : Nat) (s : Shared) (Q : Value → Shared → Prop) (E : Value → Shared → Prop), tn i s.heap → Q (.ref it) s → wpAny (model P w) A (pyIter (.ref it)) Q E s
noncomputable abbrev TI:=St → Hp → (It → Hp → Prop) → Prop
noncomputable def PIE (X : Cx) (pins : List (Addr × Obj)) (σ : St) (tg : Expr) (R : It → Hp → Prop) (itv : Value) (s2 : Shared) : Prop :=
 ∃ (it : Addr) (fp : List Addr) (tn : Nat → Heap → Prop) (J : It) (H' : Hp), itv = .ref it ∧ Inv X pins σ H' s2 ∧ Turn X.prog X.w X.K tg J fp it tn ∧ tn 0 s2.heap ∧ (∀ b ∈ fp, FpOk X pins H' b) ∧ R J H'
noncomputable def PI (X : Cx) (tg iter : Expr) (wi : TI) : Prop :=
 ∀ (pins : List (Addr × Obj)) (s : Shared) (σ : St) (H : Hp) (R : It → Hp → Prop), Inv X pins σ H s → wi σ H R →
  wpAny (model X.prog X.w) X.A (eval iter X.env) (fun v s1=>wpAny (model X.prog X.w) X.A (pyIter v) (PIE X pins σ tg R) X.xe s1) X.xe s
theorem zaed {M : Model} {A : Around} {E : Value → Shared → Prop} {s : Shared} {tg : Expr} {it : Addr} {u : Value} {o : Obj} {n : String} {vs : Array Value} {Q : Unit → Shared → Prop} (ho : s.heap.get? it = some o) (hc : o.cls = .type n) (hd : o.data = .fields vs)
  (hn : ["enumerate", "zip", "dict_itemiterator", "dict_reverseitemiterator", "odict_iterator", "itertools.zip_longest", "itertools.pairwise"].contains n = false) (hQ : Q () s) : wpAny M A (letOwnedTupleGo tg (.ref it) u) Q E s:=by
 unfold letOwnedTupleGo
 cases tg <;> first
  | exact wpAny_pure hQ
  | (cases u <;> first
    | exact wpAny_pure hQ
    | (refine wpAny_bind (wpAny_load ho ?_)
       rw [hc, hd]
       show wpAny M A (if (["enumerate", "zip", "dict_itemiterator", "dict_reverseitemiterator", "odict_iterator", "itertools.zip_longest", "itertools.pairwise"].contains n && vs[0]? == some (rawInt _)) = true then _ else _) Q E s
       rw [if_neg (by intro h; rw [hn, Bool.false_and] at h; cases h)]
       exact wpAny_pure hQ))
noncomputable def Itl (K : PySem.W.Frag) (a : Addr) : It :=
 ⟨fun i H=>∃ xs x, SqL K H a xs ∧ xs[i]? = some x, fun i H x H'=>H' = H ∧ ∀ xs, SqL K H a xs → xs[i]? = some x, fun i H=>∃ xs, SqL K H a xs ∧ xs.length ≤ i⟩
noncomputable def Itt (K : PySem.W.Frag) (a : Addr) : It :=
 ⟨fun i H=>∃ xs x, SqT K H a xs ∧ xs[i]? = some x, fun i H x H'=>H' = H ∧ ∀ xs, SqT K H a xs → xs[i]? = some x, fun i H=>∃ xs, SqT K H a xs ∧ xs.length ≤ i⟩
noncomputable def Itr (lo : Int) (n : Nat) : It:=⟨fun i _=>i < n, fun i H x H'=>H' = H ∧ x = .int (lo + i), fun i _=>n ≤ i⟩
theorem zpt {P : Program} {w : World} {K : PySem.W.Frag} {tg : Expr} (a it : Addr) : Turn P w K tg (Itl K a) [it] it (fun i h=>h.IsListIter it a i) where
 mem:=by simp
 obj:=fun i h st b hb=>by
  have e : b = it:=by simpa using hb
  subst e
  obtain ⟨o, e, c, d⟩:=st
  exact ⟨o, e, fun v z=>by rw [d] at z; cases z⟩
 keep:=fun i h h' st k=>st.at fun o e=>k it (by simp) o e
 item:=by
  intro X hP hw hK hc i pins s σ H E I hf st hg
  subst hP hw hK
  obtain ⟨xs, x, hq, hx⟩:=hg
  obtain ⟨its, rv, p, hz⟩:=I.list hq
  obtain ⟨u, hu, ru⟩:=rv.get hx
  obtain ⟨f0, f1, f2, f3, f4, f5⟩:=hf it (by simp)
  refine wpAny_pyNext_list_item st p.isList (x:=u) (by simpa using hu) fun h' st' sb=>?_
  have I1 : Inv X pins σ H { s with heap:=h' }:=I.turned (t':=s.toks) (fun b o hb e=>(sb.2 b hb).trans e) f0 f1 f3 f4 f5
  obtain ⟨o, e, c, d⟩:=id st'
  exact ⟨u, rfl, zaed (s:={ s with heap:=h' }) e c d (by decide) ⟨x, H, I1, ru, ⟨rfl, fun ys hy=>by rw [I.list_inj hy hq]; exact hx⟩, st', fun b hb=>(hf b hb).1⟩⟩
 done:=by
  intro X hP hw hK hc i pins s σ H E I hf st hg
  subst hP hw hK
  obtain ⟨xs, hq, hx⟩:=hg
  obtain ⟨its, rv, p, hz⟩:=I.list hq
  obtain ⟨f0, f1, f2, f3, f4, f5⟩:=hf it (by simp)
  have hl:=rv.length
  exact wpAny_pyNext_list_end (I.ok.hd hc) st p.isList (by simp; omega) fun h' eb=>⟨rfl, I.turned (t':=s.toks) (fun b o hb e=>eb b o hb e) f0 f1 f3 f4 f5⟩
 self:=fun _ _ _ _ _ st h=>wpAny_pyIter_listiter st h
theorem zvu {P : Program} {w : World} {K : PySem.W.Frag} {tg : Expr} (a it : Addr) : Turn P w K tg (Itt K a) [it] it (fun i h=>h.IsTupleIter it a i) where
 mem:=by simp
 obj:=fun i h st b hb=>by
  have e : b = it:=by simpa using hb
  subst e
  obtain ⟨o, e, c, d⟩:=st
  exact ⟨o, e, fun v z=>by rw [d] at z; cases z⟩
 keep:=fun i h h' st k=>st.at fun o e=>k it (by simp) o e
 item:=by
  intro X hP hw hK hc i pins s σ H E I hf st hg
  subst hP hw hK
  obtain ⟨xs, x, hq, hx⟩:=hg
  obtain ⟨its, rv, p, hz⟩:=I.tuple hq
  obtain ⟨u, hu, ru⟩:=rv.get hx
  obtain ⟨f0, f1, f2, f3, f4, f5⟩:=hf it (by simp)
  refine wpAny_pyNext_tuple_item st (show s.heap.IsTuple a its.toArray from p) (x:=u) (by simpa using hu) fun h' st' sb=>?_
  have I1 : Inv X pins σ H { s with heap:=h' }:=I.turned (t':=s.toks) (fun b o hb e=>(sb.2 b hb).trans e) f0 f1 f3 f4 f5
  obtain ⟨o, e, c, d⟩:=id st'
  exact ⟨u, rfl, zaed (s:={ s with heap:=h' }) e c d (by decide) ⟨x, H, I1, ru, ⟨rfl, fun ys hy=>by rw [I.tuple_inj hy hq]; exact hx⟩, st', fun b hb=>(hf b hb).1⟩⟩
 done:=by
  intro X hP hw hK hc i pins s σ H E I hf st hg
  subst hP hw hK
  obtain ⟨xs, hq, hx⟩:=hg
  obtain ⟨its, rv, p, hz⟩:=I.tuple hq
  obtain ⟨f0, f1, f2, f3, f4, f5⟩:=hf it (by simp)
  have hl:=rv.length
  exact wpAny_pyNext_tuple_end (I.ok.hd hc) st (show s.heap.IsTuple a its.toArray from p) (by simp; omega) fun h' eb=>⟨rfl, I.turned (t':=s.toks) (fun b o hb e=>eb b o hb e) f0 f1 f3 f4 f5⟩
 self:=fun _ _ _ _ _ st h=>wpAny_pyIter_tupleiter st h
theorem zvv {P : Program} {w : World} {K : PySem.W.Frag} {tg : Expr} (it : Addr) (lo : Int) (n : Nat) : Turn P w K tg (Itr lo n) [it] it (fun i h=>IsRangeIter h it (lo + (i : Nat) * 1) ((n : Int) - (i : Nat)) 1) where
 mem:=by simp
 obj:=fun i h st b hb=>by
  have e : b = it:=by simpa using hb
  subst e
  exact ⟨_, st, fun v z=>by
   have z' : Data.fields _ = Data.cell v:=z
   cases z'⟩
 keep:=fun i h h' st k=>k it (by simp) _ st
 item:=by
  intro X hP hw hK hc i pins s σ H E I hf st hg
  subst hP hw hK
  obtain ⟨f0, f1, f2, f3, f4, f5⟩:=hf it (by simp)
  have W:=Walks.range (prog:=X.prog) (w:=X.w) (I.ok.hd hc) it lo 1 n
  refine W.item i s _ _ hg st fun v h' tk hv st' kk=>?_
  obtain ⟨t, rfl⟩:=hv
  have I1 : Inv X pins σ H { s with heap:=h', toks:=tk }:=I.turned (fun b o hb e=>kk b o (by simpa using hb) e) f0 f1 f3 f4 f5
  refine ⟨_, rfl, zaed (s:={ s with heap:=h', toks:=tk }) (n:="range_iterator") st' rfl rfl (by decide) ⟨.int (lo + i), H, I1, ⟨t, ?_⟩, ⟨rfl, rfl⟩, st', fun b hb=>(hf b hb).1⟩⟩
  rw [Int.mul_one]
 done:=by
  intro X hP hw hK hc i pins s σ H E I hf st hg
  subst hP hw hK
  obtain ⟨f0, f1, f2, f3, f4, f5⟩:=hf it (by simp)
  exact wpAny_pyNext_range_end (I.ok.hd hc) st (by have : n ≤ i:=hg; omega) fun h' eb=>⟨rfl, I.turned (t':=s.toks) (fun b o hb e=>eb b o hb e) f0 f1 f3 f4 f5⟩
 self:=fun _ _ _ _ _ st h=>wpAny_pyIter_rangeiter st h
end L2
namespace L2
open PySem PySem.Spec PyProof.Rows
section
variable {X : Cx} {tg : Expr}
noncomputable def zahb (K : PySem.W.Frag) (tl : TE) : TI:=fun σ H R=>tl σ H fun x H1=>∃ a, x = .ref a ∧ (∃ xs, SqL K H1 a xs) ∧ R (Itl K a) H1
theorem zaee {l : Expr} {tl : TE} (hl : PE X l tl) : PI X tg l (zahb X.K tl):=by
 intro pins s σ H R I h
 refine thn (hl pins s σ H _ I h) fun v s1 ⟨x, H1, I1, r1, q1⟩=>?_
 obtain ⟨a, e, ⟨xs, hq⟩, q⟩:=q1
 subst e
 cases r1
 obtain ⟨its, rv, p, hz⟩:=I1.list hq
 refine wpAny_pyIter_list p.isList ?_
 refine ⟨s1.heap.objs.size, [s1.heap.objs.size], _, _, H1, rfl, I1.kept (t':=s1.toks) fun b o e=>Heap.get?_push_of_some _ e, zpt a _, ⟨_, Heap.get?_push_size _ rfl, rfl, rfl⟩, fun b hb=>?_, q⟩
 have e : b = s1.heap.objs.size:=by simpa using hb
 subst e
 exact I1.fpOk (Nat.le_refl _) (I1.hok.fresh (Nat.le_refl _))
theorem zaau {pins : List (Addr × Obj)} {σ : St} {H : Hp} {s : Shared} {R : It → Hp → Prop} {E : Value → Shared → Prop} {lo hi : Int} {t u v : Tok} {tk : Nat} (I : Inv X pins σ H s) (h1 : -(2 ^ 62) ≤ lo) (h2 : lo < 2 ^ 62) (h3 : -(2 ^ 62) ≤ hi) (h4 : hi < 2 ^ 62)
  (q : R (Itr lo (hi - lo).toNat) H) : wpAny (model X.prog X.w) X.A (pyIter (.ref s.heap.objs.size)) (PIE X pins σ tg R) E { s with heap:=s.heap.push { cls:=.type "range", data:=.fields #[.int lo t, .int hi u, .int 1 v] }, toks:=tk }:=by
 refine wpAny_pyIter_range (IsRange.new ..) (small_one h1 h2 h3 h4) ?_
 have I1 : Inv X pins σ H { s with heap:=s.heap.push { cls:=.type "range", data:=.fields #[.int lo t, .int hi u, .int 1 v] }, toks:=tk }:=I.kept fun b o e=>Heap.get?_push_of_some _ e
 refine ⟨(s.heap.push { cls:=.type "range", data:=.fields #[.int lo t, .int hi u, .int 1 v] }).objs.size, [(s.heap.push { cls:=.type "range", data:=.fields #[.int lo t, .int hi u, .int 1 v] }).objs.size], _, _, H, rfl,
  I1.kept (t':=tk) fun b o e=>Heap.get?_push_of_some _ e, zvv _ lo (hi - lo).toNat, ?_, fun b hb=>?_, q⟩
 ·have e1 : lo + ((0 : Nat) : Int) * 1 = lo:=by simp
  have e2 : (((hi - lo).toNat : Nat) : Int) - ((0 : Nat) : Int) = Builtin.Range.rangeSize lo hi 1:=by rw [rangeSize_one]; split <;> omega
  show IsRangeIter _ _ (lo + ((0 : Nat) : Int) * 1) ((((hi - lo).toNat : Nat) : Int) - ((0 : Nat) : Int)) 1
  rw [e1, e2]
  exact Heap.get?_push_size _ rfl
 ·have e : b = (s.heap.push { cls:=.type "range", data:=.fields #[.int lo t, .int hi u, .int 1 v] }).objs.size:=by simpa using hb
  subst e
  exact I1.fpOk (Nat.le_refl _) (I1.hok.fresh (Nat.le_refl _))
noncomputable def iRng1 (ta : TA) : TI:=fun σ H R=>ta σ H fun vs H1=>∃ j : Int, vs = [.int j] ∧ -(2 ^ 62) ≤ j ∧ j < 2 ^ 62 ∧ R (Itr 0 j.toNat) H1
theorem zpu {a : Expr} {ta : TA} {p pos : Pos} (hg : Gl X "range") (hm : X.mg "range" = none) (ha : PA X [a] ta) (hs : starEach [a] X.env = [(false, eval a X.env)]:=by rfl) : PI X tg (.Call (.Name "range" p) [a] [] pos) (iRng1 ta):=by
 intro pins s σ H R I h
 refine Call_ (zps I hg hm boot_range (PyProof.Rows.callWith_type1 (thn (ha pos pins s σ H _ I h) fun us s1 ⟨vs, H1, I1, r1, q1⟩=>?_) hs rfl))
 obtain ⟨j, e, q1, q2, q⟩:=q1
 subst e
 cases r1 with
 | cons r rr =>
  cases rr
  obtain ⟨t, rfl⟩:=r
  exact call_range_1 (zaau I1 (by omega) (by omega) q1 q2 (by simpa using q))
noncomputable def tFor (wi : TI) (g : TG) (tb : TS) : TS:=fun D σ H=>wi σ H fun J H1=>∃ W : Nat → Nat → St → Hp → Prop, (∃ m, W 0 m σ H1) ∧ ∀ i m σ H, W i m σ H →
 (J.stop i H ∧ D.nx σ H) ∨ (J.go i H ∧ ∃ N : St → Hp → Prop, (∀ σ' H', N σ' H' → ∃ m', m' < m ∧ W (i + 1) m' σ' H') ∧ ∀ x H', J.yld i H x H' → g x σ H' fun σ2 H2=>tb { D with nx:=N, ct:=N, bk:=D.nx } σ2 H2)
noncomputable def zpv (fp : List Addr) (h : Heap) : List (Addr × Obj):=fp.filterMap fun b=>(h.get? b).map fun o=>(b, o)
theorem zik {fp : List Addr} {h : Heap} {b : Addr} {o : Obj} (hb : b ∈ fp) (e : h.get? b = some o) : (b, o) ∈ zpv fp h:=List.mem_filterMap.mpr ⟨b, hb, by rw [e]; rfl⟩
theorem zwt {fp : List Addr} {h : Heap} {p : Addr × Obj} (hp : p ∈ zpv fp h) : p.1 ∈ fp ∧ h.get? p.1 = some p.2:=by
 obtain ⟨b, hb, e⟩:=List.mem_filterMap.mp hp
 cases q : h.get? b with
 | none=>rw [q] at e; cases e
 | some o =>
  rw [q] at e
  have e' : (b, o) = p:=Option.some.inj e
  subst e'
  exact ⟨hb, q⟩
theorem Inv.pinned {pins : List (Addr × Obj)} {σ : St} {H : Hp} {s : Shared} {fp : List Addr} (I : Inv X pins σ H s) (hf : ∀ b ∈ fp, FpOk X pins H b) (ho : ∀ b ∈ fp, ∃ o, s.heap.get? b = some o ∧ ∀ v, o.data ≠ .cell v) : Inv X (pins ++ zpv fp s.heap) σ H s :=
 I.pins_of fun p hp=>(List.mem_append.mp hp).elim (fun z=>I.pin p (List.mem_append_right _ z)) fun z=>by
  obtain ⟨hb, e⟩:=zwt z
  obtain ⟨f0, f1, f2, _⟩:=hf p.1 hb
  obtain ⟨o, e', d⟩:=ho p.1 hb
  rw [e] at e'; cases e'
  exact ⟨e, f0, f1, f2, d⟩
theorem Inv.unpinned {pins pl : List (Addr × Obj)} {σ : St} {H : Hp} {s : Shared} (I : Inv X (pins ++ pl) σ H s) : Inv X pins σ H s:=I.pins_of fun p hp=>I.pin p (List.mem_append_right _ (List.mem_append_left _ hp))
theorem zwu {iter : Expr} {body : List Stmt} {wi : TI} {g : TG} {tb : TS} {pos : Pos} (hp : PassesOwn (model X.prog X.w) X.A X.env X.xe) (hc : X.calm = true) (hi : PI X tg iter wi) (hg : PG X tg g) (hb : PSs X body tb)
  (hs : ∀ x, foldedSetIterable iter X.env x = pure x:=by intro _; rfl) : PS X (.For tg iter body [] pos) (tFor wi g tb):=by
 intro pins s σ H D I h
 refine wpAny_For (thn (hi pins s σ H _ I h) fun v s1 h1=>thn h1 fun itv s2 h2=>?_) hs
 obtain ⟨it, fp, tn, J, H2, e, I2, T, st2, f2, W, ⟨m0, w0⟩, turn⟩:=h2
 subst e
 have stat : ∀ {H' : Hp}, (∀ b ∈ fp, H' b = none) → ∀ b ∈ fp, FpOk X pins H' b:=fun hn b hb=>⟨hn b hb, (f2 b hb).2⟩
 refine codeAny_forLoop_any (fun n s'=>∃ i σ' H', Inv X pins σ' H' s' ∧ tn i s'.heap ∧ (∀ b ∈ fp, H' b = none) ∧ W i n σ' H') ?_ m0 ⟨0, σ, H2, I2, st2, fun b hb=>(f2 b hb).1, w0⟩
 rintro n s3 ⟨i, σ3, H3, I3, st3, fr3, w3⟩
 rcases turn i n σ3 H3 w3 with ⟨stop, qn⟩ | ⟨go, N, hN, step⟩
 ·refine wpAny_passesOwn hp (thn (T.done X rfl rfl rfl hc i pins s3 σ3 H3 X.xe I3 (stat fr3) st3 stop) fun r s4 ⟨hr, I4⟩=>?_)
  subst hr
  exact wpAny_execs_nil ⟨σ3, H3, I4, qn⟩
 ·refine wpAny_passesOwn hp (thn (T.item X rfl rfl rfl hc i pins s3 σ3 H3 X.xe I3 (stat fr3) st3 go) fun r s4 ⟨u, hr, h4⟩=>?_)
  subst hr
  refine wpAny_passesOwn hp (thn h4 fun _ s5 ⟨x, H5, I5, r5, y5, st5, fr5⟩=>?_)
  have I5':=I5.pinned (stat fr5) (T.obj _ _ st5)
  refine wpAny_passesOwn hp (thn (hg _ s5 σ3 H5 x u _ I5' r5 (step x H5 y5)) fun _ s6 ⟨σ6, H6, I6, q6⟩=>?_)
  refine wpAny_passesOwn hp (thn (hb _ s6 σ6 H6 _ I6 q6) fun f s7 q7=>?_)
  have again : ∀ {σ7 : St} {H7 : Hp}, Inv X (pins ++ zpv fp s5.heap) σ7 H7 s7 → N σ7 H7 → ∃ m, m < n ∧ ∃ i σ' H', Inv X pins σ' H' s7 ∧ tn i s7.heap ∧ (∀ b ∈ fp, H' b = none) ∧ W i m σ' H':=fun {σ7 H7} I7 n7=>by
   obtain ⟨m', hm, w7⟩:=hN σ7 H7 n7
   refine ⟨m', hm, i + 1, σ7, H7, I7.unpinned, T.keep _ _ _ st5 fun b hb o e=>(I7.pin (b, o) (List.mem_append_right _ (List.mem_append_right _ (zik hb e)))).1, fun b hb=>?_, w7⟩
   obtain ⟨o, e, d⟩:=T.obj _ _ st5 b hb
   exact (I7.pin (b, o) (List.mem_append_right _ (List.mem_append_right _ (zik hb e)))).2.1
  cases f with
  | next=>obtain ⟨σ7, H7, I7, n7⟩:=q7; exact again I7 n7
  | cont=>obtain ⟨σ7, H7, I7, n7⟩:=q7; exact again I7 n7
  | brk=>obtain ⟨σ7, H7, I7, q7⟩:=q7; exact ⟨σ7, H7, I7.unpinned, q7⟩
  | ret v=>obtain ⟨x7, σ7, H7, I7, r7, q7⟩:=q7; exact ⟨x7, σ7, H7, I7.unpinned, r7, q7⟩
end
theorem for_list {K : PySem.W.Frag} {a : Addr} {xs : List V} {g : TG} {tb : TS} {D : Ends} {σ : St} {H : Hp} (Pv : Nat → St → Hp → Prop) (h0 : Pv 0 σ H) (hl : ∀ i σ H, i ≤ xs.length → Pv i σ H → SqL K H a xs)
  (hs : ∀ i x σ H, xs[i]? = some x → Pv i σ H → g x σ H fun σ2 H2=>tb { D with nx:=Pv (i + 1), ct:=Pv (i + 1), bk:=D.nx } σ2 H2) (hd : ∀ σ H, Pv xs.length σ H → D.nx σ H) :
  ∃ W : Nat → Nat → St → Hp → Prop, (∃ m, W 0 m σ H) ∧ ∀ i m σ H, W i m σ H →
   ((Itl K a).stop i H ∧ D.nx σ H) ∨ ((Itl K a).go i H ∧ ∃ N : St → Hp → Prop, (∀ σ' H', N σ' H' → ∃ m', m' < m ∧ W (i + 1) m' σ' H') ∧ ∀ x H', (Itl K a).yld i H x H' → g x σ H' fun σ2 H2=>tb { D with nx:=N, ct:=N, bk:=D.nx } σ2 H2):=by
 refine ⟨fun i m σ H=>m = xs.length - i ∧ i ≤ xs.length ∧ Pv i σ H, ⟨xs.length, by simp, Nat.zero_le _, h0⟩, ?_⟩
 rintro i m σ H ⟨rfl, hi, p⟩
 have q:=hl i σ H hi p
 by_cases hlt : i < xs.length
 ·refine .inr ⟨⟨xs, xs[i], q, by simp [hlt]⟩, Pv (i + 1), fun σ' H' p'=>⟨xs.length - (i + 1), by omega, rfl, hlt, p'⟩, fun x H' y=>?_⟩
  obtain ⟨e, y⟩:=y
  subst e
  exact hs i x σ _ (y xs q) p
 ·have e : i = xs.length:=by omega
  subst e
  exact .inl ⟨⟨xs, q, Nat.le_refl _⟩, hd σ H p⟩
theorem for_range {lo : Int} {n : Nat} {g : TG} {tb : TS} {D : Ends} {σ : St} {H : Hp} (Pv : Nat → St → Hp → Prop) (h0 : Pv 0 σ H)
  (hs : ∀ i σ H, i < n → Pv i σ H → g (.int (lo + i)) σ H fun σ2 H2=>tb { D with nx:=Pv (i + 1), ct:=Pv (i + 1), bk:=D.nx } σ2 H2) (hd : ∀ σ H, Pv n σ H → D.nx σ H) :
  ∃ W : Nat → Nat → St → Hp → Prop, (∃ m, W 0 m σ H) ∧ ∀ i m σ H, W i m σ H →
   ((Itr lo n).stop i H ∧ D.nx σ H) ∨ ((Itr lo n).go i H ∧ ∃ N : St → Hp → Prop, (∀ σ' H', N σ' H' → ∃ m', m' < m ∧ W (i + 1) m' σ' H') ∧ ∀ x H', (Itr lo n).yld i H x H' → g x σ H' fun σ2 H2=>tb { D with nx:=N, ct:=N, bk:=D.nx } σ2 H2):=by
 refine ⟨fun i m σ H=>m = n - i ∧ i ≤ n ∧ Pv i σ H, ⟨n, by simp, Nat.zero_le _, h0⟩, ?_⟩
 rintro i m σ H ⟨rfl, hi, p⟩
 by_cases hlt : i < n
 ·refine .inr ⟨hlt, Pv (i + 1), fun σ' H' p'=>⟨n - (i + 1), by omega, rfl, hlt, p'⟩, fun x H' y=>?_⟩
  obtain ⟨e, y⟩:=y
  subst e y
  exact hs i σ _ hlt p
 ·have e : i = n:=by omega
  subst e
  exact .inl ⟨Nat.le_refl _, hd σ H p⟩
end L2
namespace L2
open PySem PySem.Spec PyProof.Rows
noncomputable abbrev R2:=V → V → Hp → VK → Prop
noncomputable def OpR (X : Cx) (f : Value → Value → Sem Value) (r : R2) : Prop :=
 ∀ (pins : List (Addr × Obj)) (s : Shared) (σ : St) (H : Hp) (x y : V) (v u : Value) (Q : VK), Inv X pins σ H s → RelV x v → RelV y u → r x y H Q →
  wpAny (model X.prog X.w) X.A (f v u) (EP X pins σ Q) X.xe s
noncomputable def UnR (X : Cx) (f : Value → Sem Value) (r : V → Hp → VK → Prop) : Prop :=
 ∀ (pins : List (Addr × Obj)) (s : Shared) (σ : St) (H : Hp) (x : V) (v : Value) (Q : VK), Inv X pins σ H s → RelV x v → r x H Q →
  wpAny (model X.prog X.w) X.A (f v) (EP X pins σ Q) X.xe s
noncomputable def CallR (X : Cx) (f : Value) (r : List V → Hp → VK → Prop) : Prop :=
 ∀ (pins : List (Addr × Obj)) (s : Shared) (σ : St) (H : Hp) (xs : List V) (us : List Value) (Q : VK), Inv X pins σ H s → Vals xs us → r xs H Q →
  wpAny (model X.prog X.w) X.A (call f us) (EP X pins σ Q) X.xe s
noncomputable def TruR (X : Cx) (r : V → Hp → (Bool → Hp → Prop) → Prop) : Prop :=
 ∀ (pins : List (Addr × Obj)) (s : Shared) (σ : St) (H : Hp) (x : V) (v : Value) (Q : Bool → Hp → Prop), Inv X pins σ H s → RelV x v → r x H Q →
  wpAny (model X.prog X.w) X.A (truthy v) (TP X pins σ Q) X.xe s
noncomputable def tOp (r : R2) (ta tb : TE) : TE:=fun σ H Q=>ta σ H fun x H1=>tb σ H1 fun y H2=>r x y H2 Q
noncomputable def tUn (r : V → Hp → VK → Prop) (ta : TE) : TE:=fun σ H Q=>ta σ H fun x H1=>r x H1 Q
noncomputable def rI (C : Int → Int → Prop) (g : Int → Int → V) : R2:=fun x y H Q=>∃ i j, x = .int i ∧ y = .int j ∧ C i j ∧ Q (g i j) H
noncomputable def rI0 (g : Int → Int → V) : R2:=fun x y H Q=>∃ i j, x = .int i ∧ y = .int j ∧ Q (g i j) H
noncomputable def rU (g : Int → V) : V → Hp → VK → Prop:=fun x H Q=>∃ i, x = .int i ∧ Q (g i) H
section
variable {X : Cx} {a b c : Expr} {ta tb tc : TE} {pos : Pos}
theorem binT (ha : PE X a ta) (hb : PE X b tb) {pins : List (Addr × Obj)} {s : Shared} {σ : St} {H : Hp} {R : V → V → Hp → Prop} (I : Inv X pins σ H s)
  (h : ta σ H fun x H1=>tb σ H1 fun y H2=>R x y H2) {Q : Value → Shared → Prop} {f : Value → Value → Sem Value}
  (hf : ∀ v u s2 x y H2, Inv X pins σ H2 s2 → RelV x v → RelV y u → R x y H2 → wpAny (model X.prog X.w) X.A (f v u) Q X.xe s2) :
  wpAny (model X.prog X.w) X.A (eval a X.env) (fun v s₁=>wpAny (model X.prog X.w) X.A (eval b X.env) (fun u s₂=>wpAny (model X.prog X.w) X.A (f v u) Q X.xe s₂) X.xe s₁) X.xe s:=by
 refine thn (ha pins s σ H _ I h) fun v s1 ⟨x, H1, I1, r1, q1⟩=>?_
 refine thn (hb pins s1 σ H1 _ I1 q1) fun u s2 ⟨y, H2, I2, r2, q2⟩=>?_
 exact hf v u s2 x y H2 I2 r1 r2 q2
theorem ziu {op : Operator} {r : R2} (ho : OpR X (binaryOp op) r) (ha : PE X a ta) (hb : PE X b tb) : PE X (.BinOp a op b pos) (tOp r ta tb):=by
 intro pins s σ H Q I h
 exact wpAny_BinOp (binT ha hb I h fun v u s2 x y H2 I2 rx ry q=>ho pins s2 σ H2 x y v u Q I2 rx ry q)
theorem zair {op : UnaryOp} {r : V → Hp → VK → Prop} (ho : UnR X (unaryOp op) r) (ha : PE X a ta) : PE X (.UnaryOp op a pos) (tUn r ta):=by
 intro pins s σ H Q I h
 exact UnaryOp_ (thn (ha pins s σ H _ I h) fun v s1 ⟨x, H1, I1, r1, q1⟩=>ho pins s1 σ H1 x v Q I1 r1 q1)
theorem opI {f : Value → Value → Sem Value} {C : Int → Int → Prop} {g : Int → Int → Int}
  (rule : ∀ (i j : Int) (t u : Tok) (s : Shared) (Q : Value → Shared → Prop) (E : Value → Shared → Prop), C i j → Q (.int (g i j) s.toks) { s with toks:=s.toks + 1 } → wpAny (model X.prog X.w) X.A (f (.int i t) (.int j u)) Q E s) :
  OpR X f (rI C fun i j=>.int (g i j)):=by
 intro pins s σ H x y v u Q I rx ry h
 obtain ⟨i, j, rfl, rfl, hc, q⟩:=h
 obtain ⟨t, rfl⟩:=rx
 obtain ⟨t', rfl⟩:=ry
 exact rule i j t t' s _ _ hc ⟨.int (g i j), H, I.tok _, ⟨_, rfl⟩, q⟩
theorem opI0 {f : Value → Value → Sem Value} {g : Int → Int → Int}
  (rule : ∀ (i j : Int) (t u : Tok) (s : Shared) (Q : Value → Shared → Prop) (E : Value → Shared → Prop), Q (.int (g i j) s.toks) { s with toks:=s.toks + 1 } → wpAny (model X.prog X.w) X.A (f (.int i t) (.int j u)) Q E s) :
  OpR X f (rI0 fun i j=>.int (g i j)):=by
 intro pins s σ H x y v u Q I rx ry h
 obtain ⟨i, j, rfl, rfl, q⟩:=h
 obtain ⟨t, rfl⟩:=rx
 obtain ⟨t', rfl⟩:=ry
 exact rule i j t t' s _ _ ⟨.int (g i j), H, I.tok _, ⟨_, rfl⟩, q⟩
theorem opB0 {f : Value → Value → Sem Value} {g : Int → Int → Bool}
  (rule : ∀ (i j : Int) (t u : Tok) (s : Shared) (Q : Value → Shared → Prop) (E : Value → Shared → Prop), Q (.bool (g i j)) s → wpAny (model X.prog X.w) X.A (f (.int i t) (.int j u)) Q E s) :
  OpR X f (rI0 fun i j=>.bl (g i j)):=by
 intro pins s σ H x y v u Q I rx ry h
 obtain ⟨i, j, rfl, rfl, q⟩:=h
 obtain ⟨t, rfl⟩:=rx
 obtain ⟨t', rfl⟩:=ry
 exact rule i j t t' s _ _ ⟨.bl (g i j), H, I, rfl, q⟩
noncomputable def CDiv (i j : Int) : Prop:=0 < j ∧ j < 1073741824
noncomputable def CPow (i j : Int) : Prop:=0 ≤ j ∧ j ≤ 1000000 ∧ i.natAbs < 2 ^ 64
noncomputable def CMul (i j : Int) : Prop:=(-(2 ^ 64) < i ∧ i < 2 ^ 64) ∨ (-(2 ^ 64) < j ∧ j < 2 ^ 64)
theorem CMul.ok {i j : Int} (h : CMul i j) : IntMulOk i j:=by
 rcases h with ⟨h1, h2⟩ | ⟨h1, h2⟩
 ·exact .of_left (intBits_le_64 h1 h2)
 ·exact .of_right (intBits_le_64 h1 h2)
theorem zahc : OpR X (binaryOp .Add) (rI0 fun i j=>.int (i + j)):=opI0 fun _ _ _ _ _ _ _ q=>add_int q
theorem zahd : OpR X (binaryOp .Mult) (rI CMul fun i j=>.int (i * j)):=opI fun _ _ _ _ _ _ _ hc q=>mul_int q hc.ok
theorem zfm : OpR X (binaryOp .FloorDiv) (rI CDiv fun i j=>.int (i / j)):=opI fun i j _ _ _ _ _ hc q=>by
 have h1 : (0 : Int) < j:=hc.1
 have h2 : j < 1073741824:=hc.2
 exact floordiv_int (by omega) (by rw [Int.fdiv_eq_ediv_of_nonneg i (by omega)]; exact q) (.inl (PyProof.noPylong_small (by omega)))
theorem zdi : OpR X (binaryOp .Mod) (rI (fun _ j=>0 < j) fun i j=>.int (i % j)):=opI fun i j _ _ _ _ _ hc q=>by
 have h1 : (0 : Int) < j:=hc
 exact mod_int' (by omega) (by rw [Int.fmod_eq_emod_of_nonneg i (by omega)]; exact q)
theorem zadb : OpR X (binaryOp .Pow) (rI CPow fun i j=>.int (i ^ j.toNat)):=opI fun _ _ _ _ _ _ _ hc q=>pow_int_small hc.1 hc.2.1 hc.2.2 q
theorem unI {f : Value → Sem Value} {g : Int → Int}
  (rule : ∀ (i : Int) (t : Tok) (s : Shared) (Q : Value → Shared → Prop) (E : Value → Shared → Prop), Q (.int (g i) s.toks) { s with toks:=s.toks + 1 } → wpAny (model X.prog X.w) X.A (f (.int i t)) Q E s) :
  UnR X f (rU fun i=>.int (g i)):=by
 intro pins s σ H x v Q I rx h
 obtain ⟨i, rfl, q⟩:=h
 obtain ⟨t, rfl⟩:=rx
 exact rule i t s _ _ ⟨.int (g i), H, I.tok _, ⟨_, rfl⟩, q⟩
theorem znq : UnR X (unaryOp .USub) (rU fun i=>.int (-i)):=unI fun _ _ _ _ _ q=>neg_int q
end
noncomputable def scal : V → V → Bool
 | .non, .non=>true | .non, .int _=>true | .int _, .non=>true | .non, .bl _=>true | .bl _, .non=>true | .non, .str _=>true | .str _, .non=>true
 | .int _, .int _=>true | .bl _, .bl _=>true | .str _, .str _=>true | .byt _, .byt _=>true
 | .int _, .str _=>true | .str _, .int _=>true | .bl _, .str _=>true | .str _, .bl _=>true
 | _, _=>false
noncomputable def rEq : R2:=fun x y H Q=>scal x y = true ∧ Q (.bl (decide (x = y))) H
noncomputable def rNe : R2:=fun x y H Q=>scal x y = true ∧ Q (.bl (!decide (x = y))) H
theorem zss {i j : Int} : decide (V.int i = V.int j) = (i == j):=by
 rw [Bool.eq_iff_iff]
 simp
theorem zwv {i j : Bool} : decide (V.bl i = V.bl j) = (i == j):=by
 rw [Bool.eq_iff_iff]
 simp
theorem zst {i j : Str} : decide (V.str i = V.str j) = (i == j):=by
 rw [Bool.eq_iff_iff]
 simp
theorem zww {i j : Array UInt8} : decide (V.byt i = V.byt j) = (i.toList == j.toList):=by
 rw [Bool.eq_iff_iff]
 cases i
 cases j
 simp
section
variable {X : Cx} {a b c : Expr} {ta tb tc : TE} {pos : Pos}
theorem zbu {pins : List (Addr × Obj)} {σ : St} {H : Hp} {s : Shared} {Q : VK} {k k' : Bool} (I : Inv X pins σ H s) (q : Q (.bl k) H) (e : k = k') : EP X pins σ Q (.bool k') s:=by
 subst e
 exact ⟨.bl k, H, I, rfl, q⟩
theorem zais : OpR X (compareOp .Eq) rEq:=by
 intro pins s σ H x y v u Q I rx ry h
 obtain ⟨hs, q⟩:=h
 cases x with
 | non =>
  cases rx
  cases y with
  | non=>cases ry; exact PySem.EqNone.eq_none_none (zbu I q (by simp))
  | bl j=>cases ry; exact PySem.EqNone.eq_none_bool (zbu I q (by simp))
  | int j=>obtain ⟨t', rfl⟩:=ry; exact PySem.EqNone.eq_none_int (zbu I q (by simp))
  | str j=>obtain ⟨t', rfl⟩:=ry; exact PySem.EqNone.eq_none_str (zbu I q (by simp))
  | _=>exact absurd (show false = true from hs) Bool.false_ne_true
 | bl i =>
  cases rx
  cases y with
  | non=>cases ry; exact PySem.EqNone.eq_bool_none (zbu I q (by simp))
  | bl j=>cases ry; exact eq_bool (zbu I q zwv)
  | str j=>obtain ⟨t', rfl⟩:=ry; exact PySem.EqMixed.eq_bool_str (zbu I q (by simp))
  | _=>exact absurd (show false = true from hs) Bool.false_ne_true
 | int i =>
  obtain ⟨t, rfl⟩:=rx
  cases y with
  | non=>cases ry; exact PySem.EqNone.eq_int_none (zbu I q (by simp))
  | int j=>obtain ⟨t', rfl⟩:=ry; exact eq_int (zbu I q zss)
  | str j=>obtain ⟨t', rfl⟩:=ry; exact PySem.EqMixed.eq_int_str (zbu I q (by simp))
  | _=>exact absurd (show false = true from hs) Bool.false_ne_true
 | str i =>
  obtain ⟨t, rfl⟩:=rx
  cases y with
  | non=>cases ry; exact PySem.EqNone.eq_str_none (zbu I q (by simp))
  | bl j=>cases ry; exact PySem.EqMixed.eq_str_bool (zbu I q (by simp))
  | int j=>obtain ⟨t', rfl⟩:=ry; exact PySem.EqMixed.eq_str_int (zbu I q (by simp))
  | str j=>obtain ⟨t', rfl⟩:=ry; exact eq_str (zbu I q zst)
  | _=>exact absurd (show false = true from hs) Bool.false_ne_true
 | byt i =>
  obtain ⟨t, rfl⟩:=rx
  cases y with
  | byt j=>obtain ⟨t', rfl⟩:=ry; exact PySem.W.eq_bytes (zbu I q zww)
  | _=>exact absurd (show false = true from hs) Bool.false_ne_true
 | _=>cases y <;> exact absurd (show false = true from hs) Bool.false_ne_true
theorem zait : OpR X (compareOp .NotEq) rNe:=by
 intro pins s σ H x y v u Q I rx ry h
 obtain ⟨hs, q⟩:=h
 cases x with
 | non =>
  cases rx
  cases y with
  | non=>cases ry; exact PySem.EqNone.ne_none_none (zbu I q (by simp))
  | bl j=>cases ry; exact PySem.EqNone.ne_none_bool (zbu I q (by simp))
  | int j=>obtain ⟨t', rfl⟩:=ry; exact PySem.EqNone.ne_none_int (zbu I q (by simp))
  | str j=>obtain ⟨t', rfl⟩:=ry; exact PySem.EqNone.ne_none_str (zbu I q (by simp))
  | _=>exact absurd (show false = true from hs) Bool.false_ne_true
 | bl i =>
  cases rx
  cases y with
  | non=>cases ry; exact PySem.EqNone.ne_bool_none (zbu I q (by simp))
  | bl j=>cases ry; exact ne_bool (zbu I q (congrArg not zwv))
  | str j=>obtain ⟨t', rfl⟩:=ry; exact PySem.EqMixed.ne_bool_str (zbu I q (by simp))
  | _=>exact absurd (show false = true from hs) Bool.false_ne_true
 | int i =>
  obtain ⟨t, rfl⟩:=rx
  cases y with
  | non=>cases ry; exact PySem.EqNone.ne_int_none (zbu I q (by simp))
  | int j=>obtain ⟨t', rfl⟩:=ry; exact ne_int (zbu I q (congrArg not zss))
  | str j=>obtain ⟨t', rfl⟩:=ry; exact PySem.EqMixed.ne_int_str (zbu I q (by simp))
  | _=>exact absurd (show false = true from hs) Bool.false_ne_true
 | str i =>
  obtain ⟨t, rfl⟩:=rx
  cases y with
  | non=>cases ry; exact PySem.EqNone.ne_str_none (zbu I q (by simp))
  | bl j=>cases ry; exact PySem.EqMixed.ne_str_bool (zbu I q (by simp))
  | int j=>obtain ⟨t', rfl⟩:=ry; exact PySem.EqMixed.ne_str_int (zbu I q (by simp))
  | str j=>obtain ⟨t', rfl⟩:=ry; exact ne_str (zbu I q (congrArg not zst))
  | _=>exact absurd (show false = true from hs) Bool.false_ne_true
 | byt i =>
  obtain ⟨t, rfl⟩:=rx
  cases y with
  | byt j=>obtain ⟨t', rfl⟩:=ry; exact PySem.W.ne_bytes (zbu I q (congrArg not zww))
  | _=>exact absurd (show false = true from hs) Bool.false_ne_true
 | _=>cases y <;> exact absurd (show false = true from hs) Bool.false_ne_true
theorem zaiu : OpR X (compareOp .Lt) (rI0 fun i j=>.bl (decide (i < j))):=opB0 fun _ _ _ _ _ _ _ q=>lt_int q
theorem OpR.or {f : Value → Value → Sem Value} {r r' : R2} (h : OpR X f r) (h' : OpR X f r') : OpR X f (fun x y H Q=>r x y H Q ∨ r' x y H Q):=by
 intro pins s σ H x y v u Q I rx ry q
 rcases q with q | q
 ·exact h pins s σ H x y v u Q I rx ry q
 ·exact h' pins s σ H x y v u Q I rx ry q
theorem zeo (b : Expr) {op : CmpOp} (h : op ≠ .In:=by decide) (h2 : op ≠ .NotIn:=by decide) : behindInMarks op b = false:=by
 have e1 : (op == CmpOp.In) = false:=by cases op <;> first | rfl | exact absurd rfl h
 have e2 : (op == CmpOp.NotIn) = false:=by cases op <;> first | rfl | exact absurd rfl h2
 cases b <;> simp [behindInMarks, e1, e2]
theorem zaef {op : CmpOp} {r : R2} (ho : OpR X (compareOp op) r) (ha : PE X a ta) (hb : PE X b tb) (hm : behindInMarks op b = false) : PE X (.Compare a [op] [b] pos) (tOp r ta tb):=by
 intro pins s σ H Q I h
 exact wpAny_Compare1 (binT ha hb I h fun v u s2 x y H2 I2 rx ry q=>ho pins s2 σ H2 x y v u Q I2 rx ry q) hm
noncomputable def tTest (t : TE) : TT:=fun σ H Q=>t σ H fun x H'=>∃ k, x = .bl k ∧ Q k H'
theorem zwx {op : CmpOp} {r : R2} (ho : OpR X (compareOp op) r) (ha : PE X a ta) (hb : PE X b tb) (hm : behindInMarks op b = false) : PT X (.Compare a [op] [b] pos) (tTest (tOp r ta tb)):=by
 intro pins s σ H Q I h
 refine wpAny_isTrue_Compare1 (thn (ha pins s σ H _ I h) fun v s1 ⟨x, H1, I1, r1, q1⟩=>thn (hb pins s1 σ H1 _ I1 q1) fun u s2 ⟨y, H2, I2, r2, q2⟩ =>
  thn (ho pins s2 σ H2 x y v u _ I2 r1 r2 q2) fun c s3 ⟨z, H3, I3, r3, k, e, q3⟩=>?_) hm
 subst e
 cases r3
 exact wpAny_truthy_bool ⟨H3, I3, q3⟩
noncomputable def TruV (K : PySem.W.Frag) (x : V) (H : Hp) (k : Bool) : Prop :=
 match x with
 | .non=>k = false
 | .bl b=>k = b
 | .int i=>k = (i != 0)
 | .str y=>y.length ≤ sizeLine ∧ k = ((y.length : Int) != 0)
 | .byt y=>y.size ≤ sizeLine ∧ k = ((y.size : Int) != 0)
 | .ref p=>(∃ xs, SqL K H p xs ∧ k = !xs.isEmpty) ∨ (∃ xs, SqT K H p xs ∧ k = !xs.isEmpty) ∨ ∃ kvs, H p = some (.dK kvs) ∧ k = !kvs.isEmpty
 | _=>False
theorem zvw {κ : Type} {kvs : List (κ × V)} {vs : List (κ × Value)} (r : KV kvs vs) : (!vs.isEmpty) = !kvs.isEmpty:=by
 cases r <;> rfl
theorem znr {xs : List V} {its : List Value} (r : Vals xs its) : (!its.toArray.isEmpty) = !xs.isEmpty:=by
 cases r <;> simp
theorem zpw : (sizeLine : Nat) < 2 ^ 63:=by rw [sizeLine_eq]; decide
theorem zahe : TruR X (fun x H Q=>∃ k, TruV X.K x H k ∧ Q k H):=by
 intro pins s σ H x v Q I rx h
 obtain ⟨k, e, q⟩:=h
 have hl:=zpw
 have hs : sizeLine = 16777216:=sizeLine_eq
 cases x with
 | non =>
  cases rx
  have e' : k = false:=e
  subst e'
  exact truthy_none ⟨H, I, q⟩
 | bl b =>
  cases rx
  have e' : k = b:=e
  subst e'
  exact wpAny_truthy_bool ⟨H, I, q⟩
 | int i =>
  obtain ⟨t, rfl⟩:=rx
  have e' : k = (i != 0):=e
  subst e'
  exact PySem.P.truthy_int ⟨H, I, q⟩
 | str y =>
  obtain ⟨t, rfl⟩:=rx
  obtain ⟨hy, e'⟩ : y.length ≤ sizeLine ∧ k = ((y.length : Int) != 0):=e
  subst e'
  exact PySem.P.truthy_str (by omega) ⟨H, I.tok _, q⟩
 | byt y =>
  obtain ⟨t, rfl⟩:=rx
  obtain ⟨hy, e'⟩ : y.size ≤ sizeLine ∧ k = ((y.size : Int) != 0):=e
  subst e'
  exact PySem.W.truthy_bytes (by omega) ⟨H, I.tok _, q⟩
 | ref p =>
  cases rx
  have e' : (∃ xs, SqL X.K H p xs ∧ k = !xs.isEmpty) ∨ (∃ xs, SqT X.K H p xs ∧ k = !xs.isEmpty) ∨ ∃ kvs, H p = some (.dK kvs) ∧ k = !kvs.isEmpty:=e
  rcases e' with ⟨xs, hx, e'⟩ | ⟨xs, hx, e'⟩ | ⟨kvs, hx, e'⟩
  ·subst e'
   obtain ⟨its, r, pl, hz⟩:=I.list hx
   have hlen:=r.length
   exact wpAny_truthy_list pl.isList (by simp only [List.size_toArray]; omega) ⟨H, I.tok _, by rw [znr r]; exact q⟩
  ·subst e'
   obtain ⟨its, r, pl, hz⟩:=I.tuple hx
   have hlen:=r.length
   exact truthy_tuple pl (by simp only [List.size_toArray]; omega) ⟨H, I.tok _, by rw [znr r]; exact q⟩
  ·subst e'
   obtain ⟨hz, hS, vs, r, m⟩ : kvs.length ≤ sizeLine ∧ (p == sysModules) = false ∧ ∃ vs, KV kvs vs ∧ s.heap.DictOf (zbr X.prog X.w) p vs:=I.hok p _ hx
   have hlen : kvs.length = vs.length:=Paired.length r
   exact wpAny_truthy_dict hS m (by omega) ⟨H, I.tok _, by rw [zvw r]; exact q⟩
 | _=>exact (show False from e).elim
theorem zaav (ha : PE X a ta) (he : ∀ whole, isTrue a X.env whole = (do let v ← whole; standAt a.pos; holding [v] (truthy v))) :
  PT X a (fun σ H Q=>ta σ H fun x H'=>∃ k, TruV X.K x H' k ∧ Q k H'):=by
 intro pins s σ H Q I h
 exact isTrue_plain (thn (ha pins s σ H _ I h) fun v s1 ⟨x, H1, I1, r1, q1⟩=>zahe pins s1 σ H1 x v Q I1 r1 q1) (he _)
theorem zvx : OpR X (binaryOp .Add) (fun x y H Q=>∃ i j, x = .str i ∧ y = .str j ∧ i.length + j.length ≤ sizeLine ∧ Q (.str (i ++ j)) H):=by
 intro pins s σ H x y v u Q I rx ry h
 obtain ⟨i, j, rfl, rfl, hz, q⟩:=h
 obtain ⟨t, rfl⟩:=rx
 obtain ⟨t', rfl⟩:=ry
 exact add_str (fun t' tk=>⟨.str (i ++ j), H, I.tok _, ⟨_, rfl⟩, q⟩) hz
theorem zsu {x : V} {us : List Value} (r : Vals [x] us) : ∃ u, us = [u] ∧ RelV x u:=by
 cases r with
 | cons r1 r2=>cases r2; exact ⟨_, rfl, r1⟩
theorem zaeg {x y : V} {us : List Value} (r : Vals [x, y] us) : ∃ u w', us = [u, w'] ∧ RelV x u ∧ RelV y w':=by
 cases r with
 | cons r1 r2 =>
  cases r2 with
  | cons r3 r4=>cases r4; exact ⟨_, _, rfl, r1, r3⟩
theorem zpx (hc : X.calm = true) : CallR X (.builtin "min") (fun xs H Q=>∃ i j, xs = [.int i, .int j] ∧ Q (.int (if j < i then j else i)) H):=by
 intro pins s σ H xs us Q I r h
 obtain ⟨i, j, rfl, q⟩:=h
 obtain ⟨u, w', rfl, ⟨t, rfl⟩, ⟨t', rfl⟩⟩:=zaeg r
 refine min_two_ints (I.ok.hd hc) fun h' tk k=>⟨_, H, I.kept k, ?_, q⟩
 by_cases hj : j < i
 ·rw [if_pos hj, if_pos hj]; exact ⟨_, rfl⟩
 ·rw [if_neg hj, if_neg hj]; exact ⟨_, rfl⟩
noncomputable def LenV (K : PySem.W.Frag) (x : V) (H : Hp) (n : Nat) : Prop :=
 match x with
 | .str y=>y.length ≤ sizeLine ∧ n = y.length
 | .byt y=>y.size ≤ sizeLine ∧ n = y.size
 | .ref p=>(∃ xs, SqL K H p xs ∧ n = xs.length) ∨ ∃ xs, SqT K H p xs ∧ n = xs.length
 | _=>False
theorem zaaw : CallR X (.builtin "len") (fun xs H Q=>∃ x n, xs = [x] ∧ LenV X.K x H n ∧ Q (.int n) H):=by
 intro pins s σ H xs us Q I r h
 obtain ⟨x, n, rfl, e, q⟩:=h
 obtain ⟨u, rfl, rx⟩:=zsu r
 have hl:=zpw
 have hs : sizeLine = 16777216:=sizeLine_eq
 cases x with
 | str y =>
  obtain ⟨t, rfl⟩:=rx
  obtain ⟨hy, e'⟩ : y.length ≤ sizeLine ∧ n = y.length:=e
  subst e'
  exact len_str (by omega) ⟨.int _, H, I.tok _, ⟨_, rfl⟩, q⟩
 | byt y =>
  obtain ⟨t, rfl⟩:=rx
  obtain ⟨hy, e'⟩ : y.size ≤ sizeLine ∧ n = y.size:=e
  subst e'
  exact PySem.W.len_bytes (by omega) ⟨.int _, H, I.tok _, ⟨_, rfl⟩, q⟩
 | ref p =>
  cases rx
  have e' : (∃ xs, SqL X.K H p xs ∧ n = xs.length) ∨ ∃ xs, SqT X.K H p xs ∧ n = xs.length:=e
  rcases e' with ⟨xs, hx, e'⟩ | ⟨xs, hx, e'⟩
  ·subst e'
   obtain ⟨its, r', pl, hz⟩:=I.list hx
   have hlen:=r'.length
   exact Calls.call_len_list pl.isList (by simp only [List.size_toArray]; omega) ⟨.int xs.length, H, I.tok _, ⟨_, by simp only [List.size_toArray]; rw [hlen]⟩, q⟩
  ·subst e'
   obtain ⟨its, r', pl, hz⟩:=I.tuple hx
   have hlen:=r'.length
   exact len_tuple pl (by simp only [List.size_toArray]; omega) ⟨.int xs.length, H, I.tok _, ⟨_, by simp only [List.size_toArray]; rw [hlen]⟩, q⟩
 | _=>exact (show False from e).elim
end
end L2
namespace L2
open PySem PySem.Spec PyProof.Rows
set_option genInjectivity false in
structure ObjM (h : Heap) (x dx C : Addr) (mA : Str → Option Value) : Prop where
 obj : h.get? x = some (PySem.W.instObj C dx)
 ns : h.Ns1 dx mA
 ne : dx ≠ x
theorem zwy {h : Heap} {dx : Addr} {mA : Str → Option Value} (n : h.Ns1 dx mA) : ∃ od, h.get? dx = some od ∧ ∀ name, PySem.W.lookIn name od = some (mA name):=by
 obtain ⟨o, es, ep, ho, hd, hk, _, hm⟩:=n
 refine ⟨o, ho, fun name=>?_⟩
 have e:=hm name
 unfold nsFind findBy at e
 rw [← Array.find?_toList] at e
 unfold PySem.W.lookIn
 rw [hd]
 dsimp only
 split
 ·rename_i y q
  rw [q] at e
  exact congrArg some e
 ·rename_i q
  rw [q] at e
  have a : es.toList.any (·.refKey) = false:=by
   rw [List.any_eq_false]
   intro y hy
   obtain ⟨z, t, hkey⟩:=hk y (Array.mem_toList_iff.mp hy)
   simp [DictEntry.refKey, hkey]
  have a' : ¬ es.toList.any (·.refKey) = true:=by rw [a]; exact Bool.false_ne_true
  rw [if_neg a']
  exact congrArg some e
theorem ObjM.look {h : Heap} {x dx C : Addr} {mA : Str → Option Value} (I : ObjM h x dx C mA) : ∃ od, PySem.W.InstAt h x (PySem.W.instObj C dx) C (some od) ∧ ∀ name, PySem.W.lookIn name od = some (mA name) :=
 let ⟨od, ho, hl⟩:=zwy I.ns
 ⟨od, ⟨I.obj, rfl, rfl, ho⟩, hl⟩
section
variable {prog : Program} {w : World} {A : Around} {E : Value → Shared → Prop} {s : Shared} {K : PySem.W.Frag} {x dx C f : Addr} {mA : Str → Option Value} {name : Str} {v : Value}
end
theorem RelO.some_of {v : V} {o : Option Value} (r : RelO (some v) o) : ∃ u, o = some u ∧ RelV v u:=by
 cases o with
 | none=>exact (show False from r).elim
 | some u=>exact ⟨u, rfl, r⟩
section
variable {P : Program} {w : World} {H H' : Hp} {h h' : Heap} {a C dx : Addr} {fs fs' : List (Str × V)}
theorem zaeh (hok : HOk P w H h) (e : H a = some (.ins C dx fs)) : ∃ mA, ObjM h a dx C mA ∧ (∀ f, RelO (fs.lookup f) (mA f)) ∧ PySem.Within mA (fs.map (·.1)) ∧ fs.length ≤ 1000 ∧ H dx = some (.own a):=by
 obtain ⟨d, z, ne, ob, mA, n, r, q⟩:=(show zdn P w H h a (.ins C dx fs) from hok a _ e)
 exact ⟨mA, ⟨ob, n, ne⟩, r, q, z, d⟩
end
set_option genInjectivity false in
structure Cls (K : PySem.W.Frag) (C : Addr) : Prop where
 pg : PySem.W.plainGet K C Str.empty = true
 hd : PySem.W.hasDictIn K C = true
 po : PySem.W.plainOver K C = true
 sa : PySem.W.findIn K (.ref C) "__setattr__" = some (some (.builtin "object.__setattr__"))
theorem Cls.get {K : PySem.W.Frag} {C : Addr} (c : Cls K C) (f : Str) : PySem.W.plainGet K C f = true:=c.pg
set_option genInjectivity false in
set_option genInjectivity false in
section
variable {X : Cx} {pins : List (Addr × Obj)} {σ : St} {H : Hp} {s : Shared} {a C dx : Addr} {fs : List (Str × V)} {f : Str} {v : V} {A : Around} {E : Value → Shared → Prop}
end
section
variable {X : Cx} {o e value : Expr} {f : Str} {pos pos' tpos : Pos} {ta tv : TE}
end
section
variable {X : Cx} {pins : List (Addr × Obj)} {σ : St} {H : Hp} {s : Shared} {A : Around} {E : Value → Shared → Prop} {Q : Value → Shared → Prop} {c : Value} {b : Bool}
inductive TyOf (K : PySem.W.Frag) (H : Hp) : V → Value → Prop where
 | non : TyOf K H .non (.type "NoneType")
 | bl (x : Bool) : TyOf K H (.bl x) (.type "bool")
 | int (i : Int) : TyOf K H (.int i) (.type "int")
 | str (x : Str) : TyOf K H (.str x) (.type "str")
 | flt (x : UInt64) : TyOf K H (.flt x) (.type "float")
 | lst {a : Addr} {xs : List V} (e : H a = some (.lst xs)) : TyOf K H (.ref a) (.type "list")
 | frz {a : Addr} {o : Obj} {xs : List V} (e : H a = some (.frz o (.lst xs))) : TyOf K H (.ref a) (.type "list")
 | tup {a : Addr} {xs : List V} (e : H a = some (.tup xs)) : TyOf K H (.ref a) (.type "tuple")
 | dK {a : Addr} {kvs : List (Key × V)} (e : H a = some (.dK kvs)) : TyOf K H (.ref a) (.type "dict")
 | dT {a : Addr} {kvs : List (List Key × V)} (e : H a = some (.dT kvs)) : TyOf K H (.ref a) (.type "dict")
 | ins {a C dx : Addr} {fs : List (Str × V)} (e : H a = some (.ins C dx fs)) (cl : Cls K C) (ha : PySem.W.findIn K (.ref C) "__class__" = some (some (.builtin "object.__class__")))
   (hn : PySem.W.specialIn K (.builtin "object.__class__") "__get__" = some (some (.builtin "getset_descriptor.__get__"))) (htk : PySem.W.takesIn K (.builtin "object.__class__") = some true)
   (hm : PySem.W.mroIn K C (.type "object") = some true) : TyOf K H (.ref a) (.ref C)
theorem zwz {x : V} {u t : Value} (I : Inv X pins σ H s) (rx : RelV x u) (ty : TyOf X.K H x t) (e : PySem.W.kitOne X.K t c = some b) (h : ∀ tk, Q (.bool b) { s with toks:=tk }) :
  wpAny (model X.prog X.w) A (call (.builtin "isinstance") [u, c]) Q E s:=by
 cases ty with
 | non=>cases (show u = Value.none from rx); exact PySem.W.kia_one PySem.W.kitx_none I.kIn True.intro e (fun z=>nomatch z) h
 | bl y=>cases (show u = Value.bool y from rx); exact PySem.W.kia_one PySem.W.kitx_bool I.kIn True.intro e (fun z=>nomatch z) h
 | int i=>obtain ⟨t, q⟩:=(show ∃ t, u = Value.int i t from rx); cases q; exact PySem.W.kia_one PySem.W.kitx_int I.kIn True.intro e (fun z=>nomatch z) h
 | str y=>obtain ⟨t, q⟩:=(show ∃ t, u = Value.str y t from rx); cases q; exact PySem.W.kia_one PySem.W.kitx_str I.kIn True.intro e (fun z=>nomatch z) h
 | flt y=>obtain ⟨t, q⟩:=(show ∃ t, u = Value.float y t from rx); cases q; exact PySem.W.kia_one PySem.W.kitx_float I.kIn True.intro e (fun z=>nomatch z) h
 | @lst a xs ea =>
  cases (show u = Value.ref a from rx)
  obtain ⟨_, _, n, _, h1⟩:=(show zdn X.prog X.w H s.heap a (.lst xs) from I.hok a _ ea)
  exact PySem.W.kia_one PySem.W.kitx_list I.kIn ⟨_, h1, rfl⟩ e (fun z=>nomatch z) h
 | @frz a ob xs ea =>
  cases (show u = Value.ref a from rx)
  obtain ⟨_, _, _, n, _, h1⟩:=(show zdn X.prog X.w H s.heap a (.frz ob (.lst xs)) from I.hok a _ ea)
  exact PySem.W.kia_one PySem.W.kitx_list I.kIn ⟨_, h1, rfl⟩ e (fun z=>nomatch z) h
 | @tup a xs ea =>
  cases (show u = Value.ref a from rx)
  obtain ⟨_, _, _, p⟩:=(show zdn X.prog X.w H s.heap a (.tup xs) from I.hok a _ ea)
  obtain ⟨o, h1, h2, _⟩:=p
  exact PySem.W.kia_one PySem.W.kitx_tuple I.kIn ⟨o, h1, h2⟩ e (fun z=>nomatch z) h
 | @dK a kvs ea =>
  cases (show u = Value.ref a from rx)
  obtain ⟨_, _, vs, _, p⟩:=(show zdn X.prog X.w H s.heap a (.dK kvs) from I.hok a _ ea)
  obtain ⟨o, es, ep, h1, h2, _⟩:=p
  exact PySem.W.kia_one PySem.W.kitx_dict I.kIn ⟨o, h1, h2.1⟩ e (fun z=>nomatch z) h
 | @dT a kvs ea =>
  cases (show u = Value.ref a from rx)
  obtain ⟨_, _, xs, _, o, es, ep, h1, h2, _⟩:=(show zdn X.prog X.w H s.heap a (.dT kvs) from I.hok a _ ea)
  exact PySem.W.kia_one PySem.W.kitx_dict I.kIn ⟨o, h1, h2.1⟩ e (fun z=>nomatch z) h
 | @ins a C dx fs ea cl ha hn htk hm =>
  cases (show u = Value.ref a from rx)
  obtain ⟨mA, O, _⟩:=zaeh I.hok ea
  obtain ⟨od, J, _⟩:=O.look
  exact PySem.W.kia_one (PySem.W.kitx_own (cl.get _) cl.hd ha hn htk hm) I.kIn J e (fun z=>nomatch z) h
end
end L2
namespace L2
open PySem PySem.Spec PyProof.Rows
set_option genInjectivity false in
structure Room (k : Nat) (A : Around) : Prop where
 hd : A.handled = none
 dp : A.depth + 3 * k + 5 < recursionLimit
 un : A.units + 16 * k + 200 < cLine
theorem Room.mono {j k : Nat} {A : Around} (r : Room k A) (h : j ≤ k) : Room j A:=⟨r.hd, by have:=r.dp; omega, by have:=r.un; omega⟩
theorem Room.deeper {k : Nat} {A : Around} (r : Room (k + 1) A) (env : Env) : Room k (A.deeper env) :=
 ⟨r.hd, by have:=r.dp; show A.depth + 1 + 3 * k + 5 < _; omega, by have:=r.un; show A.units + 3 + 16 * k + 200 < _; omega⟩
theorem Room.depth {k : Nat} {A : Around} (r : Room k A) : A.depth < recursionLimit:=by have:=r.dp; omega
theorem Room.units {k : Nat} {A : Around} (r : Room k A) : A.units + 64 < cLine:=by have:=r.un; omega
noncomputable def tNil : TA:=fun _ H Q=>Q [] H
noncomputable def tCons (ta : TE) (tr : TA) : TA:=fun σ H Q=>ta σ H fun x H1=>tr σ H1 fun xs H2=>Q (x :: xs) H2
section
variable {X : Cx} {e : Expr} {es : List Expr} {te : TE} {t : TA} {pos : Pos}
theorem zns : PA X [] tNil:=fun _ _ _ _ H Q I h=>Calls.spliced_nil ⟨[], H, I, .nil, h⟩
theorem zle (ha : PE X e te) (hr : PA X es t) (hs : starEach (e :: es) X.env = (false, eval e X.env) :: starEach es X.env:=by rfl) : PA X (e :: es) (tCons te t):=by
 intro pos pins s σ H Q I h
 rw [hs]
 show wpAny _ _ (spliced ((false, eval e X.env) :: backTo pos (starEach es X.env))) _ _ s
 refine Calls.spliced_cons (thn (ha pins s σ H _ I h) fun u s1 ⟨x, H1, I1, r1, q1⟩=>?_)
 exact thn (hr pos pins s1 σ H1 _ I1 q1) fun us s2 ⟨xs, H2, I2, r2, q2⟩=>⟨x :: xs, H2, I2, .cons r1 r2, q2⟩
noncomputable def tTup (t : TA) : TE:=fun σ H Q=>t σ H fun xs H1=>xs.length ≤ sizeLine ∧ ∀ p, H1 p = none → Q (.ref p) (upd H1 p (.tup xs))
noncomputable def tLst (t : TA) : TE:=fun σ H Q=>t σ H fun xs H1=>xs.length ≤ sizeLine ∧ ∀ p, H1 p = none → Q (.ref p) (upd H1 p (.lst xs))
theorem zahf {x1} (h : PA X es t) : PE X (.Tuple es x1 pos) (tTup t):=by
 intro pins s σ H Q I hq
 refine wpAny_Tuple_spliced (thn (h pos pins s σ H _ I hq) fun us s1 ⟨xs, H1, I1, r, z, q⟩=>⟨by rw [← r.length]; exact z, ?_⟩)
 have hf : H1 s1.heap.objs.size = none:=I1.hok.fresh (Nat.le_refl _)
 refine ⟨.ref s1.heap.objs.size, upd H1 s1.heap.objs.size (.tup xs), I1.laid (t':=s1.toks) (fun b u e=>Heap.get?_push_of_some _ e) (Nat.le_refl _) ?_, rfl, q _ hf⟩
 exact ⟨z, us, r, ⟨_, Heap.get?_push_size _ rfl, rfl, _, rfl⟩⟩
theorem zadc (h : PA X es t) : PE X (.List es pos) (tLst t):=by
 intro pins s σ H Q I hq
 refine wpAny_List_spliced (thn (h pos pins s σ H _ I hq) fun us s1 ⟨xs, H1, I1, r, z, q⟩=>⟨by rw [← r.length]; exact z, ?_⟩)
 have hf : H1 s1.heap.objs.size = none:=I1.hok.fresh (Nat.le_refl _)
 refine ⟨.ref s1.heap.objs.size, upd H1 s1.heap.objs.size (.lst xs), I1.laid (t':=s1.toks) (fun b u e=>Heap.get?_push_of_some _ e) (Nat.le_refl _) ?_, rfl, q _ hf⟩
 exact ⟨z, us, 0, r, Heap.get?_push_size _ rfl⟩
end
noncomputable abbrev Sp:=List V → Hp → VK → XK → Prop
noncomputable abbrev CXT:=List Env → Hp → Shared → XK → Value → Shared → Prop
set_option genInjectivity false in
structure Env0 (P : Program) (w : World) (K : PySem.W.Frag) (mg : Str → Option Value) (base : Heap) (A : Around) (outer : List Env) (s : Shared) (H : Hp) : Prop where
 frames : A.frames = some outer
 mod : Mod K mg base
 bs : ∀ b o, base.get? b = some o → s.heap.get? b = some o ∧ H b = none
 bsz : base.objs.size ≤ s.heap.objs.size
 funs : s.heap.FunFrames base outer
 frf : ∀ b ∈ frs outer, H b = none
 hok : HOk P w H s.heap
 bare : AllBare s.gens
noncomputable def CE (outer : List Env) (P : Program) (w : World) (H : Hp) (s : Shared) (Q : VK) (u : Value) (s' : Shared) : Prop :=
 ∃ v H', s'.os = s.os ∧ AllBare s'.gens ∧ Un (frs outer) [] H H' s.heap s'.heap ∧ HOk P w H' s'.heap ∧ RelV v u ∧ Q v H'
noncomputable def CR (CX : CXT) (outer : List Env) (P : Program) (w : World) (H : Hp) (s : Shared) (Q : VK) (E : XK) (r : Result) (s' : Shared) : Prop :=
 match r with
 | .ok (.ret u)=>CE outer P w H s Q u s'
 | .ok _=>False
 | .error e=>CX outer H s E e s'
set_option genInjectivity false in
structure FnOk (P : Program) (w : World) (K : PySem.W.Frag) (mg : Str → Option Value) (base : Heap) (CX : CXT) (k : Nat) (f : Addr) (fd : FuncData) (ps : List Str) (sp : Sp) : Prop where
 len : ∀ vs H Q E, sp vs H Q E → vs.length = ps.length
 run : ∀ (A : Around) (outer : List Env) (s : Shared) (H : Hp) (args : Args) (us : List Value) (vs : List V) (Q : VK) (E : XK), Room k A → Env0 P w K mg base A outer s H → BindsTo s fd args (ps.zip us) → Vals vs us → sp vs H Q E →
  codeAny (model P w) A (.call (.ref f) args) (CR CX outer P w H s Q E) s
section
variable {X : Cx} {pins : List (Addr × Obj)} {σ : St} {H : Hp} {s s' : Shared}
theorem Inv.env0 (I : Inv X pins σ H s) : Env0 X.prog X.w X.K X.mg X.base X.A X.stack s H :=
 ⟨I.ok.frames, I.ok.mod, I.bs, Nat.le_trans I.ok.bsz I.sz, I.stack, I.stkFree, I.hok, I.bare⟩
theorem Inv.after {Q : VK} {u : Value} (I : Inv X pins σ H s) (h : CE X.stack X.prog X.w H s Q u s') : EP X pins σ Q u s':=by
 obtain ⟨v, H', os, bare, un, hok, r, q⟩:=h
 obtain ⟨hh, g, d, t, os'⟩:=s'
 obtain rfl : os' = s.os:=os
 exact ⟨v, H', I.call (h':=hh) (g':=g) (d':=d) (t':=t) (ch:=[]) un hok bare (fun b z=>absurd z (by simp)), r, q⟩
end
noncomputable def tCall (sp : Sp) (dvs : List V) (E : XK) (t : TA) : TE:=fun σ H Q=>t σ H fun vs H1=>sp (vs ++ dvs) H1 Q E
noncomputable def zvy (K : PySem.W.Frag) (fd : FuncData) (ps : List Str) (ds : List Value) : Prop :=
 ∀ (s : Shared) (us : List Value), K.In s.heap → (us ++ ds).length = ps.length → BindsTo s fd ⟨us, []⟩ (ps.zip (us ++ ds))
theorem zvy.all {K : PySem.W.Frag} {fd : FuncData} {ps : List Str} (h : ∀ us : List Value, us.length = ps.length → bindArgs fd ⟨us, []⟩ = pure (ps.zip us)) : zvy K fd ps []:=fun s us _ hl=>by
 rw [List.append_nil] at hl ⊢
 exact .of_eq (h us hl)
noncomputable def zxa (CX : CXT) (X : Cx) (E : XK) : Prop:=∀ (pins : List (Addr × Obj)) (σ : St) (H : Hp) (s : Shared) (e : Value) (s' : Shared), Inv X pins σ H s → CX X.stack H s E e s' → X.xe e s'
section
variable {X : Cx} {CX : CXT} {k : Nat} {f C : Addr} {fd : FuncData} {ps : List Str} {sp : Sp} {dvs : List V} {ds : List Value} {E : XK} {x m : Str} {p pos apos : Pos} {e o : Expr} {es : List Expr} {ta : TE} {t : TA}
theorem zahg {pins : List (Addr × Obj)} {σ : St} {H : Hp} {s : Shared} {Q : VK} {us : List Value} {vs : List V} (F : FnOk X.prog X.w X.K X.mg X.base CX k f fd ps sp) (hr : Room k X.A) (hb : zvy X.K fd ps ds) (hd : Vals dvs ds) (hx : zxa CX X E)
  (I : Inv X pins σ H s) (r : Vals vs us) (h : sp (vs ++ dvs) H Q E) : wpAny (model X.prog X.w) X.A (call (.ref f) us) (EP X pins σ Q) X.xe s:=by
 have r2 : Vals (vs ++ dvs) (us ++ ds):=r.append hd
 have hl : (us ++ ds).length = ps.length:=by rw [← r2.length]; exact F.len _ _ _ _ h
 refine wpAny_call (codeAny_mono (F.run X.A X.stack s H ⟨us, []⟩ (us ++ ds) (vs ++ dvs) Q E hr I.env0 (hb s us I.kIn hl) r2 h) fun r s' hq=>?_)
 cases r with
 | error e=>exact hx pins σ H s e s' I hq
 | ok fl =>
  cases fl with
  | ret u=>exact I.after hq
  | next=>exact False.elim hq
  | brk=>exact False.elim hq
  | cont=>exact False.elim hq
theorem zaei (F : FnOk X.prog X.w X.K X.mg X.base CX k f fd ps sp) (hr : Room k X.A) (hg : Gl X x) (hm : X.mg x = some (.ref f)) (hk : PySem.W.keepIn X.K (.ref f) = true) (hb : zvy X.K fd ps ds) (hd : Vals dvs ds) (hx : zxa CX X E)
  (ha : PA X (e :: es) t) (hdb : (x == ("__debug__" : Str)) = false:=by decide) (he : starEach (e :: es) X.env = (false, eval e X.env) :: starEach es X.env:=by rfl) (hpl : (backTo pos (starEach es X.env)).any (·.1) = false:=by rfl) :
  PE X (.Call (.Name x p) (e :: es) [] pos) (tCall sp dvs E t):=by
 intro pins s σ H Q I h
 refine wpAny_Call_Name_kw (zady I hg hm ?_ hdb)
 refine PySem.W.callWith_K (h₀:=X.base) I.ok.mod.kin hk (thn (ha pos pins s σ H _ I h) fun us s1 ⟨vs, H1, I1, r, q⟩=>⟨I1.kIn, ?_⟩) he hpl
 exact zahg F hr hb hd hx I1 r q
set_option genInjectivity false in
end
section
variable {X : Cx} {CX : CXT} {k : Nat} {f C : Addr} {fd : FuncData} {ps ks : List Str} {sp : Sp} {E : XK} {x m : Str} {p pos apos kpos : Pos} {e o : Expr} {es : List Expr} {kws : List Keyword} {te ta : TE} {t tk : TA} {nm : Option Str}
set_option genInjectivity false in
variable {g : List Value → List Value → List Value} {gV : List V → List V → List V}
end
set_option genInjectivity false in
structure FnScope (N P : List Str) (sc : Scope) : Prop where
 kind : sc.kind = .function
 co : sc.isCoroutine = false
 gen : sc.isGenerator = false
 nd : N.Nodup
 pre : N.take P.length = P
 par : ∀ x ∈ P, sc.names.lookup x = some .local ∨ sc.names.lookup x = some .cell
 nofree : ∀ y ∈ sc.names, y.2 ≠ .free
theorem zpy {kindOf : Str → Option NameKind} {x : Str} : ∀ {binds : List (Str × Value)} {m : Str → Option Value}, (∀ v, (x, v) ∉ binds) → bindL kindOf binds m x = m x
 | [], _, _=>rfl
 | (n, v) :: r, m, h=>by
  unfold bindL
  rw [zpy fun w hw=>h w (List.mem_cons_of_mem _ hw)]
  split
  ·have : x ≠ n:=by rintro rfl; exact h v List.mem_cons_self
   simp [this]
  ·rfl
theorem zpz {kindOf : Str → Option NameKind} {x : Str} : ∀ {binds : List (Str × Value)} {m : Str → Option Value}, (∀ v, (x, v) ∉ binds) → bindC kindOf binds m x = m x
 | [], _, _=>rfl
 | (n, v) :: r, m, h=>by
  unfold bindC
  rw [zpz fun w hw=>h w (List.mem_cons_of_mem _ hw)]
  split
  ·rfl
  ·have : x ≠ n:=by rintro rfl; exact h v List.mem_cons_self
   simp [this]
theorem zqa {kindOf : Str → Option NameKind} {x : Str} {v : Value} : ∀ {P : List Str} {vs : List Value} {i : Nat} {m : Str → Option Value}, P.Nodup → P[i]? = some x → vs[i]? = some v → kindOf x = some .local →
  bindL kindOf (P.zip vs) m x = some v
 | [], _, _, _, _, h, _, _=>by simp at h
 | _ :: _, [], _, _, _, _, h, _=>by simp at h
 | p :: P, w :: vs, 0, m, nd, h1, h2, hk=>by
  simp at h1 h2; subst h1; subst h2
  show bindL kindOf ((p, w) :: P.zip vs) m p = _
  unfold bindL
  rw [zpy fun v hv=>(List.nodup_cons.mp nd).1 (List.of_mem_zip hv).1, if_pos hk]
  simp
 | p :: P, w :: vs, i + 1, m, nd, h1, h2, hk=>by
  show bindL kindOf ((p, w) :: P.zip vs) m x = _
  unfold bindL
  exact zqa (i:=i) (List.nodup_cons.mp nd).2 (by simpa using h1) (by simpa using h2) hk
theorem zqb {kindOf : Str → Option NameKind} {x : Str} {v : Value} : ∀ {P : List Str} {vs : List Value} {i : Nat} {m : Str → Option Value}, P.Nodup → P[i]? = some x → vs[i]? = some v → kindOf x ≠ some .local →
  bindC kindOf (P.zip vs) m x = some v
 | [], _, _, _, _, h, _, _=>by simp at h
 | _ :: _, [], _, _, _, _, h, _=>by simp at h
 | p :: P, w :: vs, 0, m, nd, h1, h2, hk=>by
  simp at h1 h2; subst h1; subst h2
  show bindC kindOf ((p, w) :: P.zip vs) m p = _
  unfold bindC
  rw [zpz fun v hv=>(List.nodup_cons.mp nd).1 (List.of_mem_zip hv).1, if_neg hk]
  simp
 | p :: P, w :: vs, i + 1, m, nd, h1, h2, hk=>by
  show bindC kindOf ((p, w) :: P.zip vs) m x = _
  unfold bindC
  exact zqb (i:=i) (List.nodup_cons.mp nd).2 (by simpa using h1) (by simpa using h2) hk
noncomputable def zkw (N : List Str) (vs : List V) : St:=vs.map some ++ List.replicate (N.length - vs.length) none
noncomputable def cxOf (CX : CXT) (P : Program) (w : World) (K : PySem.W.Frag) (mg : Str → Option Value) (base : Heap) (N : List Str) (qual : Str) (scope : Scope) (f : Addr) (cd : Value) (A : Around) (outer : List Env) (s : Shared) (H : Hp) (E : XK) : Cx where
 prog:=P
 w:=w
 K:=K
 mg:=mg
 base:=base
 A:=A.deeper (envOfC qual scope s.heap.objs.size f cd)
 N:=N
 s₀:=s
 H₀:=H
 env:=envOfC qual scope s.heap.objs.size f cd
 outer:=outer
 stack:=envOfC qual scope s.heap.objs.size f cd :: outer
 ex:=[]
 calm:=true
 fn:=fun _=>true
 pn:=[]
 xe:=fun e s'=>wpAny (model P w) (A.deeper (envOfC qual scope s.heap.objs.size f cd)) (leaving (envOfC qual scope s.heap.objs.size f cd) e) (fun _ s''=>CX outer H s E e s'') (fun e' s''=>CX outer H s E e' s'') s'
theorem zor {sc : Scope} {n : Nat} {x : Str} (h : sc.names.lookup x = some .cell) : ∃ c, (cellsFrom n sc.names []).lookup x = some c:=by
 have q:=PySem.W.cellsFrom_some sc.names n [] (.inl h)
 exact Option.isSome_iff_exists.mp q
theorem zxb {CX : CXT} {P : Program} {w : World} {K : PySem.W.Frag} {mg : Str → Option Value} {base : Heap} {N ps : List Str} {qual : Str} {scope : Scope} {f : Addr} {cd : Value} {A : Around} {outer : List Env} {s s1 : Shared} {H : Hp} {E : XK} {us : List Value} {vs : List V}
  (S : FnScope N ps scope) (hd : A.handled = none) (e0 : Env0 P w K mg base A outer s H) (hl : vs.length = ps.length) (r : Vals vs us)
  (x : InCallC s s.heap.objs.size (bindL (envOfC qual scope s.heap.objs.size f cd).kindOf (ps.zip us) fun _=>none) (cellsFrom (s.heap.objs.size + 1) scope.names []) (bindC (envOfC qual scope s.heap.objs.size f cd).kindOf (ps.zip us) fun _=>none) s1) :
  Inv (cxOf CX P w K mg base N qual scope f cd A outer s H E) [] (zkw N vs) H s1:=by
 have hpl : ps.length ≤ N.length:=by have:=congrArg List.length S.pre; rw [List.length_take] at this; omega
 obtain ⟨h1, tk, rfl, hk⟩:=x.done
 have noA : ∀ b : Addr, b ∉ (cxOf CX P w K mg base N qual scope f cd A outer s H E).ex:=fun b z=>absurd (show b ∈ ([] : List Addr) from z) (by simp)
 refine ⟨⟨e0.mod, S.kind, rfl, rfl, Nat.le_refl _, fun y z c h1 h2=>?_, fun y hy=>?_, fun y c _ h=>?_, fun _=>hd, Around.frames_deeper e0.frames, .inr ⟨rfl, rfl⟩, fun b z=>absurd z (noA b), e0.bs, e0.bsz, fun b _ _=>noA b, fun b z=>absurd z (noA b), e0.funs, e0.frf⟩,
  rfl, e0.bare, Un.kept hk, ⟨_, x.toInCall.ns, fun i y v h1 h2 h3=>?_⟩, fun y c h=>⟨_, x.cell y c h⟩, e0.hok.fresh (Nat.le_refl _), fun y c h=>?_, fun p hp=>absurd (show p ∈ ([] : List (Addr × Obj)) from hp) (by simp), e0.hok.kept hk, ?_⟩
 ·exact name_of_addr x.apart (PySem.mem_of_lookup h1) (PySem.mem_of_lookup h2)
 ·have hy : scope.names.lookup y = some .cell ∨ scope.names.lookup y = some .free:=hy
  rcases hy with hy | hy
  ·exact zor hy
  ·exact absurd rfl (S.nofree _ (PySem.mem_of_lookup hy))
 ·exact Nat.le_of_lt (x.above y c (PySem.mem_of_lookup h))
 ·have hi : i < vs.length:=by
   unfold zkw at h2
   by_cases hi : i < vs.length
   ·exact hi
   ·rw [List.getElem?_append_right (by simpa using hi)] at h2
    rw [List.getElem?_replicate] at h2
    split at h2 <;> cases h2
  have ha : vs[i]? = some v:=by
   unfold zkw at h2
   rw [List.getElem?_append_left (by simpa using hi), List.getElem?_map] at h2
   cases e : vs[i]? with
   | none=>rw [e] at h2; cases h2
   | some a=>rw [e] at h2; cases h2; rfl
  obtain ⟨u, hu, rv⟩:=r.get ha
  have hp : ps[i]? = some y:=by
   rw [← S.pre, List.getElem?_take_of_lt (by omega)]; exact h1
  have ndP : ps.Nodup:=by rw [← S.pre]; exact S.nd.sublist (List.take_sublist _ _)
  refine ⟨u, rv, ?_⟩
  rcases S.par y (List.mem_of_getElem? hp) with k | k
  ·exact .inl ⟨k, zqa ndP hp hu k⟩
  ·obtain ⟨c, e⟩:=zor (n:=s.heap.objs.size + 1) k
   refine .inr ⟨.inl k, c, e, ?_⟩
   have q:=x.cell y c e
   rw [zqb ndP hp hu (by show scope.names.lookup y ≠ _; rw [k]; decide)] at q
   exact q
 ·exact e0.hok.fresh (Nat.le_of_lt (x.above y c (PySem.mem_of_lookup h)))
 ·unfold zkw
  show _ = N.length
  rw [List.length_append, List.length_map, List.length_replicate]
  omega
theorem zaiv {CX : CXT} {P : Program} {w : World} {K : PySem.W.Frag} {mg : Str → Option Value} {base : Heap} {k : Nat} {f : Addr} {name qual : Str} {params : Arguments} {body : List Stmt} {scope : Scope} {dV kV doc pm cdv ct oc : Value} {an od : Option Addr}
  {osl : Array (Option Value)} {N ps : List Str} {sp : Sp} (lk : K.lookup f = some ⟨oc, od, .func (PySem.W.fnOf name qual params body scope dV kV doc pm an cdv ct), osl⟩) (hcd : PySem.W.codeIn K cdv qual = true) (S : FnScope N ps scope)
  (len : ∀ vs H Q E, sp vs H Q E → vs.length = ps.length)
  (hbody : ∀ (A : Around) (outer : List Env) (s : Shared) (H : Hp) (vs : List V) (Q : VK) (E : XK), Room k (A.deeper (envOfC qual scope s.heap.objs.size f cdv)) → sp vs H Q E →
   ∃ t, PSs (cxOf CX P w K mg base N qual scope f cdv A outer s H E) body t ∧ t { nx:=fun _ H'=>Q .non H', rt:=Q } (zkw N vs) H) :
  FnOk P w K mg base CX (k + 1) f (PySem.W.fnOf name qual params body scope dV kV doc pm an cdv ct) ps sp:=by
 refine ⟨len, fun A outer s H args us vs Q E hr e0 hb r hsp=>?_⟩
 have hl:=len _ _ _ _ hsp
 have KX : K.In s.heap:=e0.mod.kin.keeps fun b o e=>(e0.bs b o e).1
 have lim : s.heap.NoLimit:=e0.mod.nolimit.keeps fun b o e=>(e0.bs b o e).1
 have hkind : ∀ y ∈ ps.zip us, scope.names.lookup y.1 = some .local ∨ (scope.names.lookup y.1 = some .cell ∧ ((cellsFrom (s.heap.objs.size + 1) scope.names []).lookup y.1).isSome = true):=fun ⟨n, v⟩ hy=>by
  rcases S.par n (List.of_mem_zip hy).1 with q | q
  ·exact .inl q
  ·exact .inr ⟨q, PySem.W.cellsFrom_some _ _ _ (.inl q)⟩
 refine codeAny_call_function hr.depth (KX _ _ lk) rfl S.co S.gen rfl (PySem.W.codeRec_of KX hcd) (hb _ _ _ _ ?_)
 refine wpAny_newFunctionEnv_cells S.kind hkind fun env he s1 x=>?_
 subst he
 refine ⟨lim.keeps x.toInCall.keep, codeAny_func ?_⟩
 obtain ⟨t, ht, hq⟩:=hbody A outer s H vs Q E (hr.deeper _) hsp
 have I : Inv (cxOf CX P w K mg base N qual scope f cdv A outer s H E) [] (zkw N vs) H s1:=zxb S hr.hd e0 hl r x
 refine wpAny_mono (ht [] s1 (zkw N vs) H _ I hq) (fun fl s' hs=>?_) fun e s' hs=>hs
 have fin : ∀ {σ' : St} {H' : Hp} {v : V} {u : Value}, Inv (cxOf CX P w K mg base N qual scope f cdv A outer s H E) [] σ' H' s' → RelV v u → Q v H' → CE outer P w H s Q u s' :=
  fun {σ' H' v u} J rv q=>⟨v, H', J.os, J.bare, J.base, J.hok, rv, q⟩
 cases fl with
 | ret u =>
  obtain ⟨v, σ', H', J, rv, q⟩:=hs
  exact fin J rv q
 | next =>
  obtain ⟨σ', H', J, q⟩:=hs
  exact fin (v:=V.non) (u:=Value.none) J rfl q
 | brk =>
  obtain ⟨_, _, _, q⟩:=hs
  exact False.elim q
 | cont =>
  obtain ⟨_, _, _, q⟩:=hs
  exact False.elim q
end L2
namespace L2
open PySem PySem.Spec PyProof.Rows
section
variable {X : Cx} {x : Str} {p pos : Pos} {e : Expr} {es : List Expr} {t : TA} {id T : String} {r : List V → Hp → VK → Prop}
noncomputable def tCB (r : List V → Hp → VK → Prop) (t : TA) : TE:=fun σ H Q=>t σ H fun vs H1=>r vs H1 Q
theorem zum (hc : CallR X (.builtin id) r) (hg : Gl X x) (hm : X.mg x = none) (hv : bootBuiltins x = some (.builtin id)) (ha : PA X (e :: es) t) (hn : x ≠ "__name__":=by decide) (hdb : (x == ("__debug__" : Str)) = false:=by decide)
  (he : starEach (e :: es) X.env = (false, eval e X.env) :: starEach es X.env:=by rfl) (hpl : (backTo pos (starEach es X.env)).any (·.1) = false:=by rfl) : PE X (.Call (.Name x p) (e :: es) [] pos) (tCB r t):=by
 intro pins s σ H Q I h
 refine wpAny_Call_Name_kw (zps I hg hm hv ?_ hn hdb)
 exact PyProof.Rows.callWith_builtin1 (thn (ha pos pins s σ H _ I h) fun us s1 ⟨vs, H1, I1, r1, q1⟩=>hc pins s1 σ H1 vs us Q I1 r1 q1) he hpl
theorem zxc (hc : CallR X (.type T) r) (hg : Gl X x) (hm : X.mg x = none) (hv : bootBuiltins x = some (.type T)) (ha : PA X (e :: es) t) (hn : x ≠ "__name__":=by decide) (hdb : (x == ("__debug__" : Str)) = false:=by decide)
  (he : starEach (e :: es) X.env = (false, eval e X.env) :: starEach es X.env:=by rfl) (hpl : (backTo pos (starEach es X.env)).any (·.1) = false:=by rfl) : PE X (.Call (.Name x p) (e :: es) [] pos) (tCB r t):=by
 intro pins s σ H Q I h
 refine wpAny_Call_Name_kw (zps I hg hm hv ?_ hn hdb)
 exact PyProof.Rows.callWith_type1 (thn (ha pos pins s σ H _ I h) fun us s1 ⟨vs, H1, I1, r1, q1⟩=>hc pins s1 σ H1 vs us Q I1 r1 q1) he hpl
end
end L2
namespace HT
open PySem PyProof.Rows
section
open PySem.SeqAt
open PySem.AutoSeq1 (wpAny_loadPart')
open PySem.MeetsSeq PySem.MeetsSeq2 PySem.MeetsSeq3
end
section
variable {prog : Program} {w : World} {A : Around} {E : Value → Shared → Prop} {s : Shared}
theorem cat_tup {t b : Addr} {vs ws : List Value} {Q : Value → Shared → Prop} (ht : IsTup s.heap t vs.toArray) (hb : IsTup s.heap b ws.toArray) (hv : vs ≠ [])
  (h1 : ws = [] → Q (.ref t) s) (h2 : ws ≠ [] → Q (.ref s.heap.objs.size) { s with heap:=s.heap.push { cls:=.type "tuple", data:=.seq (vs ++ ws).toArray } })
  (hsz : vs.length + ws.length ≤ sizeLine) : wpAny (model prog w) A (binaryOp .Add (.ref t) (.ref b)) Q E s:=by
 obtain ⟨⟨cls, dd, data, sl⟩, ho, hc, n, hd⟩:=id ht
 obtain ⟨⟨cls2, dd2, data2, sl2⟩, ho2, hc2, n2, hd2⟩:=id hb
 simp only at hc hd hc2 hd2
 subst hc hd hc2 hd2
 have e : vs.toArray ++ ws.toArray = (vs ++ ws).toArray:=by simp
 by_cases hw : ws = []
 ·exact concat_meets ⟨_, ho, rfl⟩ ⟨_, ho2, rfl⟩ noFill_tuple_add seq_tuple_add PySem.F.slot_tuple_add PySem.F.entry_tuple_add (PySem.F.args_tuple_add_2 _ _)
   (tuple_addW1 t b vs.toArray ws.toArray n n2 dd dd2 sl sl2 (by simpa using hv) (by simp [hw])) ⟨ho, ho2, h1 hw⟩
 ·refine concat_meets ⟨_, ho, rfl⟩ ⟨_, ho2, rfl⟩ noFill_tuple_add seq_tuple_add PySem.F.slot_tuple_add PySem.F.entry_tuple_add (PySem.F.args_tuple_add_2 _ _)
   (tuple_addW2 t b vs.toArray ws.toArray n n2 dd dd2 sl sl2 (by simpa using hv) (by simpa using hw) (by rw [List.size_toArray, List.size_toArray]; exact hsz)) ⟨ho, ho2, ?_⟩
  rw [e]
  exact h2 hw
noncomputable def sIx (n d : Nat) : Option Int → Nat
 | none=>d
 | some v=>if v < 0 then (v + (n : Int)).toNat else min v.toNat n
theorem sIx_none (n d : Nat) : sIx n d none = d:=rfl
theorem sIx_nat (n d k : Nat) : sIx n d (some (k : Int)) = min k n:=by
 show (if (k : Int) < 0 then ((k : Int) + (n : Int)).toNat else min (k : Int).toNat n) = min k n
 rw [if_neg (by omega), Int.toNat_natCast]
end
end HT
namespace L2
open PySem PySem.Spec PyProof.Rows
noncomputable abbrev TO:=St → Hp → (Option Int → Hp → Prop) → Prop
noncomputable def PO (X : Cx) (e : Option Expr) (t : TO) : Prop :=
 ∀ (pins : List (Addr × Obj)) (s : Shared) (σ : St) (H : Hp) (Q : Option Int → Hp → Prop), Inv X pins σ H s → t σ H Q →
  wpAny (model X.prog X.w) X.A (evalPart e X.env) (fun u s'=>∃ o H', Inv X pins σ H' s' ∧ IsPart u o ∧ Q o H') X.xe s
noncomputable def tNoPart : TO:=fun _ H Q=>Q none H
noncomputable def tPart (t : TE) : TO:=fun σ H Q=>t σ H fun x H1=>∃ i, x = .int i ∧ Q (some i) H1
section
variable {X : Cx} {e : Expr} {te : TE} {lo hi : Option Expr} {tl th : TO} {pos p2 : Pos}
theorem zxd : PO X none tNoPart:=by
 intro pins s σ H Q I h
 rw [evalPart_none]
 exact wpAny_pure ⟨none, H, I, .none, h⟩
theorem zxe (h : PE X e te) : PO X (some e) (tPart te):=by
 intro pins s σ H Q I hw
 rw [evalPart_some]
 refine thn (h pins s σ H _ I hw) fun u s1 ⟨x, H1, I1, r1, q1⟩=>?_
 obtain ⟨i, rfl, q⟩:=q1
 obtain ⟨t, rfl⟩:=r1
 exact ⟨some i, H1, I1, .int i t, q⟩
noncomputable def SlR (X : Cx) (r : V → Option Int → Option Int → Hp → VK → Prop) : Prop :=
 ∀ (pins : List (Addr × Obj)) (s : Shared) (σ : St) (H : Hp) (x : V) (v vl vu : Value) (lo hi : Option Int) (sl : Addr) (Q : VK), Inv X pins σ H s → RelV x v → s.heap.IsSliceOf sl vl vu .none → IsPart vl lo → IsPart vu hi → r x lo hi H Q →
  ∃ T id, typeLookup (.type T) "__getitem__" = pure (some (.builtin id)) ∧ s.TypeIs v T ∧ wpAny (model X.prog X.w) X.A (getItem v (.ref sl)) (EP X pins σ Q) X.xe s
noncomputable def tSl (r : V → Option Int → Option Int → Hp → VK → Prop) (te : TE) (tl th : TO) : TE:=fun σ H Q=>te σ H fun x H1=>tl σ H1 fun l H2=>th σ H2 fun u H3=>r x l u H3 Q
theorem zun {r : V → Option Int → Option Int → Hp → VK → Prop} (hr : SlR X r) (he : PE X e te) (hl : PO X lo tl) (hu : PO X hi th) : PE X (.Subscript e (.Slice lo hi none p2) pos) (tSl r te tl th):=by
 intro pins s σ H Q I h
 refine Subscript_ (thn (he pins s σ H _ I h) fun v s1 ⟨x, H1, I1, r1, q1⟩=>?_)
 refine wpAny_Slice (thn (hl pins s1 σ H1 _ I1 q1) fun vl s2 ⟨l, H2, I2, pl, q2⟩=>thn (hu pins s2 σ H2 _ I2 q2) fun vu s3 ⟨u, H3, I3, pu, q3⟩=>?_)
 rw [evalPart_none]
 refine wpAny_pure ?_
 have I4 : Inv X pins σ H3 { s3 with heap:=s3.heap.push { cls:=.type "slice", data:=.fields #[vl, vu, .none] } }:=I3.kept (t':=s3.toks) fun b ob q=>Heap.get?_push_of_some _ q
 obtain ⟨T, id, hT, ht, hg⟩:=hr pins { s3 with heap:=s3.heap.push { cls:=.type "slice", data:=.fields #[vl, vu, .none] } } σ H3 x v vl vu l u s3.heap.objs.size Q I4 r1 (Heap.IsSliceOf.new ..) pl pu q3
 show wpAny (model X.prog X.w) X.A (subscriptTail e (.Slice lo hi none p2) v (.ref s3.heap.objs.size)) (EP X pins σ Q) X.xe { s3 with heap:=s3.heap.push { cls:=.type "slice", data:=.fields #[vl, vu, .none] } }
 exact tail_any (ops:=[.ref s3.heap.objs.size, v]) ht hT hg (by with_unfolding_all rfl)
noncomputable def cutV (xs : List V) (lo hi : Option Int) : List V:=(xs.drop (HT.sIx xs.length 0 lo)).take (HT.sIx xs.length xs.length hi - HT.sIx xs.length 0 lo)
theorem zsv (xs : List V) (lo hi : Option Int) : (cutV xs lo hi).length ≤ xs.length:=by
 unfold cutV
 rw [List.length_take, List.length_drop]
 omega
noncomputable def zahh (K : PySem.W.Frag) : R2:=fun x y H Q=>∃ a b xs ys, x = .ref a ∧ y = .ref b ∧ SqT K H a xs ∧ SqT K H b ys ∧ xs ≠ [] ∧ xs.length + ys.length ≤ sizeLine ∧
 (ys = [] → Q (.ref a) H) ∧ (ys ≠ [] → ∀ p, H p = none → Q (.ref p) (upd H p (.tup (xs ++ ys))))
theorem Vals.nil_iff {xs : List V} {us : List Value} (r : Vals xs us) : us = [] ↔ xs = []:=by
 cases r with
 | nil=>simp
 | cons _ _=>simp
theorem zaej : OpR X (binaryOp .Add) (zahh X.K):=by
 intro pins s σ H x y v u Q I rx ry h
 obtain ⟨a, b, xs, ys, rfl, rfl, ha, hb, hx, hz, q1, q2⟩:=h
 cases rx
 cases ry
 obtain ⟨its, r1, p1, _⟩:=I.tuple ha
 obtain ⟨its2, r2, p2, _⟩:=I.tuple hb
 refine HT.cat_tup p1 p2 (fun z=>hx (r1.nil_iff.mp z)) (fun z=>⟨.ref a, H, I, rfl, q1 (r2.nil_iff.mp z)⟩) (fun z=>?_) (by rw [← r1.length, ← r2.length]; exact hz)
 refine ⟨.ref s.heap.objs.size, _, I.laid (t':=s.toks) (o:=.tup (xs ++ ys)) (fun b ob q=>Heap.get?_push_of_some _ q) (Nat.le_refl _) ?_, rfl, q2 (fun w=>z (r2.nil_iff.mpr w)) _ (I.hok.fresh (Nat.le_refl _))⟩
 exact ⟨by rw [List.length_append]; exact hz, _, r1.append r2, IsTup.new _ _⟩
end
end L2
namespace L2
open PySem PySem.Spec PyProof.Rows
noncomputable def ixN (n : Nat) (i : Int) : Option Nat:=if 0 ≤ i then (if i < n then some i.toNat else none) else if -(n : Int) ≤ i then some (i + n).toNat else none
noncomputable def atI {α : Type} (xs : List α) (i : Int) : Option α:=(ixN xs.length i).bind fun j=>xs[j]?
theorem zaek {n : Nat} {i : Int} {j : Nat} (h : ixN n i = some j) : seqIndex? i n = some j ∧ j < n ∧ -(n : Int) ≤ i ∧ i < n:=by
 unfold ixN at h
 by_cases h0 : 0 ≤ i
 ·rw [if_pos h0] at h
  by_cases h1 : i < n
  ·rw [if_pos h1] at h
   have e : i.toNat = j:=Option.some.inj h
   exact ⟨by rw [seqIndex_of h0 h1, e], by omega, by omega, h1⟩
  ·rw [if_neg h1] at h; cases h
 ·rw [if_neg h0] at h
  by_cases h1 : -(n : Int) ≤ i
  ·rw [if_pos h1] at h
   have e : (i + n).toNat = j:=Option.some.inj h
   exact ⟨by rw [seqIndex_neg (by omega) h1, e], by omega, h1, by omega⟩
  ·rw [if_neg h1] at h; cases h
theorem zsw {α : Type} {xs : List α} {i : Int} {v : α} (h : atI xs i = some v) : ∃ j, seqIndex? i xs.length = some j ∧ xs[j]? = some v ∧ j < xs.length ∧ -(xs.length : Int) ≤ i ∧ i < xs.length:=by
 unfold atI at h
 cases e : ixN xs.length i with
 | none=>rw [e] at h; cases h
 | some j =>
  rw [e] at h
  obtain ⟨h1, h2, h3, h4⟩:=zaek e
  exact ⟨j, h1, h, h2, h3, h4⟩
theorem zlf {α : Type} {xs : List α} {j : Nat} {v : α} (h : xs[j]? = some v) : atI xs (j : Int) = some v:=by
 have hj : j < xs.length:=(List.getElem?_eq_some_iff.mp h).1
 have e : ixN xs.length (j : Int) = some j:=by
  unfold ixN
  rw [if_pos (by omega), if_pos (by omega)]; simp
 unfold atI; rw [e]; exact h
theorem zaax {α : Type} (xs : List α) (v : α) : atI (xs ++ [v]) (-1) = some v:=by
 have hl : (xs ++ [v]).length = xs.length + 1:=by simp
 have e : ixN (xs ++ [v]).length (-1) = some xs.length:=by
  unfold ixN
  rw [hl, if_neg (by decide), if_pos (by omega)]
  congr 1
  omega
 unfold atI
 rw [e]
 show (xs ++ [v])[xs.length]? = some v
 simp
noncomputable def PlainIx (b : Expr) : Prop:=∀ o i, subscripted b false o i = operate [o, i] (getItem o i)
noncomputable def IxR (X : Cx) (r : R2) : Prop :=
 ∀ (value slice : Expr) (pins : List (Addr × Obj)) (s : Shared) (σ : St) (H : Hp) (x y : V) (v u : Value) (Q : VK), Inv X pins σ H s → RelV x v → RelV y u → r x y H Q →
  subscripted slice false v u = operate [v, u] (getItem v u) → wpAny (model X.prog X.w) X.A (subscriptTail value slice v u) (EP X pins σ Q) X.xe s
noncomputable def MtR (X : Cx) (id : String) (r : V → List V → Hp → VK → Prop) : Prop :=
 ∀ (pins : List (Addr × Obj)) (s : Shared) (σ : St) (H : Hp) (x : V) (xs : List V) (v : Value) (us : List Value) (Q : VK), Inv X pins σ H s → RelV x v → Vals xs us → r x xs H Q →
  wpAny (model X.prog X.w) X.A (call (.builtin id) (v :: us)) (EP X pins σ Q) X.xe s
section
variable {X : Cx} {a b : Expr} {ta tb : TE} {pos : Pos}
theorem zahi {r : R2} (hr : IxR X r) (ha : PE X a ta) (hb : PE X b tb) (hs : PlainIx b) : PE X (.Subscript a b pos) (tOp r ta tb):=by
 intro pins s σ H Q I h
 exact Subscript_ (binT ha hb I h fun v u s2 x y H2 I2 rx ry q=>hr a b pins s2 σ H2 x y v u Q I2 rx ry q (hs _ _))
noncomputable def rIxL (K : PySem.W.Frag) : R2:=fun x y H Q=>∃ p xs i v, x = .ref p ∧ y = .int i ∧ SqL K H p xs ∧ atI xs i = some v ∧ Q v H
noncomputable def rIxT (K : PySem.W.Frag) : R2:=fun x y H Q=>∃ p xs i v, x = .ref p ∧ y = .int i ∧ SqT K H p xs ∧ atI xs i = some v ∧ Q v H
noncomputable def rIxS : R2:=fun x y H Q=>∃ z i c, x = .str z ∧ y = .int i ∧ z.length ≤ sizeLine ∧ atI z.cps.toList i = some c ∧ Q (.str ⟨#[c]⟩) H
theorem zael : IxR X (rIxL X.K):=by
 intro value slice pins s σ H x y v u Q I rx ry h hs
 obtain ⟨p, xs, i, z, rfl, rfl, hq, he, q⟩:=h
 cases rx
 obtain ⟨t, rfl⟩:=ry
 obtain ⟨its, r, pl, hz⟩:=I.list hq
 obtain ⟨j, h1, h2, h3, h4, h5⟩:=zsw he
 obtain ⟨w, ew, rw'⟩:=r.get h2
 have hl:=r.length
 have hn:=zpw
 have fin : EP X pins σ Q w s:=⟨z, H, I, rw', q⟩
 by_cases h0 : 0 ≤ i
 ·have hj : i.toNat = j:=by
   rw [seqIndex_of h0 h5] at h1
   exact Option.some.inj h1
  exact item_listR pl.isList h0 (by omega) (by rw [hj]; simpa using ew) fin hs
 ·have hj : (i + (its.toArray.size : Int)).toNat = j:=by
   rw [seqIndex_neg (by omega) h4] at h1
   rw [List.size_toArray, ← hl]
   exact Option.some.inj h1
  exact subscriptTail_builtinR (x:=w) pl.isList.typeIs slot_list_getitem.lookup
   (wpAny_getItem_list_neg (Q:=fun r s'=>r = w ∧ EP X pins σ Q r s') pl.isList (by omega) (by rw [List.size_toArray] <;> omega) (by omega) (by rw [hj]; simpa using ew) ⟨rfl, fin⟩) hs
theorem zahj : IxR X (rIxT X.K):=by
 intro value slice pins s σ H x y v u Q I rx ry h hs
 obtain ⟨p, xs, i, z, rfl, rfl, hq, he, q⟩:=h
 cases rx
 obtain ⟨t, rfl⟩:=ry
 obtain ⟨its, r, pl, hz⟩:=I.tuple hq
 obtain ⟨j, h1, h2, h3, h4, h5⟩:=zsw he
 obtain ⟨w, ew, rw'⟩:=r.get h2
 have hl:=r.length
 have hn:=zpw
 have fin : EP X pins σ Q w s:=⟨z, H, I, rw', q⟩
 exact subscriptTail_builtinR (x:=w) pl.typeIs slot_tuple_getitem.lookup
  (getItem_tuple (j:=j) (Q:=fun r s'=>r = w ∧ EP X pins σ Q r s') pl (by omega) (by omega) (by rw [List.size_toArray, ← hl]; exact h1) (by simpa using ew) ⟨rfl, fin⟩) hs
theorem zahk : IxR X rIxS:=by
 intro value slice pins s σ H x y v u Q I rx ry h hs
 obtain ⟨z, i, c, rfl, rfl, hz, he, q⟩:=h
 obtain ⟨t, rfl⟩:=rx
 obtain ⟨t', rfl⟩:=ry
 obtain ⟨j, h1, h2, h3, h4, h5⟩:=zsw he
 have hl : z.cps.toList.length = z.length:=by simp [Str.length]
 rw [hl] at h1 h4 h5
 have hn:=zpw
 exact tail_any (typeIs_str s z t) slot_str_getitem.lookup (getItem_str (c:=c) (by
  have e1 : decide (i < -(2 ^ 63 : Int)) = false:=decide_eq_false (by omega)
  have e2 : decide (i ≥ 2 ^ 63) = false:=decide_eq_false (by omega)
  rw [e1, e2, Bool.or_false]) (by rw [h1]; simpa using h2) ⟨.str ⟨#[c]⟩, H, I.tok _, ⟨_, rfl⟩, q⟩) hs
theorem zqc (lo hi : Option Int) (n : Nat) : (sliceBounds lo hi none n).1 = ((HT.sIx n 0 lo : Nat) : Int) ∧ (sliceBounds lo hi none n).2.1 = ((HT.sIx n n hi : Nat) : Int) ∧ (sliceBounds lo hi none n).2.2 = 1:=by
 refine ⟨?_, ?_, rfl⟩
 ·cases lo with
  | none=>simp [sliceBounds, HT.sIx]
  | some i =>
   simp only [sliceBounds, HT.sIx, Option.getD_none, show (1 : Int) > 0 by decide, if_true]
   by_cases h : i < 0
   ·simp only [h, if_true] <;> omega
   ·simp only [h, if_false] <;> omega
 ·cases hi with
  | none=>simp [sliceBounds, HT.sIx]
  | some i =>
   simp only [sliceBounds, HT.sIx, Option.getD_none, show (1 : Int) > 0 by decide, if_true]
   by_cases h : i < 0
   ·simp only [h, if_true] <;> omega
   ·simp only [h, if_false] <;> omega
theorem zos (its : List Value) (lo hi : Option Int) : slicePick its.toArray lo hi none = ((its.drop (HT.sIx its.length 0 lo)).take (HT.sIx its.length its.length hi - HT.sIx its.length 0 lo)).toArray:=by
 obtain ⟨h1, h2, h3⟩:=zqc lo hi its.toArray.size
 unfold slicePick
 rw [h1, h2, h3]
 simp only [sliceRange_one, pick_run, List.size_toArray] <;> rfl
noncomputable def rSlL (K : PySem.W.Frag) : V → Option Int → Option Int → Hp → VK → Prop:=fun x lo hi H Q=>∃ a xs, x = .ref a ∧ SqL K H a xs ∧ ∀ p, H p = none → Q (.ref p) (upd H p (.lst (cutV xs lo hi)))
theorem zaem : SlR X (rSlL X.K):=by
 intro pins s σ H x v vl vu lo hi sl Q I rx hs pl pu h
 obtain ⟨a, xs, rfl, hx, q⟩:=h
 cases rx
 obtain ⟨its, r, ht, hz⟩:=I.list hx
 have hlen:=r.length
 refine ⟨"list", _, slot_list_getitem.lookup, ht.isList.typeIs, ?_⟩
 refine wpAny_getItem_list_slice ht.isList hs pl pu .none (by simp) ?_ (by rw [List.size_toArray] <;> omega)
 rw [zos, ← hlen]
 refine ⟨.ref s.heap.objs.size, _, I.laid (t':=s.toks) (o:=.lst (cutV xs lo hi)) (fun b ob q=>Heap.get?_push_of_some _ q) (Nat.le_refl _) ?_, rfl, q _ (I.hok.fresh (Nat.le_refl _))⟩
 exact ⟨Nat.le_trans (zsv xs lo hi) hz, _, 0, (r.drop (HT.sIx xs.length 0 lo)).take (HT.sIx xs.length xs.length hi - HT.sIx xs.length 0 lo), Heap.get?_push_size _ rfl⟩
noncomputable def zni : V → Bool
 | .non=>true
 | .bl _=>true
 | .int _=>true
 | .str _=>true
 | _=>false
noncomputable def eqV : V → V → Bool
 | .non, .non=>true
 | .bl a, .bl b=>a == b
 | .bl a, .int b=>(if a then 1 else 0) == b
 | .int a, .bl b=>a == (if b then 1 else 0)
 | .int a, .int b=>a == b
 | .str a, .str b=>a == b
 | _, _=>false
theorem zahl {A : Around} {s : Shared} {y x : V} {u v : Value} (ry : RelV y u) (rx : RelV x v) (fy : zni y = true) (fx : zni x = true) : SeqAt.EqAt A s u v (eqV y x):=by
 cases y with
 | non =>
  cases ry
  cases x with
  | non=>cases rx; exact SeqAt.EqAt.same _
  | bl b=>cases rx; exact SeqAt.EqAt.none_bool b
  | int b=>obtain ⟨t, rfl⟩:=rx; exact SeqAt.EqAt.none_int b t
  | str b=>obtain ⟨t, rfl⟩:=rx; exact SeqAt.EqAt.none_str b t
  | _=>exact absurd (show false = true from fx) Bool.false_ne_true
 | bl a =>
  cases ry
  cases x with
  | non=>cases rx; exact SeqAt.EqAt.bool_none a
  | bl b=>cases rx; exact SeqAt.EqAt.bool_bool a b
  | int b=>obtain ⟨t, rfl⟩:=rx; exact SeqAt.EqAt.bool_int a b t
  | str b=>obtain ⟨t, rfl⟩:=rx; exact SeqAt.EqAt.bool_str a b t
  | _=>exact absurd (show false = true from fx) Bool.false_ne_true
 | int a =>
  obtain ⟨t', rfl⟩:=ry
  cases x with
  | non=>cases rx; exact SeqAt.EqAt.int_none a t'
  | bl b=>cases rx; exact SeqAt.EqAt.int_bool a t' b
  | int b=>obtain ⟨t, rfl⟩:=rx; exact SeqAt.EqAt.int_int a t' b t
  | str b=>obtain ⟨t, rfl⟩:=rx; exact SeqAt.EqAt.int_str a t' b t
  | _=>exact absurd (show false = true from fx) Bool.false_ne_true
 | str a =>
  obtain ⟨t', rfl⟩:=ry
  cases x with
  | non=>cases rx; exact SeqAt.EqAt.str_none a t'
  | bl b=>cases rx; exact SeqAt.EqAt.str_bool a t' b
  | int b=>obtain ⟨t, rfl⟩:=rx; exact SeqAt.EqAt.str_int a t' b t
  | str b=>obtain ⟨t, rfl⟩:=rx; exact SeqAt.EqAt.str_str a t' b t
  | _=>exact absurd (show false = true from fx) Bool.false_ne_true
 | _=>exact absurd (show false = true from fy) Bool.false_ne_true
noncomputable def eqU (x : V) (u : Value) : Bool:=match u with
 | .none=>eqV .non x
 | .bool b=>eqV (.bl b) x
 | .int i _=>eqV (.int i) x
 | .str z _=>eqV (.str z) x
 | _=>false
theorem zadd {x y : V} {u : Value} (r : RelV y u) (f : zni y = true) : eqU x u = eqV y x:=by
 cases y with
 | non=>cases r; rfl
 | bl b=>cases r; rfl
 | int i=>obtain ⟨t, rfl⟩:=r; rfl
 | str z=>obtain ⟨t, rfl⟩:=r; rfl
 | _=>exact absurd (show false = true from f) Bool.false_ne_true
theorem zlg {x : V} : ∀ {xs : List V} {us : List Value}, Vals xs us → xs.all zni = true → us.any (eqU x) = xs.any fun y=>eqV y x
 | _, _, .nil, _=>rfl
 | y :: xs, u :: us, .cons r t, f=>by
  rw [List.all_cons, Bool.and_eq_true] at f
  rw [List.any_cons, List.any_cons, zadd r f.1, zlg t f.2]
theorem zjh {A : Around} {s : Shared} {x : V} {v : Value} (rx : RelV x v) (fx : zni x = true) : ∀ {xs : List V} {us : List Value}, Vals xs us → xs.all zni = true → ∀ u ∈ us, SeqAt.EqAt A s u v (eqU x u)
 | _, _, .nil, _=>fun u hu=>by cases hu
 | y :: xs, u :: us, .cons r t, f=>fun u' hu=>by
  rw [List.all_cons, Bool.and_eq_true] at f
  rcases List.mem_cons.mp hu with rfl | hu
  ·rw [zadd r f.1]; exact zahl r rx f.1 fx
  ·exact zjh rx fx t f.2 u' hu
noncomputable def inV (x : V) (xs : List V) : Bool:=xs.any fun y=>eqV y x
noncomputable def rIn (K : PySem.W.Frag) (neg : Bool) : R2:=fun x y H Q=>∃ p xs, y = .ref p ∧ (SqL K H p xs ∨ SqT K H p xs) ∧ zni x = true ∧ xs.all zni = true ∧ Q (.bl (if neg then !inV x xs else inV x xs)) H
theorem zxf : OpR X (compareOp .In) (rIn X.K false):=by
 intro pins s σ H x y v u Q I rx ry h
 obtain ⟨p, xs, rfl, hq, fx, fs, q⟩:=h
 cases ry
 rcases hq with hq | hq
 ·obtain ⟨its, r, pl, hz⟩:=I.list hq
  refine SeqAt.in_listAt (eqU x) pl.isList (fun w hw=>zjh rx fx r fs w (by simpa using hw)) ⟨.bl _, H, I, rfl, ?_⟩
  rw [show its.toArray.any (eqU x) = its.any (eqU x) by simp, zlg r fs]
  exact q
 ·obtain ⟨its, r, pl, hz⟩:=I.tuple hq
  refine SeqAt.in_tupleAt (eqU x) pl (fun w hw=>zjh rx fx r fs w (by simpa using hw)) ⟨.bl _, H, I, rfl, ?_⟩
  rw [show its.toArray.any (eqU x) = its.any (eqU x) by simp, zlg r fs]
  exact q
theorem zqd : OpR X (compareOp .NotIn) (rIn X.K true):=by
 intro pins s σ H x y v u Q I rx ry h
 obtain ⟨p, xs, rfl, hq, fx, fs, q⟩:=h
 cases ry
 rcases hq with hq | hq
 ·obtain ⟨its, r, pl, hz⟩:=I.list hq
  refine SeqAt.notIn_listAt (eqU x) pl.isList (fun w hw=>zjh rx fx r fs w (by simpa using hw)) ⟨.bl _, H, I, rfl, ?_⟩
  rw [show its.toArray.any (eqU x) = its.any (eqU x) by simp, zlg r fs]
  exact q
 ·obtain ⟨its, r, pl, hz⟩:=I.tuple hq
  refine SeqAt.notIn_tupleAt (eqU x) pl (fun w hw=>zjh rx fx r fs w (by simpa using hw)) ⟨.bl _, H, I, rfl, ?_⟩
  rw [show its.toArray.any (eqU x) = its.any (eqU x) by simp, zlg r fs]
  exact q
theorem zqe : CallR X (.type "list") (fun xs H Q=>∃ p ys, xs = [.ref p] ∧ (SqL X.K H p ys ∨ SqT X.K H p ys) ∧ ∀ l, H l = none → Q (.ref l) (upd H l (.lst ys))):=by
 intro pins s σ H xs us Q I r h
 obtain ⟨p, ys, rfl, hq, q⟩:=h
 obtain ⟨u, rfl, rx⟩:=zsu r
 cases rx
 have fin : ∀ (its : List Value), Vals ys its → ys.length ≤ sizeLine → ∀ (h' : Heap) (c' : Nat), (∀ b o', s.heap.get? b = some o' → h'.get? b = some o') →
   h'.get? s.heap.objs.size = some { cls:=.type "list", dict:=none, data:=.seq its.toArray c', slots:=#[] } → EP X pins σ Q (.ref s.heap.objs.size) { s with heap:=h' }:=fun its r' hz h' c' kp e =>
  ⟨.ref s.heap.objs.size, _, I.laid (t':=s.toks) kp (Nat.le_refl _) (show zdn X.prog X.w _ h' _ (.lst ys) from ⟨hz, its, c', r', e⟩), rfl, q _ (I.hok.fresh (Nat.le_refl _))⟩
 rcases hq with hq | hq
 ·obtain ⟨its, r', pl, hz⟩:=I.list hq
  have hlen:=r'.length
  obtain ⟨o, ho, hc, n, hd⟩:=pl.isList
  exact call_list_seq p (.inl rfl) ho hc hd (fun h' c' kp e=>fin its r' hz h' c' kp e) (by simp only [List.size_toArray] <;> omega)
 ·obtain ⟨its, r', pl, hz⟩:=I.tuple hq
  have hlen:=r'.length
  obtain ⟨o, ho, hc, n, hd⟩:=pl
  exact call_list_seq p (.inr rfl) ho hc hd (fun h' c' kp e=>fin its r' hz h' c' kp e) (by simp only [List.size_toArray] <;> omega)
theorem zot : CallR X (.type "tuple") (fun xs H Q=>∃ p ys, xs = [.ref p] ∧ ((SqL X.K H p ys ∧ ∀ l, H l = none → Q (.ref l) (upd H l (.tup ys))) ∨ (SqT X.K H p ys ∧ Q (.ref p) H))):=by
 intro pins s σ H xs us Q I r h
 obtain ⟨p, ys, rfl, h⟩:=h
 obtain ⟨u, rfl, rx⟩:=zsu r
 cases rx
 rcases h with ⟨hq, q⟩ | ⟨hq, q⟩
 ·obtain ⟨its, r', pl, hz⟩:=I.list hq
  have hlen:=r'.length
  refine call_tuple_list pl.isList (fun h' kp=>?_) (by simp only [List.size_toArray] <;> omega)
  have I1 : Inv X pins σ H { s with heap:=h' }:=I.kept (t':=s.toks) kp
  have I2 : Inv X pins σ (upd H h'.objs.size (.tup ys)) { s with heap:=h'.push { cls:=.type "tuple", data:=.seq its.toArray } } :=
   I1.laid (t':=s.toks) (fun b o e=>Heap.get?_push_of_some _ e) (Nat.le_refl _) (show zdn X.prog X.w _ _ _ (.tup ys) from ⟨hz, its, r', IsTup.new _ _⟩)
  exact ⟨.ref h'.objs.size, _, I2, rfl, q _ (I1.hok.fresh (Nat.le_refl _))⟩
 ·obtain ⟨its, r', pl, hz⟩:=I.tuple hq
  exact call_tuple_same pl ⟨.ref p, H, I, rfl, q⟩
noncomputable def tyV (K : PySem.W.Frag) (T : String) (x : V) (H : Hp) : Prop:=match x with
 | .str _=>T = "str"
 | .int _=>T = "int"
 | .ref p=>(T = "list" ∧ ∃ xs, SqL K H p xs) ∨ (T = "tuple" ∧ ∃ o, K.lookup p = some o ∧ o.cls = .type "tuple" ∧ o.dict = none) ∨
   (T = "dict" ∧ ((∃ kvs, H p = some (.dK kvs)) ∨ ∃ kvs, H p = some (.dT kvs))) ∨ (T = "set" ∧ ∃ S n, H p = some (.set S n))
 | _=>False
theorem zahm {pins : List (Addr × Obj)} {σ : St} {H : Hp} {s : Shared} {T : String} {x : V} {v : Value} (I : Inv X pins σ H s) (r : RelV x v) (ty : tyV X.K T x H) :
  s.TypeIs v T ∧ ∀ a, v = .ref a → ∃ ob, s.heap.get? a = some ob ∧ ob.dict = none:=by
 cases x with
 | str z =>
  obtain ⟨t, rfl⟩:=r
  cases (show T = "str" from ty)
  exact ⟨typeIs_str s z t, fun _ e=>nomatch e⟩
 | int i =>
  obtain ⟨t, rfl⟩:=r
  cases (show T = "int" from ty)
  exact ⟨typeIs_int s i t, fun _ e=>nomatch e⟩
 | ref p =>
  cases r
  rcases ty with ⟨rfl, xs, hq⟩ | ⟨rfl, o, hk, hc, hd⟩ | ⟨rfl, hk⟩ | ⟨rfl, S, n, hk⟩
  ·obtain ⟨its, _, pl, _⟩:=I.list hq
   refine ⟨pl.isList.typeIs, fun a e=>?_⟩
   cases e
   obtain ⟨o, n, e, c, hd, _⟩:=pl
   exact ⟨o, e, hd⟩
  ·refine ⟨⟨o, I.kIn p o hk, hc⟩, fun a e=>?_⟩
   cases e
   exact ⟨o, I.kIn _ o hk, hd⟩
  ·have z : ∃ o, s.heap.get? p = some o ∧ o.ExactDict:=by
    rcases hk with ⟨kvs, hk⟩ | ⟨kvs, hk⟩
    ·obtain ⟨_, _, _, _, o, _, _, e, ex, _⟩:=I.hok p _ hk
     exact ⟨o, e, ex⟩
    ·obtain ⟨_, _, _, _, o, _, _, e, ex, _⟩:=I.hok p _ hk
     exact ⟨o, e, ex⟩
   obtain ⟨o, e, ex⟩:=z
   refine ⟨⟨o, e, ex.1⟩, fun a e2=>?_⟩
   cases e2
   exact ⟨o, e, ex.2.1⟩
  ·obtain ⟨o, _, _, _, e, ex, _⟩:=I.hok p _ hk
   refine ⟨⟨o, e, ex.1⟩, fun a e2=>?_⟩
   cases e2
   exact ⟨o, e, ex.2.1⟩
 | _=>exact False.elim ty
noncomputable def tBM (K : PySem.W.Frag) (T : String) (r : V → List V → Hp → VK → Prop) (to : TE) (t : TA) : TE:=fun σ H Q=>to σ H fun x H1=>tyV K T x H1 ∧ t σ H1 fun xs H2=>r x xs H2 Q
variable {o e : Expr} {es : List Expr} {to : TE} {t : TA} {name : Str} {apos cpos : Pos} {T id : String} {r : V → List V → Hp → VK → Prop}
theorem zaiw (pa : PlainAttrs T) (slot : Slot T name id) (hty : typeOf (.builtin id) = pure (.type "method_descriptor")) (hm : MtR X id r) (ho : PE X o to) (ha : PA X (e :: es) t)
  (hbase : attributeBase o name X.env (eval o X.env) = eval o X.env:=by rfl)
  (hfew : ((backTo cpos (starEach (e :: es) X.env)).all (fun x=>!x.1) && (backToKw cpos (keywordEach [] X.env)).all (fun x=>x.1.isSome)
   && decide ((e :: es).length + ([] : List Keyword).length + (if ([] : List Keyword).isEmpty then 0 else 1) < 30)) = true:=by rfl)
  (hline : (apos.endLine == cpos.line) = true:=by rfl) (hs : starEach (e :: es) X.env = (false, eval e X.env) :: starEach es X.env:=by rfl) (hplain : (backTo cpos (starEach es X.env)).any (·.1) = false:=by rfl) :
  PE X (.Call (.Attribute o name apos) (e :: es) [] cpos) (tBM X.K T r to t):=by
 intro pins s σ H Q I h
 refine wpAny_Call_method_late hbase hfew hline rfl (thn (ho pins s σ H _ I h) fun v s1 ⟨x, H1, I1, r1, ty, q1⟩=>?_)
 obtain ⟨h1, h2⟩:=zahm I1 r1 ty
 refine ⟨T, id, pa, slot, hty, h1, h2, ?_⟩
 have hA:=ha cpos pins s1 σ H1 _ I1 q1
 rw [hs] at hA ⊢
 refine Calls.callWith_builtin (by show (false || (backTo cpos (starEach es X.env)).any (·.1)) = false; rw [hplain] <;> rfl) (Calls.evalArgs_plain ?_)
 exact thn hA fun us s2 ⟨vs, H2, I2, r2, q2⟩=>hm pins s2 σ H2 x vs v us Q I2 r1 r2 q2
/- xs.append(e), list.index on a module's tuple .. are MtR facts of 06m -/
end
end L2
namespace L2
open PySem PySem.Spec PyProof.Rows
noncomputable def MtM (X : Cx) (id : String) (r : V → List V → Hp → VK → Prop) : Prop :=
 ∀ (pins : List (Addr × Obj)) (s : Shared) (σ : St) (H : Hp) (x : V) (xs : List V) (v : Value) (us : List Value) (Q : VK), Inv X pins σ H s → RelV x v → Vals xs us → r x xs H Q →
  wpAny (model X.prog X.w) X.A (call (.builtin id) (v :: us)) (EP X pins σ Q) X.xe s
theorem Vals.one : ∀ {x : V} {us : List Value}, Vals [x] us → ∃ u, us = [u] ∧ RelV x u
 | _, _, .cons r .nil=>⟨_, rfl, r⟩
theorem Vals.eraseIdx : ∀ {xs : List V} {us : List Value} (i : Nat), Vals xs us → Vals (xs.eraseIdx i) (us.eraseIdx i)
 | _, _, _, .nil=>.nil
 | _, _, 0, .cons _ t=>t
 | _, _, i + 1, .cons r t=>.cons r (Vals.eraseIdx i t)
theorem zqf {α : Type} : ∀ (l : List α) (i : Nat), (l.eraseIdx i).length ≤ l.length
 | [], _=>Nat.le_refl _
 | _ :: _, 0=>Nat.le_succ _
 | _ :: r, i + 1=>Nat.succ_le_succ (zqf r i)
section
variable {X : Cx} {pins : List (Addr × Obj)} {σ : St} {H : Hp} {s : Shared} {l b : Addr} {xs ys zs : List V}
theorem Inv.lset {its its' : List Value} {n : Nat} {f : Array Value → Array Value} {t' : Nat} (I : Inv X pins σ H s) (hH : H l = some (.lst xs))
  (e : s.heap.get? l = some { cls:=.type "list", data:=.seq its.toArray n }) (hf : f its.toArray = its'.toArray) (hv : Vals ys its') (hz : ys.length ≤ sizeLine) :
  Inv X pins σ (upd H l (.lst ys)) { s with heap:=s.heap.update l (Obj.mapSeq f), toks:=t' }:=by
 have q:=PySem.IsL.update e f
 rw [hf] at q
 refine I.write (x:=l) (e:=l) (by rw [hH]; exact trivial) (.inl rfl) (fun b' u hb hu=>(Heap.get?_update_other s.heap (Obj.mapSeq f) (Ne.symm hb)).trans hu) ⟨_, q⟩ ?_
 exact ⟨hz, its', _, hv, q⟩
theorem Inv.lnew {its : List Value} {t' : Nat} (I : Inv X pins σ H s) (hv : Vals ys its) (hz : ys.length ≤ sizeLine) :
  Inv X pins σ (upd H s.heap.objs.size (.lst ys)) { s with heap:=s.heap.push { cls:=.type "list", data:=.seq its.toArray }, toks:=t' } :=
 I.laid (fun _ _ q=>Heap.get?_push_of_some _ q) (Nat.le_refl _) ⟨hz, its, 0, hv, Heap.get?_push_size _ rfl⟩
theorem Inv.fresh (I : Inv X pins σ H s) : H s.heap.objs.size = none:=I.hok.fresh (Nat.le_refl _)
theorem Inv.lstM (I : Inv X pins σ H s) (hH : H l = some (.lst xs)) : xs.length ≤ sizeLine ∧ ∃ (its : List Value) (n : Nat), Vals xs its ∧ xs.length = its.length ∧ s.heap.get? l = some { cls:=.type "list", data:=.seq its.toArray n }:=by
 obtain ⟨z, its, n, r, e⟩:=I.hok l _ hH
 exact ⟨z, its, n, r, r.length, e⟩
theorem zaay {n : Nat} (h : n ≤ sizeLine) : Builtin.List.listTooLong n = false:=by
 unfold Builtin.List.listTooLong
 exact decide_eq_false (by omega)
end
section
variable {X : Cx}
noncomputable def zlh : V → List V → Hp → VK → Prop:=fun x vs H Q=>∃ l xs y, x = .ref l ∧ vs = [y] ∧ H l = some (.lst xs) ∧ xs.length < sizeLine ∧ Q .non (upd H l (.lst (xs ++ [y])))
theorem zcj : MtM X "list.append" zlh:=by
 intro pins s σ H x vs v us Q I rx rv h
 obtain ⟨l, xs, y, rfl, rfl, hH, hz, q⟩:=h
 cases rx
 obtain ⟨u, rfl, ru⟩:=rv.one
 obtain ⟨z, its, n, r, hl, e⟩:=I.lstM hH
 refine call_meets F.slot_list_append ⟨_, e, rfl⟩ F.entry_list_append (F.args_list_append_2 _ _) (PySem.list_append l its.toArray n u (by rw [List.size_toArray]; omega)) ⟨e, ?_⟩
 refine ⟨.non, _, I.lset (its':=its ++ [u]) hH e (by simp) (r.append (.cons ru .nil)) ?_, rfl, q⟩
 rw [List.length_append, List.length_singleton]
 omega
noncomputable def zaen : V → List V → Hp → VK → Prop:=fun x vs H Q=>∃ l b xs zs, x = .ref l ∧ vs = [.ref b] ∧ H l = some (.lst xs) ∧ H b = some (.lst zs) ∧ xs.length + zs.length ≤ sizeLine ∧ Q .non (upd H l (.lst (xs ++ zs)))
theorem zahn : MtM X "list.extend" zaen:=by
 intro pins s σ H x vs v us Q I rx rv h
 obtain ⟨l, b, xs, zs, rfl, rfl, hH, hB, hz, q⟩:=h
 cases rx
 obtain ⟨u, rfl, ru⟩:=rv.one
 cases ru
 obtain ⟨z, its, n, r, hl, e⟩:=I.lstM hH
 obtain ⟨z2, its2, n2, r2, hl2, e2⟩:=I.lstM hB
 have hsz : its.toArray.size + its2.toArray.size ≤ sizeLine:=by rw [List.size_toArray, List.size_toArray]; omega
 have hlong : ¬ (!its.toArray.isEmpty && Builtin.List.listTooLong (its.toArray.size + its2.toArray.size)) = true:=by
  rw [zaay hsz, Bool.and_false]
  exact Bool.false_ne_true
 refine call_meets F.slot_list_extend ⟨_, e, rfl⟩ F.entry_list_extend (F.args_list_extend_2 _ _)
  (AutoSeq1.list_extend_list_list_0 l its.toArray n b its2.toArray n2 hlong (by rw [List.size_toArray]; omega) (by omega)) ⟨e, e2, ?_⟩
 refine ⟨.non, _, I.lset (its':=its ++ its2) hH e (by simp) (r.append r2) ?_, rfl, q⟩
 rw [List.length_append]
 omega
noncomputable def zade : V → List V → Hp → VK → Prop:=fun x vs H Q=>∃ l xs i k y, x = .ref l ∧ vs = [.int i] ∧ H l = some (.lst xs) ∧ -(2 ^ 63) ≤ i ∧ i < 2 ^ 63 ∧ seqIndex? i xs.length = some k ∧ xs[k]? = some y ∧ Q y (upd H l (.lst (xs.eraseIdx k)))
theorem zuo : MtM X "list.pop" zade:=by
 intro pins s σ H x vs v us Q I rx rv h
 obtain ⟨l, xs, i, k, y, rfl, rfl, hH, h1, h2, hk, hy, q⟩:=h
 cases rx
 obtain ⟨u, rfl, ru⟩:=rv.one
 obtain ⟨t, rfl⟩:=ru
 obtain ⟨z, its, n, r, hl, e⟩:=I.lstM hH
 obtain ⟨w, hw, rw'⟩:=r.get hy
 refine call_meets F.slot_list_pop ⟨_, e, rfl⟩ F.entry_list_pop (F.args_list_pop_2 _ _)
  (MeetsSeq.list_pop_at l its.toArray n i t k w (fitsIndex_both h1 h2) (by rw [List.size_toArray, ← hl]; exact hk) (by rw [← Array.getElem?_toList]; exact hw) (by rw [List.size_toArray]; omega)) ⟨e, ?_⟩
 refine ⟨y, _, I.lset (its':=its.eraseIdx k) hH e ?_ (r.eraseIdx k) ?_, rw', q⟩
 ·show its.toArray.eraseIdxIfInBounds k = (its.eraseIdx k).toArray
  rw [List.eraseIdxIfInBounds_toArray]
 ·have:=zqf xs k
  omega
noncomputable def rCat : R2:=fun x y H Q=>∃ l b xs zs, x = .ref l ∧ y = .ref b ∧ H l = some (.lst xs) ∧ H b = some (.lst zs) ∧ xs.length + zs.length ≤ sizeLine ∧ ∀ p, H p = none → Q (.ref p) (upd H p (.lst (xs ++ zs)))
theorem zaho : OpR X (binaryOp .Add) rCat:=by
 intro pins s σ H x y v u Q I rx ry h
 obtain ⟨l, b, xs, zs, rfl, rfl, hH, hB, hz, q⟩:=h
 cases rx
 cases ry
 obtain ⟨z, its, n, r, hl, e⟩:=I.lstM hH
 obtain ⟨z2, its2, n2, r2, hl2, e2⟩:=I.lstM hB
 refine PySem.P.add_list e e2 ?_ (by rw [List.size_toArray, List.size_toArray]; omega)
 have ea : its.toArray ++ its2.toArray = (its ++ its2).toArray:=by simp
 rw [ea]
 exact ⟨.ref _, _, I.lnew (t':=s.toks) (r.append r2) (by rw [List.length_append]; omega), rfl, q _ I.fresh⟩
end
section
variable {prog : Program} {w : World} {A : Around} {E : Value → Shared → Prop} {s : Shared}
set_option maxRecDepth 100000 in
end
section
variable {X : Cx}
end
end L2
namespace L2
open PySem PySem.Spec PyProof.Rows
section
variable {κ : Type} [DecidableEq κ]
noncomputable def valV (kvs : List (κ × V)) (k : κ) : Option V:=(kvs.find? fun kv=>decide (kv.1 = k)).map (·.2)
noncomputable def putK (kvs : List (κ × V)) (k : κ) (v : V) : List (κ × V) :=
 if (kvs.any fun kv=>decide (kv.1 = k)) = true then kvs.map (fun kv=>if kv.1 = k then (kv.1, v) else kv) else kvs ++ [(k, v)]
theorem zdc {p : κ × V} {r : List (κ × V)} {k : κ} (e : p.1 = k) : valV (p :: r) k = some p.2:=by simp [valV, List.find?_cons, e]
theorem zdd {p : κ × V} {r : List (κ × V)} {k : κ} (e : ¬ p.1 = k) : valV (p :: r) k = valV r k:=by simp [valV, List.find?_cons, e]
theorem zkz (k : κ) : ∀ kvs : List (κ × V), (kvs.any fun kv=>decide (kv.1 = k)) = (valV kvs k).isSome
 | []=>rfl
 | p :: r=>by
  rw [List.any_cons]
  by_cases e : p.1 = k
  ·simp only [zdc e, decide_eq_true e, Bool.true_or, Option.isSome_some]
  ·rw [zdd e, decide_eq_false e, Bool.false_or]; exact zkz k r
theorem zup (k j : κ) (y : V) : ∀ kvs : List (κ × V), valV (kvs.map fun kv=>if kv.1 = k then (kv.1, y) else kv) j = (valV kvs j).map fun x=>if j = k then y else x
 | []=>rfl
 | p :: r=>by
  have ih:=zup k j y r
  rw [List.map_cons]
  by_cases h : p.1 = k
  ·rw [if_pos h]
   by_cases e : p.1 = j
   ·rw [zdc (p:=(p.1, y)) e, zdc e, Option.map_some, if_pos (e.symm.trans h)]
   ·rw [zdd (p:=(p.1, y)) e, zdd e, ih]
  ·rw [if_neg h]
   by_cases e : p.1 = j
   ·rw [zdc (p:=p) e, zdc e, Option.map_some, if_neg (fun z=>h (e.trans z))]
   ·rw [zdd (p:=p) e, zdd e, ih]
theorem zqg (k j : κ) (y : V) : ∀ kvs : List (κ × V), valV kvs k = none → valV (kvs ++ [(k, y)]) j = if j = k then some y else valV kvs j
 | [], _=>by
  by_cases e : k = j
  ·rw [if_pos e.symm]; exact zdc (p:=(k, y)) e
  ·rw [if_neg (fun z=>e z.symm)]; exact zdd (p:=(k, y)) e
 | p :: r, hn=>by
  rw [List.cons_append]
  have hk : ¬ p.1 = k:=fun z=>by rw [zdc z] at hn; cases hn
  rw [zdd hk] at hn
  have ih:=zqg k j y r hn
  by_cases e : p.1 = j
  ·rw [zdc e, zdc e, if_neg (fun z=>hk (e.trans z))]
  ·rw [zdd e, zdd e, ih]
theorem zaaz (kvs : List (κ × V)) (k j : κ) (y : V) : valV (putK kvs k y) j = if j = k then some y else valV kvs j:=by
 unfold putK
 by_cases a : (kvs.any fun kv=>decide (kv.1 = k)) = true
 ·rw [if_pos a, zup]
  rw [zkz] at a
  by_cases e : j = k
  ·obtain ⟨x, hx⟩:=Option.isSome_iff_exists.mp a
   rw [if_pos e, e, hx, Option.map_some, if_pos rfl]
  ·rw [if_neg e]
   cases valV kvs j with
   | none=>rfl
   | some x=>rw [Option.map_some, if_neg e]
 ·rw [if_neg a]
  refine zqg k j y kvs ?_
  rw [zkz] at a
  cases q : valV kvs k with
  | none=>rfl
  | some x=>rw [q] at a; exact (a rfl).elim
theorem zjc (kvs : List (κ × V)) (k : κ) (v : V) : (putK kvs k v).length ≤ kvs.length + 1:=by
 unfold putK
 split
 ·rw [List.length_map]; omega
 ·rw [List.length_append, List.length_cons, List.length_nil]; omega
theorem RelO.isSome_eq {o : Option V} {u : Option Value} (r : RelO o u) : o.isSome = u.isSome:=by
 cases o with
 | none=>cases u with
  | none=>rfl
  | some _=>exact (show False from r).elim
 | some _=>cases u with
  | none=>exact (show False from r).elim
  | some _=>rfl
theorem KV.val {kvs : List (κ × V)} {vs : List (κ × Value)} (r : KV kvs vs) (k : κ) : RelO (valV kvs k) (valueAt vs k):=by
 unfold KV at r
 induction r with
 | nil=>exact True.intro
 | @cons p q ps qs h t ih =>
  obtain ⟨h1, h2⟩:=h
  by_cases e : p.1 = k
  ·have e' : q.1 = k:=h1.symm.trans e
   have b : valueAt (q :: qs) k = some q.2:=by simp [valueAt, List.find?_cons, e']
   rw [zdc e, b]; exact h2
  ·have e' : ¬ q.1 = k:=fun z=>e (h1.trans z)
   have b : valueAt (q :: qs) k = valueAt qs k:=by simp [valueAt, List.find?_cons, e']
   rw [zdd e, b]; exact ih
theorem KV.any {kvs : List (κ × V)} {vs : List (κ × Value)} (r : KV kvs vs) (k : κ) : (kvs.any fun kv=>decide (kv.1 = k)) = vs.any fun kv=>decide (kv.1 = k):=by
 unfold KV at r
 induction r with
 | nil=>rfl
 | cons h t ih=>rw [List.any_cons, List.any_cons, ih, h.1]
theorem KV.repl {kvs : List (κ × V)} {vs : List (κ × Value)} (r : KV kvs vs) (k : κ) {y : V} {u : Value} (ry : RelV y u) :
  KV (kvs.map fun kv=>if kv.1 = k then (kv.1, y) else kv) (vs.map fun kv=>if kv.1 = k then (kv.1, u) else kv):=by
 unfold KV at r ⊢
 induction r with
 | nil=>exact .nil
 | @cons p q ps qs h t ih =>
  rw [List.map_cons, List.map_cons]
  refine .cons ?_ ih
  obtain ⟨h1, h2⟩:=h
  by_cases e : p.1 = k
  ·rw [if_pos e, if_pos (h1.symm.trans e)]; exact ⟨h1, ry⟩
  ·rw [if_neg e, if_neg (fun z=>e (h1.trans z))]; exact ⟨h1, h2⟩
theorem KV.put {kvs : List (κ × V)} {vs : List (κ × Value)} (r : KV kvs vs) (k : κ) {y : V} {u : Value} (ry : RelV y u) : KV (putK kvs k y) (stored vs k u):=by
 unfold putK stored
 rw [r.any k]
 by_cases e : (vs.any fun kv=>decide (kv.1 = k)) = true
 ·rw [if_pos e, if_pos e]; exact r.repl k ry
 ·rw [if_neg e, if_neg e]; exact Paired.snoc r ⟨rfl, ry⟩
theorem KV.length {kvs : List (κ × V)} {vs : List (κ × Value)} (r : KV kvs vs) : kvs.length = vs.length:=Paired.length r
end
theorem zsx {P : Program} {w : World} {k : Key} {u : Value} (r : RelV (kV k) u) : (zbr P w).is k u = true:=by
 cases k with
 | inl i=>obtain ⟨t, e⟩:=(show ∃ t, u = Value.int i t from r); subst e; exact zso P w i t
 | inr x=>obtain ⟨t, e⟩:=(show ∃ t, u = Value.str x t from r); subst e; exact zsp P w x t
theorem zqh {P : Program} {w : World} : ∀ {ks : List Key} {us : List Value}, Vals (ks.map kV) us → ItemsAre (zbr P w) ks us
 | [], _, r=>by rw [List.map_nil] at r; cases r; exact .nil
 | k :: ks, _, r=>by
  rw [List.map_cons] at r
  cases r with
  | cons h t=>exact .cons (zsx h) (zqh t)
noncomputable abbrev KT (H : Hp) : List (List Key × V) → List (List Key × Addr × Value) → Prop:=Paired fun p q=>p.1 = q.1 ∧ H q.2.1 = some (.tup (p.1.map kV)) ∧ RelV p.2 q.2.2
theorem KT.val {H : Hp} {kvs : List (List Key × V)} {xs : List (List Key × Addr × Value)} (r : KT H kvs xs) (k : List Key) : RelO (valV kvs k) ((atKey xs k).map (·.2)):=by
 induction r with
 | nil=>exact True.intro
 | @cons p q ps qs h t ih =>
  obtain ⟨h1, _, h2⟩:=h
  by_cases e : p.1 = k
  ·have e' : q.1 = k:=h1.symm.trans e
   have b : atKey (q :: qs) k = some q.2:=by simp [atKey, List.find?_cons, e']
   rw [zdc e, b]; exact h2
  ·have e' : ¬ q.1 = k:=fun z=>e (h1.trans z)
   have b : atKey (q :: qs) k = atKey qs k:=by simp [atKey, List.find?_cons, e']
   rw [zdd e, b]; exact ih
theorem KT.repl {H : Hp} {kvs : List (List Key × V)} {xs : List (List Key × Addr × Value)} (r : KT H kvs xs) (k : List Key) {y : V} {u : Value} (ry : RelV y u) :
  KT H (kvs.map fun kv=>if kv.1 = k then (kv.1, y) else kv) (xs.map (putAt k u)):=by
 induction r with
 | nil=>exact .nil
 | @cons p q ps qs h t ih =>
  rw [List.map_cons, List.map_cons]
  refine .cons ?_ ih
  obtain ⟨h1, h2, h3⟩:=h
  unfold putAt
  by_cases e : p.1 = k
  ·rw [if_pos e, if_pos (h1.symm.trans e)]; exact ⟨h1, h2, ry⟩
  ·rw [if_neg e, if_neg (fun z=>e (h1.trans z))]; exact ⟨h1, h2, h3⟩
theorem KT.put {H : Hp} {kvs : List (List Key × V)} {xs : List (List Key × Addr × Value)} (r : KT H kvs xs) (k : List Key) {b : Addr} {y : V} {u : Value} (hb : H b = some (.tup (k.map kV))) (ry : RelV y u) :
  KT H (putK kvs k y) (storedH xs k b u):=by
 have e : (kvs.any fun kv=>decide (kv.1 = k)) = (atKey xs k).isSome:=by
  rw [zkz, (r.val k).isSome_eq, Option.isSome_map]
 unfold putK storedH
 rw [e]
 by_cases q : (atKey xs k).isSome = true
 ·rw [if_pos q, if_pos q]; exact r.repl k ry
 ·rw [if_neg q, if_neg q]; exact Paired.snoc r ⟨rfl, hb, ry⟩
theorem KT.keeps {H H' : Hp} {kvs : List (List Key × V)} {xs : List (List Key × Addr × Value)} (r : KT H kvs xs) (ht : ∀ b ys, H b = some (.tup ys) → H' b = some (.tup ys)) : KT H' kvs xs :=
 Paired.mapP r fun _ _ z=>⟨z.1, ht _ _ z.2.1, z.2.2⟩
section
variable {P : Program} {w : World} {H : Hp} {h : Heap} {a : Addr}
theorem zahp {u : HO} (ok : HOk P w H h) (e : Rd H a u) : zdn P w H h a u:=e.ok ok
theorem zxg {kvs : List (Key × V)} (ok : HOk P w H h) (e : Rd H a (.dK kvs)) : kvs.length ≤ sizeLine ∧ (a == sysModules) = false ∧ ∃ vs, KV kvs vs ∧ h.DictOf (zbr P w) a vs :=
 show zdn P w H h a (.dK kvs) from zahp ok e
theorem zaba {kvs : List (Key × V)} (ok : HOk P w H h) (e : H a = some (.dK kvs)) : kvs.length ≤ sizeLine ∧ (a == sysModules) = false ∧ ∃ vs, KV kvs vs ∧ h.DictOf (zbr P w) a vs:=zxg ok (.inl e)
theorem zqi {ks : List Key} (ok : HOk P w H h) (e : H a = some (.tup (ks.map kV))) : (tupleKind (zbr P w)).is h ks a:=by
 obtain ⟨_, its, r, o, h1, h2, n, h3⟩:=(show zdn P w H h a (.tup (ks.map kV)) from ok a _ e)
 exact ⟨o, its.toArray, n, h1, h2, h3, by simpa using zqh r⟩
theorem zxh {kvs : List (List Key × V)} (ok : HOk P w H h) (e : Rd H a (.dT kvs)) : kvs.length ≤ sizeLine ∧ (a == sysModules) = false ∧
  ∃ xs, KT H kvs xs ∧ h.DictOfH (tupleKind (zbr P w)) a xs:=by
 obtain ⟨z, y, xs, r, o, es, ep, h1, h2, h3, h4, h5⟩:=(show zdn P w H h a (.dT kvs) from zahp ok e)
 refine ⟨z, y, xs, r, o, es, ep, h1, h2, h3, h4, fun x hx=>?_, h5⟩
 have all : ∀ {l : List (List Key × V)} {m : List (List Key × Addr × Value)}, KT H l m → ∀ x ∈ m, (tupleKind (zbr P w)).is h x.1 x.2.1:=by
  intro l m q
  induction q with
  | nil=>intro x hx; exact nomatch hx
  | @cons p q ps qs hq t ih =>
   intro x hx
   rcases List.mem_cons.mp hx with e | hx
   ·subst e
    exact zqi ok (by rw [← hq.1]; exact hq.2.1)
   ·exact ih x hx
 exact all r x hx
theorem zaix {kvs : List (List Key × V)} (ok : HOk P w H h) (e : H a = some (.dT kvs)) : kvs.length ≤ sizeLine ∧ (a == sysModules) = false ∧
  ∃ xs, KT H kvs xs ∧ h.DictOfH (tupleKind (zbr P w)) a xs:=zxh ok (.inl e)
end
noncomputable def DGet (H : Hp) (a : Addr) (y : V) (r : Option V) : Prop :=
 (∃ kvs k, Rd H a (.dK kvs) ∧ y = kV k ∧ r = valV kvs k) ∨ ∃ kvs k b, Rd H a (.dT kvs) ∧ y = .ref b ∧ H b = some (.tup (k.map kV)) ∧ r = valV kvs k
noncomputable def DPut (H : Hp) (a : Addr) (y v : V) (H' : Hp) : Prop :=
 (∃ kvs k, H a = some (.dK kvs) ∧ y = kV k ∧ kvs.length < sizeLine ∧ H' = upd H a (.dK (putK kvs k v))) ∨
 ∃ kvs k b, H a = some (.dT kvs) ∧ y = .ref b ∧ H b = some (.tup (k.map kV)) ∧ kvs.length < sizeLine ∧ H' = upd H a (.dT (putK kvs k v))
theorem DGet.k {H : Hp} {a : Addr} {kvs : List (Key × V)} {k : Key} (e : H a = some (.dK kvs)) : DGet H a (kV k) (valV kvs k):=.inl ⟨kvs, k, .inl e, rfl, rfl⟩
theorem DPut.k {H : Hp} {a : Addr} {kvs : List (Key × V)} {k : Key} {v : V} (e : H a = some (.dK kvs)) (hl : kvs.length < sizeLine) : DPut H a (kV k) v (upd H a (.dK (putK kvs k v))):=.inl ⟨kvs, k, e, rfl, hl, rfl⟩
section
variable {X : Cx} {pins : List (Addr × Obj)} {σ : St} {H : Hp} {s : Shared} {a : Addr} {y v : V} {u r : Value} {o : Option V} {A : Around} {E : Value → Shared → Prop}
theorem Inv.big (I : Inv X pins σ H s) : sysModules < s.heap.objs.size:=by
 have h : mainGlobals < s.heap.objs.size:=(I.mod.glob.keeps I.bk).lt
 exact Nat.lt_trans (by decide) h
theorem zxi {Q : Value → Shared → Prop} (hu : A.units + 1 < cLine) (I : Inv X pins σ H s) (g : DGet H a y (some v)) (ry : RelV y u) (h : ∀ w' s', Inv X pins σ H s' → RelV v w' → Q w' s') :
  wpAny (model X.prog X.w) A (getItem (.ref a) u) Q E s:=by
 rcases g with ⟨kvs, k, e, ey, l⟩ | ⟨kvs, k, b, e, ey, eb, l⟩
 ·subst ey
  obtain ⟨z, hd, vs, rel, dd⟩:=zxg I.hok e
  obtain ⟨w', hw, rw'⟩:=RelO.some_of (v:=v) (o:=valueAt vs k) (by rw [l]; exact rel.val k)
  exact wpAny_getItem_of (zsx ry) dd.mapOf hw (h w' _ (I.tok _) rw')
 ·subst ey
  cases (show u = Value.ref b from ry)
  obtain ⟨z, hd, xs, rel, dd⟩:=zxh I.hok e
  obtain ⟨w', hw, rw'⟩:=RelO.some_of (v:=v) (o:=(atKey xs k).map (·.2)) (by rw [l]; exact rel.val k)
  obtain ⟨p, hp, hp2⟩:=Option.map_eq_some_iff.mp hw
  refine wpAny_getItem_heap (tupleKind_room_in1 hu) (zqi I.hok eb) dd hp ?_
  rw [hp2]
  exact h w' _ (I.tok _) rw'
theorem d_in {Q : Value → Shared → Prop} (hu : A.units + 1 < cLine) (I : Inv X pins σ H s) (g : DGet H a y o) (ry : RelV y u) (h : ∀ s', Inv X pins σ H s' → Q (.bool o.isSome) s') :
  wpAny (model X.prog X.w) A (compareOp .In u (.ref a)) Q E s:=by
 rcases g with ⟨kvs, k, e, ey, l⟩ | ⟨kvs, k, b, e, ey, eb, l⟩
 ·subst ey
  obtain ⟨z, hd, vs, rel, dd⟩:=zxg I.hok e
  refine wpAny_in_of (zsx ry) hd dd.mapOf ?_
  rw [← (rel.val k).isSome_eq, ← l]
  exact h _ (I.tok _)
 ·subst ey
  cases (show u = Value.ref b from ry)
  obtain ⟨z, hd, xs, rel, dd⟩:=zxh I.hok e
  refine wpAny_in_heap (tupleKind_room_in1 hu) (zqi I.hok eb) hd dd ?_
  have q:=(rel.val k).isSome_eq
  rw [Option.isSome_map] at q
  rw [← q, ← l]
  exact h _ (I.tok _)
theorem zaeo {Q : Value → Shared → Prop} (hu : A.units + 1 < cLine) (I : Inv X pins σ H s) (g : DGet H a y o) (ry : RelV y u) (h : ∀ s', Inv X pins σ H s' → Q (.bool (!o.isSome)) s') :
  wpAny (model X.prog X.w) A (compareOp .NotIn u (.ref a)) Q E s:=by
 rcases g with ⟨kvs, k, e, ey, l⟩ | ⟨kvs, k, b, e, ey, eb, l⟩
 ·subst ey
  obtain ⟨z, hd, vs, rel, dd⟩:=zxg I.hok e
  refine wpAny_notIn_of (zsx ry) hd dd.mapOf ?_
  rw [← (rel.val k).isSome_eq, ← l]
  exact h _ (I.tok _)
 ·subst ey
  cases (show u = Value.ref b from ry)
  obtain ⟨z, hd, xs, rel, dd⟩:=zxh I.hok e
  refine wpAny_notIn_heap (tupleKind_room_in1 hu) (zqi I.hok eb) hd dd ?_
  have q:=(rel.val k).isSome_eq
  rw [Option.isSome_map] at q
  rw [← q, ← l]
  exact h _ (I.tok _)
theorem zou {h' : Heap} {t' : Nat} {ob : HO} (I : Inv X pins σ H s) (mu : Mut (H a)) (hs : Heap.SameBut a s.heap h') (he : ∃ q, h'.get? a = some q) (new : zdn X.prog X.w (upd H a ob) h' a ob) :
  Inv X pins σ (upd H a ob) { s with heap:=h', toks:=t' } :=
 I.write (x:=a) (e:=a) mu (.inl rfl) (fun b q hb z=>(hs.2 b hb).trans z) he new
theorem zuq {P : Program} {w : World} {H' : Hp} {h' : Heap} {kvs : List (Key × V)} {vs : List (Key × Value)} (z : kvs.length ≤ sizeLine) (hd : (a == sysModules) = false) (rel : KV kvs vs) (dd : h'.DictOf (zbr P w) a vs) :
  zdn P w H' h' a (.dK kvs):=⟨z, hd, vs, rel, dd⟩
theorem zxj {H' : Hp} {Q : Unit → Shared → Prop} (hu : A.units + 1 < cLine) (I : Inv X pins σ H s) (g : DPut H a y v H') (ry : RelV y u) (rv : RelV v r) (h : ∀ s', Inv X pins σ H' s' → Q () s') :
  wpAny (model X.prog X.w) A (setItem (.ref a) u r) Q E s:=by
 rcases g with ⟨kvs, k, e, ey, l, eH⟩ | ⟨kvs, k, b, e, ey, eb, l, eH⟩
 ·subst ey eH
  obtain ⟨z, hd, vs, rel, dd⟩:=zaba I.hok e
  have hz : vs.length ≤ sizeLine:=by rw [← rel.length]; exact z
  have hl : (putK kvs k v).length ≤ sizeLine:=by have:=zjc kvs k v; omega
  refine wpAny_setItem_pairs (hsz:=hz) (zsx ry) dd fun h' dd' hs=>h _ ?_
  have he : ∃ q, h'.get? a = some q:=let ⟨q, _, _, hq, _⟩:=dd'; ⟨q, hq⟩
  exact zou I (by rw [e]; exact True.intro) hs he (zuq hl hd (rel.put k rv) dd')
 ·subst ey eH
  cases (show u = Value.ref b from ry)
  obtain ⟨z, hd, xs, rel, dd⟩:=zaix I.hok e
  have hz : xs.length ≤ sizeLine:=by rw [← Paired.length rel]; exact z
  have hl : (putK kvs k v).length ≤ sizeLine:=by have:=zjc kvs k v; omega
  refine wpAny_setItem_heap (hsz:=hz) (tupleKind_room_in1 hu) (zqi I.hok eb) dd fun h' dd' hs=>h _ ?_
  obtain ⟨q, es, ep, hq, h2, h3, h4, _, h5⟩:=dd'
  refine zou I (by rw [e]; exact True.intro) hs ⟨q, hq⟩ ⟨hl, hd, _, (rel.put k eb rv).keeps fun c ys ec=>?_, q, es, ep, hq, h2, h3, h4, h5⟩
  rw [zbf (zaio ec e (fun z=>nomatch z))]
  exact ec
end
section
variable {X : Cx} {pins : List (Addr × Obj)} {σ : St} {H : Hp} {s : Shared} {a : Addr} {kvs : List (Key × V)} {k : Key} {u : Value} {A : Around} {E : Value → Shared → Prop}
end
noncomputable def NoSl (i : Expr) : Prop:=∀ ov iv, subscripted i false ov iv = operate [ov, iv] (getItem ov iv)
theorem zaep {prog : Program} {w : World} {A : Around} {E : Value → Shared → Prop} {s : Shared} {env : Env} {value slice : Expr} {pos : Pos} {T id : String} {Q : Value → Shared → Prop}
  (hl : typeLookup (.type T) "__getitem__" = pure (some (.builtin id))) (hs : NoSl slice)
  (h : wpAny (model prog w) A (eval value env) (fun o s₁=>wpAny (model prog w) A (eval slice env) (fun i s₂=>s₂.TypeIs o T ∧ wpAny (model prog w) A (getItem o i) Q E s₂) E s₁) E s) :
  wpAny (model prog w) A (eval (.Subscript value slice pos) env) Q E s:=by
 refine Subscript_ (wpAny_mono h (fun o s₁ h₁=>wpAny_mono h₁ (fun i s₂ h₂=>?_) fun _ _ x=>x) fun _ _ x=>x)
 obtain ⟨hT, h₂⟩:=h₂
 unfold subscriptTail
 refine wpAny_bind ?_
 rw [getitemInPython_of_ne hT.not_modules]
 refine wpAny_bind (wpAny_specialOf hT hl ?_)
 have fin : wpAny (model prog w) A (subscripted slice false o i) (fun r s₃=>wpAny (model prog w) A (letTemporaryGo value o r >>= fun _=>pure r) Q E s₃) E s₂:=by
  rw [hs o i]
  exact wpAny_operating (wpAny_mono h₂ (fun r s₃ h₃=>wpAny_bind (wpAny_letTemporaryGo (wpAny_pure h₃))) fun _ _ x=>x)
 first
  | exact wpAny_pure (wpAny_bind fin)
  | exact wpAny_bind (wpAny_pure (wpAny_bind fin))
  | exact wpAny_bind fin
theorem zsy {X : Cx} {pins : List (Addr × Obj)} {σ : St} {H : Hp} {s : Shared} {a : Addr} {y : V} {o : Option V} (I : Inv X pins σ H s) (g : DGet H a y o) : s.TypeIs (.ref a) "dict":=by
 rcases g with ⟨kvs, k, e, _, _⟩ | ⟨kvs, k, b, e, _, _, _⟩
 ·obtain ⟨_, _, vs, _, dd⟩:=zxg I.hok e
  exact dd.typeIs
 ·obtain ⟨_, _, xs, _, dd⟩:=zxh I.hok e
  exact dd.typeIs
noncomputable def tDGet (td ty : TE) : TE:=fun σ H Q=>td σ H fun x H1=>ty σ H1 fun y H2=>∃ a v, x = .ref a ∧ DGet H2 a y (some v) ∧ Q v H2
noncomputable def tDIn (ty td : TE) : TE:=fun σ H Q=>ty σ H fun y H1=>td σ H1 fun x H2=>∃ a o, x = .ref a ∧ DGet H2 a y o ∧ Q (.bl o.isSome) H2
noncomputable def tDNotIn (ty td : TE) : TE:=fun σ H Q=>ty σ H fun y H1=>td σ H1 fun x H2=>∃ a o, x = .ref a ∧ DGet H2 a y o ∧ Q (.bl (!o.isSome)) H2
noncomputable def sDPut (td ty tv : TE) : TS:=fun D σ H=>tv σ H fun v H1=>td σ H1 fun x H2=>ty σ H2 fun y H3=>∃ a H4, x = .ref a ∧ DPut H3 a y v H4 ∧ D.nx σ H4
section
variable {X : Cx} {o i e value : Expr} {pos pos' tpos : Pos} {td ty tv : TE}
theorem zaeq (hu : X.A.units + 1 < cLine) (ho : PE X o td) (hi : PE X i ty) (hs : NoSl i) : PE X (.Subscript o i pos) (tDGet td ty):=by
 intro pins s σ H Q I h
 refine zaep PySem.F.slot_dict_getitem.lookup hs (thn (ho pins s σ H _ I h) fun u s1 ⟨x, H1, I1, rx, q1⟩=>thn (hi pins s1 σ H1 _ I1 q1) fun iv s2 ⟨y, H2, I2, ry, a, v, ex, g, q2⟩=>?_)
 subst ex
 obtain rfl : u = Value.ref a:=rx
 exact ⟨zsy I2 g, zxi hu I2 g ry fun w' s3 I3 rw'=>⟨v, H2, I3, rw', q2⟩⟩
theorem zahq (hu : X.A.units + 1 < cLine) (hi : PE X i ty) (ho : PE X o td) : PC X .In i o (tDIn ty td):=by
 intro pins s σ H Q I h
 refine thn (hi pins s σ H _ I h) fun iv s1 ⟨y, H1, I1, ry, q1⟩=>thn (ho pins s1 σ H1 _ I1 q1) fun u s2 ⟨x, H2, I2, rx, a, ov, ex, g, q2⟩=>?_
 subst ex
 obtain rfl : u = Value.ref a:=rx
 exact d_in hu I2 g ry fun s3 I3=>⟨.bl ov.isSome, H2, I3, rfl, q2⟩
theorem zxk (hu : X.A.units + 1 < cLine) (hi : PE X i ty) (ho : PE X o td) : PC X .NotIn i o (tDNotIn ty td):=by
 intro pins s σ H Q I h
 refine thn (hi pins s σ H _ I h) fun iv s1 ⟨y, H1, I1, ry, q1⟩=>thn (ho pins s1 σ H1 _ I1 q1) fun u s2 ⟨x, H2, I2, rx, a, ov, ex, g, q2⟩=>?_
 subst ex
 obtain rfl : u = Value.ref a:=rx
 exact zaeo hu I2 g ry fun s3 I3=>⟨.bl (!ov.isSome), H2, I3, rfl, q2⟩
theorem zaer (hu : X.A.units + 1 < cLine) (ho : PE X o td) (hi : PE X i ty) (hv : PE X value tv) (hs : swapsWith value (some (.Subscript o i pos')) pos.line X.env = pure false) :
  PS X (.Assign [.Subscript o i pos'] value pos) (sDPut td ty tv):=by
 intro pins s σ H D I h
 refine wpAny_Assign_Subscript (thn (hv pins s σ H _ I h) fun r s1 ⟨v, H1, I1, rv, q1⟩=>thn (ho pins s1 σ H1 _ I1 q1) fun u s2 ⟨x, H2, I2, rx, q2⟩=>thn (hi pins s2 σ H2 _ I2 q2) fun iv s3 ⟨y, H3, I3, ry, a, H4, ex, g, q3⟩=>?_) hs
 subst ex
 obtain rfl : u = Value.ref a:=rx
 exact zxj hu I3 g ry rv fun s4 I4=>⟨σ, H4, I4, q3⟩
end
theorem zur {P : Program} {w : World} {H : Hp} (h : Heap) (hb : sysModules < h.objs.size) : zdn P w H (h.push { cls:=.type "dict", data:=.dict #[] }) h.objs.size (.dK []) :=
 ⟨Nat.zero_le _, beq_eq_false_iff_ne.mpr (Ne.symm (Nat.ne_of_lt hb)), [], .nil, Heap.DictOf.new h⟩
noncomputable def tDNewK : TE:=fun _ H Q=>∀ p, H p = none → Q (.ref p) (upd H p (.dK []))
section
variable {X : Cx} {pos : Pos}
theorem zabb : PE X (.Dict [] [] pos) tDNewK:=fun pins s σ H Q I h =>
 wpAny_Dict_empty ⟨.ref s.heap.objs.size, _, I.laid (a:=s.heap.objs.size) (o:=.dK []) (t':=s.toks) (fun _ _ q=>Heap.get?_push_of_some _ q) (Nat.le_refl _) (zur s.heap I.big), rfl, h _ (I.hok.fresh (Nat.le_refl _))⟩
end
noncomputable def zxl : List (TE × TE) → St → Hp → (List (V × V) → Hp → Prop) → Prop
 | [], _, H, Q=>Q [] H
 | (tk, tv) :: r, σ, H, Q=>tk σ H fun x H1=>tv σ H1 fun y H2=>zxl r σ H2 fun ps H3=>Q ((x, y) :: ps) H3
noncomputable abbrev VV : List (V × V) → List (Value × Value) → Prop:=Paired fun p q=>RelV p.1 q.1 ∧ RelV p.2 q.2
noncomputable def PPs (X : Cx) (pos : Pos) (keys : List (Option Expr)) (values : List Expr) (trs : List (TE × TE)) : Prop :=
 ∀ (pins : List (Addr × Obj)) (s : Shared) (σ : St) (H : Hp) (Q : List (V × V) → Hp → Prop), Inv X pins σ H s → zxl trs σ H Q →
  wpAny (model X.prog X.w) X.A (evalPairs (pairTrees keys values X.env pos)) (fun vs s'=>∃ ps H', Inv X pins σ H' s' ∧ VV ps vs ∧ Q ps H') X.xe s
theorem zaes {X : Cx} {pos : Pos} : PPs X pos [] [] []:=fun pins s σ H Q I h=>pairTrees_nil_walk ⟨[], H, I, .nil, h⟩
theorem zabc {X : Cx} {pos : Pos} {k v : Expr} {ks : List (Option Expr)} {vs : List Expr} {tk tv : TE} {trs : List (TE × TE)} (hk : PE X k tk) (hv : PE X v tv) (hr : PPs X pos ks vs trs) :
  PPs X pos (some k :: ks) (v :: vs) ((tk, tv) :: trs):=fun pins s σ H Q I h =>
 pairTrees_cons_walk (thn (hk pins s σ H _ I h) fun u s1 ⟨x, H1, I1, rx, q1⟩=>thn (hv pins s1 σ H1 _ I1 q1) fun w2 s2 ⟨y, H2, I2, ry, q2⟩ =>
  thn (hr pins s2 σ H2 _ I2 q2) fun ws s3 ⟨ps, H3, I3, rel, q3⟩=>⟨(x, y) :: ps, H3, I3, .cons ⟨rx, ry⟩ rel, q3⟩)
noncomputable def zfz (kvs more : List (Key × V)) : List (Key × V):=more.foldl (fun acc kv=>putK acc kv.1 kv.2) kvs
theorem KV.merge : ∀ {more : List (Key × V)} {rs : List (Key × Value)} {kvs : List (Key × V)} {vs : List (Key × Value)}, KV more rs → KV kvs vs → KV (zfz kvs more) (merged vs rs):=by
 intro more rs kvs vs r
 unfold KV at r
 induction r generalizing kvs vs with
 | nil=>intro q; exact q
 | @cons p q ps qs h t ih =>
  intro r0
  have e : KV (putK kvs p.1 p.2) (stored vs q.1 q.2):=by
   have:=r0.put p.1 h.2
   rw [← h.1]; exact this
  exact ih e
theorem zez : ∀ (more kvs : List (Key × V)), (zfz kvs more).length ≤ kvs.length + more.length
 | [], kvs=>by show kvs.length ≤ kvs.length + 0; omega
 | p :: r, kvs=>by
  have h1:=zez r (putK kvs p.1 p.2)
  have h2:=zjc kvs p.1 p.2
  show (zfz (putK kvs p.1 p.2) r).length ≤ _
  rw [List.length_cons]; omega
theorem znt {P : Program} {w : World} : ∀ {kvs : List (Key × V)} {ws : List (Value × Value)}, VV (kvs.map fun kv=>(kV kv.1, kv.2)) ws → ∃ rs, Carries (zbr P w) ws rs ∧ KV kvs rs
 | [], _, r=>by rw [List.map_nil] at r; cases r; exact ⟨[], True.intro, .nil⟩
 | p :: kvs, _, r=>by
  rw [List.map_cons] at r
  cases r with
  | @cons a b as bs h t =>
   obtain ⟨rs, c, q⟩:=znt (P:=P) (w:=w) t
   obtain ⟨b1, b2⟩:=b
   exact ⟨(p.1, b2) :: rs, ⟨zsx h.1, rfl, c⟩, .cons ⟨rfl, h.2⟩ q⟩
noncomputable def tDisp (trs : List (TE × TE)) : TE:=fun σ H Q=>∀ p, H p = none → zxl trs σ (upd H p (.dK [])) fun ps H2=>H2 p = some (.dK []) ∧ ∃ kvs : List (Key × V), ps = kvs.map (fun kv=>(kV kv.1, kv.2)) ∧ kvs.length ≤ 15 ∧ Q (.ref p) (upd H2 p (.dK (zfz [] kvs)))
theorem zaet {X : Cx} {pos : Pos} {keys : List (Option Expr)} {values : List Expr} {trs : List (TE × TE)} (h : PPs X pos keys values trs) (hall : keys.all (·.isSome) = true) (hl : keys.length = values.length) (h0 : keys ≠ [])
  (h15 : keys.length ≤ 15) : PE X (.Dict keys values pos) (tDisp trs):=by
 intro pins s σ H Q I q
 have hn:=I.hok.fresh (Nat.le_refl s.heap.objs.size)
 have I1:=I.laid (a:=s.heap.objs.size) (o:=.dK []) (h':=s.heap.push { cls:=.type "dict", data:=.dict #[] }) (t':=s.toks) (fun _ _ q=>Heap.get?_push_of_some _ q) (Nat.le_refl _) (zur s.heap I.big)
 refine wpAny_Dict_walk (knd:=zbr X.prog X.w) hall hl h0 h15 (thn (h pins _ σ _ _ I1 (q _ hn)) fun ws s2 ⟨ps, H2, I2, rel, e, kvs, ep, lk, q2⟩=>?_)
 subst ep
 obtain ⟨rs, c, rk⟩:=znt (P:=X.prog) (w:=X.w) rel
 obtain ⟨z, hd, vs0, r0, dd⟩:=zaba I2.hok e
 cases r0
 refine ⟨rs, c, dd, fun h' dd' hs=>⟨.ref s.heap.objs.size, _, ?_, rfl, q2⟩⟩
 have hz : (zfz [] kvs).length ≤ sizeLine:=by
  have h1:=zez kvs []
  rw [List.length_nil] at h1
  rw [sizeLine_eq]; omega
 have he : ∃ q, h'.get? s.heap.objs.size = some q:=let ⟨q, _, _, hq, _⟩:=dd'; ⟨q, hq⟩
 exact zou I2 (by rw [e]; exact True.intro) hs he (zuq hz hd (rk.merge .nil) dd')
set_option genInjectivity false in
set_option genInjectivity false in
section
variable {X : Cx} {pins : List (Addr × Obj)} {σ : St} {H : Hp} {s : Shared} {a : Addr} {y d : V} {u r : Value} {o : Option V} {A : Around} {E : Value → Shared → Prop}
end
section
variable {X : Cx} {o e f : Expr} {apos cpos : Pos} {td ty tx : TE}
end
section
variable {X : Cx} {pins : List (Addr × Obj)} {σ : St} {H : Hp} {s : Shared} {a : Addr} {kvs : List (Key × V)} {A : Around} {E : Value → Shared → Prop}
end
section
variable {X : Cx} {pins : List (Addr × Obj)} {σ : St} {H : Hp} {s : Shared} {a : Addr} {y : V} {u : Value} {A : Around} {E : Value → Shared → Prop}
end
end L2
namespace Att
open PySem PySem.W PySem.Calls PyProof.Rows
theorem zli {P : Params} {h : Heap} : ∀ (ns : List Int) (vs : List Value), WellAll P h vs (ns.map WData.int) → IntsAre vs ns:=by
 intro ns
 induction ns with
 | nil =>
  intro vs w
  rw [List.map_nil] at w
  cases w
  exact .nil
 | cons n ns ih =>
  intro vs w
  rw [List.map_cons] at w
  cases w with
  | cons a b =>
   cases a
   exact .cons _ _ (ih _ b)
theorem zxm {l : OpenLaw} {n : Nat} (hn : l.most = some n) {P : Params} {h : Heap} {args : List WData} {vals : List Value}
  (hpre : l.row.toRowW.claim.pre args = true) (hwl : WellAll P h vals args) :
  ∃ a vs ns, vals = [Value.ref a] ∧ args = [WData.list (ns.map WData.int)] ∧ h.get? a = some { cls:=.type "list", data:=.seq vs.toArray } ∧ IntsAre vs ns ∧ ns.length ≤ n:=by
 have hsh : WShape.hasAll [] args [.list .int] = true:=(pre_splitW hpre).1
 have hc : l.pre.holds [] { args:=args } = true:=(pre_splitW hpre).2
 obtain ⟨d, r, rfl, h1, h2⟩:=hasAllW_cons hsh
 obtain rfl:=hasAllW_nil h2
 obtain ⟨xs, rfl, h3⟩:=hasW_list h1
 obtain ⟨ns, rfl⟩:=items_int h3
 have hlen : ns.length ≤ n:=by
  unfold OpenLaw.pre at hc
  have h4 : (WTm.not (.lt (.lit (.int (n : Int))) (.len (.arg 0)))).holds [] { args:=[.list (ns.map .int)] } = true:=by
   have h4:=(holds_andW hc).1
   rw [hn] at h4
   exact h4
  have h5:=condW_of h4 (w_not (w_lt w_lit (w_len_list (w_arg rfl))))
  rw [List.length_map] at h5
  refine Nat.le_of_not_lt fun q=>?_
  have q' : (n : Int) < ((ns.length : Nat) : Int):=by omega
  first
   | (rw [decide_eq_true q'] at h5; exact absurd h5 (by decide))
   | (simp at h5; omega)
 cases hwl with
 | cons w1 w2 =>
  cases w2
  cases w1 with
  | list ho hall=>exact ⟨_, _, ns, rfl, rfl, ho, zli ns _ hall, hlen⟩
theorem zxn (l : OpenLaw) (args : List WData) : l.row.toRowW.claim.post args (.bool true) args = true :=
 postW_of (r:=l.row.toRowW) (X:=(true == true))
  (show WShape.has [] (.bool true) .bool = true by first | rfl | decide | simp [WShape.has, WShape.arms, WShape.armsAll])
  (show (WTm.eq .res (.lit (.bool true))).value [] { args:=args, res:=some (.bool true), after:=args } = some (.bool (true == true)) from w_eq_bool (w_res rfl) w_lit) rfl
theorem attach_call {l : OpenLaw} {n : Nat} {q : Program} {loose : List Str} {XP : (Str → Option Value) → Heap → Prop} {YP : World → Heap → Prop} {d : DefRec}
  (hn : l.most = some n) (hdf : d.params.defaults = [])
  (call : ∀ (w : World) (s₀ s₁ : Shared) (mg mb : Str → Option Value) (fa : Addr) (o : Obj) (pm cd doc : Value) (a : Addr) (vs : List Value) (ns : List Int),
   Ground q loose [] XP w s₀ mg mb s₁.heap → YP w s₁.heap →
   s₁.heap.get? fa = some o → o.data = .func (docDef d.name d.params d.body d.scope pm cd doc) → s₁.heap.CodeRec cd d.name → mg d.name = some (.ref fa) →
   s₁.heap.get? a = some { cls:=.type "list", data:=.seq vs.toArray } → IntsAre vs ns → ns.length ≤ n → s₁.gens = #[] →
   codeAny (model l.prog w) callerA (.call (.ref fa) ⟨[.ref a], []⟩) (fun r s'=>r = .ok (.ret (.bool true)) ∧ OldK s₁.heap s'.heap ∧ s'.os = s₁.os ∧ AllBare s'.gens) s₁) :
  WalkO q loose XP YP l.row.toRowW d [] (fun f vs=>PySem.call f vs):=by
 intro w s₀ s₁ mg mb G Y fa o pm cd doc dV kV ho hd hcd hD hmg hg args vals as hpre hlay hrd hwl hlo
 obtain rfl : dV = .none:=Dflts.none hD hdf
 obtain rfl : kV = .none:=Dflts.noKw hD
 obtain ⟨a, vs, ns, rfl, rfl, hobj, hints, hlen⟩:=zxm hn hpre hwl
 refine enter_call (codeAny_mono (call w s₀ s₁ mg mb fa o pm cd doc a vs ns G Y ho (fd_plain hd) hcd hmg hobj hints hlen hg) fun r s' hq=>?_)
 obtain ⟨rfl, h2, h3, h4⟩:=hq
 exact ⟨.inl ⟨.bool true, .bool true, [], rfl, fun _=>rfl, .bool true, zxn l _, fun _=>⟨List.Pairwise.nil, fun _ hm=>(nomatch hm)⟩⟩, h2, h3, h4⟩
section
variable {prog : Program} {w : World} {A : Around} {E : Value → Shared → Prop} {s : Shared} {K : Frag}
end
end Att
namespace L2
open PySem PySem.Spec PyProof.Rows
theorem zqj : ∀ {vs : List Value} {ns : List Int}, IntsAre vs ns → Vals (ns.map V.int) vs
 | _, _, .nil=>.nil
 | _, _, .cons n t h=>.cons ⟨t, rfl⟩ (zqj h)
noncomputable def Only (H : Hp) : Prop:=∀ b, H b = none ∨ ∃ o xs, H b = some (.frz o (.lst xs))
theorem zabd {P : Program} {w : World} {K : PySem.W.Frag} {mg mb : Str → Option Value} {CX : CXT} {k : Nat} {fa a : Addr} {fd : FuncData} {x : Str} {sp : Sp} {s₁ : Shared} {vs : List Value} {ns : List Int}
  (KX : K.In s₁.heap) (hns : s₁.heap.Ns mainGlobals mg) (hb : s₁.heap.Ns builtinsNs mb) (hbb : ∀ x : Str, x ≠ "__name__" → mb x = bootBuiltins x) (hlim : s₁.heap.NoLimit) (hg : s₁.gens = #[])
  (ha : s₁.heap.get? a = some { cls:=.type "list", data:=.seq vs.toArray }) (hi : IntsAre vs ns) (hl : ns.length ≤ sizeLine) (hr : Room k callerA)
  (F : ∀ base : Heap, K.In base → base.Ns mainGlobals mg → FnOk P w K mg base CX k fa fd [x] sp) (hbind : ∀ (s : Shared) (u : Value), BindsTo s fd ⟨[u], []⟩ [(x, u)])
  (hsp : ∀ H : Hp, Only H → SqL K H a (ns.map V.int) → sp [.ref a] H (fun v _=>v = .bl true) fun _ _ _=>False)
  (hCX : ∀ H e s', CX [] H s₁ (fun _ _ _=>False) e s' → False) :
  codeAny (model P w) callerA (.call (.ref fa) ⟨[.ref a], []⟩) (fun r s'=>r = .ok (.ret (.bool true)) ∧ OldK s₁.heap s'.heap ∧ s'.os = s₁.os ∧ AllBare s'.gens) s₁:=by
 have rv:=zqj hi
 have lenV:=hi.length
 have core : ∀ H : Hp, Only H → SqL K H a (ns.map V.int) → HOk P w H s₁.heap → (∀ b, H b ≠ none → b = a) → (H a ≠ none → K.lookup a = none) →
   codeAny (model P w) callerA (.call (.ref fa) ⟨[.ref a], []⟩) (fun r s'=>r = .ok (.ret (.bool true)) ∧ OldK s₁.heap s'.heap ∧ s'.os = s₁.os ∧ AllBare s'.gens) s₁:=by
  intro H hO hS hok hA hK
  have base_of : ∀ {b : Addr} {o : Obj}, s₁.heap.get? b = some o → H b = none → (hidT s₁.heap H).get? b = some o:=fun e n=>zaaq e n
  have noA : ∀ {b : Addr} {o : Obj} {es : Array DictEntry} {ep : Nat}, s₁.heap.get? b = some o → o.data = .dict es ep → H b = none:=fun {b o es ep} e d=>by
   cases q : H b with
   | none=>rfl
   | some u =>
    have e' : b = a:=hA b (by rw [q]; simp)
    subst e'
    rw [ha] at e; cases e
    have d' : Data.seq vs.toArray _ = Data.dict es ep:=d
    cases d'
  have nsK : ∀ {b : Addr} {m : Str → Option Value}, s₁.heap.Ns b m → (hidT s₁.heap H).Ns b m:=fun {b m} ⟨o, es, ep, e, d, r⟩=>⟨o, es, ep, base_of e (noA e d), d, r⟩
  have hKb : K.In (hidT s₁.heap H):=fun b o e=>base_of (KX b o e) (by
   cases q : H b with
   | none=>rfl
   | some u =>
    have e' : b = a:=hA b (by rw [q]; simp)
    subst e'
    rw [hK (by rw [q]; simp)] at e; cases e)
  have hM : Mod K mg (hidT s₁.heap H):=⟨hKb, nsK hns, ⟨mb, nsK hb, hbb⟩, let ⟨mc, h1, h2⟩:=hlim; ⟨mc, nsK h1, h2⟩⟩
  have e0 : Env0 P w K mg (hidT s₁.heap H) callerA [] s₁ H:=⟨rfl, hM, fun b o e=>zadx e, Nat.le_of_eq (zws _ _), trivial, fun b hb=>absurd (show b ∈ ([] : List Addr) from hb) (by simp), hok, .of_eq hg⟩
  refine codeAny_mono ((F _ hKb (nsK hns)).run callerA [] s₁ H ⟨[.ref a], []⟩ [.ref a] [.ref a] _ _ hr e0 (hbind s₁ (.ref a)) (.cons rfl .nil) (hsp H hO hS)) fun r s' h=>?_
  cases r with
  | error e=>exact (hCX H e s' h).elim
  | ok fl =>
   cases fl with
   | next=>exact False.elim h
   | brk=>exact False.elim h
   | cont=>exact False.elim h
   | ret u =>
    obtain ⟨v, H', os, bare, un, hok', r', q⟩:=h
    have q' : v = .bl true:=q
    subst q'
    obtain rfl : u = Value.bool true:=r'
    refine ⟨rfl, OldK.of_keep fun b o e=>?_, os, bare⟩
    cases q : H b with
    | none=>exact un.keep b o e q (by intro z; exact absurd (show b ∈ ([] : List Addr) from z) (by simp)) (by simp)
    | some u =>
     rcases hO b with z | ⟨ob, xs, z⟩
     ·rw [q] at z; cases z
     ·have z2:=un.frzs b ob _ z
      obtain ⟨e1, _⟩:=hok b _ z
      obtain ⟨e2, _⟩:=hok' b _ z2
      rw [e] at e1; cases e1
      exact e2
 cases hk : K.lookup a with
 | some o =>
  have e:=KX a o hk
  rw [ha] at e
  cases e
  refine core (fun _=>none) (fun _=>.inl rfl) (.inr ⟨_, vs.toArray, _, hk, rfl, rfl, rfl, by rw [List.size_toArray, lenV]; exact hl, by simpa using rv⟩) (fun b u z=>by have z' : (none : Option HO) = some u:=z; cases z') (fun b z=>absurd rfl z) fun z=>absurd rfl z
 | none =>
  refine core (fun b=>if b = a then some (.frz { cls:=.type "list", data:=.seq vs.toArray } (.lst (ns.map V.int))) else none) (fun b=>?_) (.inl (.inr ⟨{ cls:=.type "list", data:=.seq vs.toArray }, if_pos rfl⟩)) (fun b u z=>?_) (fun b z=>?_) fun _=>hk
  ·by_cases hb : b = a
   ·exact .inr ⟨_, _, if_pos hb⟩
   ·exact .inl (if_neg hb)
  ·by_cases hb : b = a
   ·have z':=(if_pos hb).symm.trans z
    cases z'
    subst hb
    exact ⟨ha, by rw [List.length_map]; exact hl, vs, _, rv, ha⟩
   ·have z':=(if_neg hb).symm.trans z
    cases z'
  ·by_cases hb : b = a
   ·exact hb
   ·exact absurd (if_neg hb) z
end L2
namespace L2
open PySem PySem.Spec PyProof.Rows
theorem walk_of {l : PySem.W.OpenLaw} {n k : Nat} {q : Program} {loose : List Str} {XP : (Str → Option Value) → Heap → Prop} {YP : World → Heap → Prop} {d : DefRec} {K : Params → PySem.W.Frag} {CX : World → CXT} {sp : World → Sp} {x : Str}
  (hn : l.most = some n) (hn2 : n ≤ sizeLine) (hdf : d.params.defaults = []) (hr : Room k callerA)
  (hY : ∀ (w : World) (h : Heap), YP w h → (K w.params).In h)
  (F : ∀ (w : World) (mg : Str → Option Value) (fa : Addr) (h : Heap), (K w.params).In h → h.Ns mainGlobals mg → mg d.name = some (.ref fa) →
   ∃ fd : FuncData, (∀ (s : Shared) (u : Value), BindsTo s fd ⟨[u], []⟩ [(x, u)]) ∧
    ∀ base : Heap, (K w.params).In base → base.Ns mainGlobals mg → FnOk l.prog w (K w.params) mg base (CX w) k fa fd [x] (sp w))
  (hsp : ∀ (w : World) (H : Hp) (a : Addr) (ns : List Int), ns.length ≤ n → Only H → SqL (K w.params) H a (ns.map V.int) → sp w [.ref a] H (fun v _=>v = .bl true) fun _ _ _=>False)
  (hCX : ∀ (w : World) (H : Hp) (s : Shared) (e : Value) (s' : Shared), CX w [] H s (fun _ _ _=>False) e s' → False) :
  PySem.W.WalkO q loose XP YP l.row.toRowW d [] (fun f vs=>PySem.call f vs):=by
 refine Att.attach_call hn hdf fun w s₀ s₁ mg mb fa o pm cd doc a vs ns G Y ho hd hcd hmg hobj hints hlen hg=>?_
 have KX:=hY w _ Y
 obtain ⟨fd, hb, hF⟩:=F w mg fa _ KX G.T.g hmg
 exact zabd KX G.T.g G.T.b G.T.builtins G.T.nolimit hg hobj hints (Nat.le_trans hlen hn2) hr hF hb (fun H hO hS=>hsp w H a ns hlen hO hS) fun H e s'=>hCX w H s₁ e s'
end L2
/- THE LAST THEOREM (shape; LID, My.* are yours):
  My.Adr: a structure of the addresses that your layer names (classes, functions); My.Txt K t: a structure (Prop) of the equations over K;
  My.txt_mk : {K} {implicit addresses ..} (e1 : nsIn K mainGlobals "law" = some (some (.ref f))) (e2 : K.lookup f = some ⟨oc, od, .func (fnOf "law" "law" params body scope dV kV doc pm an cdv ct), sl⟩) (e3 : codeIn K cdv "law" = true) .. : ∃ t, My.Txt K t
set_option maxRecDepth 100000 in
set_option maxHeartbeats 0 in
theorem PySem.Challenge.cw_LID_holds : PySem.Challenge.rw_LID.Holds := by
 w_on; o_law; k_head; (case hw=>w_witness2)
 k_fill
 refine L2.walk_of (l:=PySem.Challenge.rw_LID) (n:=63) (k:=40) (x:="script") (CX:=fun w=>..) (sp:=fun _=>My.sp_law) rfl (by decide) rfl ⟨rfl, by decide, by decide⟩ (fun w h Y=>PySem.W.kIn_of Y) ?F ?S ?C
 case F =>
  intro w mg fa h KX G hmg
  have T : ∃ t, My.Txt (L2.KOf KX) t:=by
   dsimp only [L2.KOf]                          -- K must stand as «<heap const> w.params» for k_is
   refine' My.txt_mk ?e1 ?e2 ?e3 ..
   (case e1=>PySem.W.k_is)                    -- in the order: a name -> its address -> its object -> its parts
   (case e2=>PySem.W.k_is)
   ..
  obtain ⟨t, T⟩:=T
  have e0:=hmg.symm.trans (PySem.W.mg_of KX G T.law)
  cases e0                                       -- fa is the law's own address
  exact ⟨_, fun s u=>.of_eq rfl, fun base kb nb=>My.law_fn T kb nb⟩     -- if «.of_eq rfl» comes too early: refine' ⟨_, ?b, fun base kb nb=>My.law_fn T kb nb⟩; exact fun s u=>.of_eq rfl
 case S=>exact fun w H a ns hl hO hS=>..
 case C=>exact ..
(the tactic k_is has no namespace: write k_is) -/
namespace L2
open PySem PySem.Spec PyProof.Rows
noncomputable def zbp (s : Stmt) : Arguments:=match s with
 | .FunctionDef _ a _ _ _ _ _ _ _ _=>a
 | _=>{ posonlyargs:=[], args:=[], vararg:=none, kwonlyargs:=[], kw_defaults:=[], kwarg:=none, defaults:=[] }
noncomputable def zbl (s : Stmt) : List Stmt:=match s with
 | .FunctionDef _ _ b _ _ _ _ _ _ _=>b
 | _=>[]
noncomputable def zal (s : Stmt) : Scope:=match s with
 | .FunctionDef _ _ _ _ _ _ sc _ _ _=>sc
 | _=>{ kind:=.function, names:=[], isGenerator:=false, isCoroutine:=false }
noncomputable abbrev CX0 : CXT:=fun _ _ _ _ _ _=>False
noncomputable abbrev E0 : XK:=fun _ _ _=>False
theorem zaiy {X : Cx} : zxa CX0 X E0:=fun _ _ _ _ _ _ _ h=>h.elim
set_option genInjectivity false in
structure Fun (K : PySem.W.Frag) (x qual : Str) (st : Stmt) (f : Addr) (fd : FuncData) : Prop where
 ex : ∃ (oc : Value) (od : Option Addr) (kV doc pm : Value) (an : Option Addr) (cdv ct : Value) (osl : Array (Option Value)),
  fd = PySem.W.fnOf x qual (zbp st) (zbl st) (zal st) .none kV doc pm an cdv ct ∧ K.lookup f = some ⟨oc, od, .func fd, osl⟩ ∧ PySem.W.codeIn K cdv qual = true
 kp : PySem.W.keepIn K (.ref f) = true
section
variable {P : Program} {w : World} {K : PySem.W.Frag} {mg : Str → Option Value} {base : Heap}
theorem Fun.ok {x qual : Str} {st : Stmt} {f : Addr} {fd : FuncData} {N ps : List Str} {k : Nat} {sp : Sp} (F : Fun K x qual st f fd) (S : FnScope N ps (zal st)) (len : ∀ vs H Q E, sp vs H Q E → vs.length = ps.length)
  (hbody : ∀ (cdv : Value) (A : Around) (outer : List Env) (s : Shared) (H : Hp) (vs : List V) (Q : VK) (E : XK), Room k (A.deeper (envOfC qual (zal st) s.heap.objs.size f cdv)) → sp vs H Q E →
   ∃ t, PSs (cxOf CX0 P w K mg base N qual (zal st) f cdv A outer s H E).nox (zbl st) t ∧ t { nx:=fun _ H'=>Q .non H', rt:=Q } (zkw N vs) H) : FnOk P w K mg base CX0 (k + 1) f fd ps sp:=by
 obtain ⟨oc, od, kV, doc, pm, an, cdv, ct, osl, rfl, lk, hcd⟩:=F.ex
 refine zaiv lk hcd S len fun A outer s H vs Q E hr hsp=>?_
 obtain ⟨t, h, q⟩:=hbody cdv A outer s H vs Q E hr hsp
 exact ⟨t, h.nox, q⟩
theorem Fun.binds {x qual : Str} {st : Stmt} {f : Addr} {fd : FuncData} {ps : List Str} (F : Fun K x qual st f fd)
  (h : ∀ (kV doc pm : Value) (an : Option Addr) (cdv ct : Value) (us : List Value), us.length = ps.length → bindArgs (PySem.W.fnOf x qual (zbp st) (zbl st) (zal st) .none kV doc pm an cdv ct) ⟨us, []⟩ = pure (ps.zip us)) : zvy K fd ps []:=by
 obtain ⟨oc, od, kV, doc, pm, an, cdv, ct, osl, rfl, lk, hcd⟩:=F.ex
 exact .all (h kV doc pm an cdv ct)
theorem zdj {x qual : Str} {st : Stmt} {f : Addr} {oc : Value} {od an : Option Addr} {osl : Array (Option Value)} {kV doc pm cdv ct : Value} (l : K.lookup f = some ⟨oc, od, .func (PySem.W.fnOf x qual (zbp st) (zbl st) (zal st) .none kV doc pm an cdv ct), osl⟩)
  (c : PySem.W.codeIn K cdv qual = true) (k : PySem.W.keepIn K (.ref f) = true) : Fun K x qual st f (PySem.W.fnOf x qual (zbp st) (zbl st) (zal st) .none kV doc pm an cdv ct):=⟨⟨oc, od, kV, doc, pm, an, cdv, ct, osl, rfl, l, c⟩, k⟩
end
theorem zgt {A : Around} {k : Nat} (hr : Room k A) : A.units + 1 < cLine:=Nat.lt_of_le_of_lt (Nat.add_le_add_left (by decide : 1 ≤ 64) _) hr.units
section
variable {X : Cx}
theorem pv (i : Nat) {x : Str} {pos : Pos} (hN : X.N[i]? = some x:=by rfl) (hv : visB X.env.scope x = true:=by rfl) (hd : (x == ("__debug__" : Str)) = false:=by decide)
  (hcd : (x == ("__classdict__" : Str)) = false:=by decide) : PE X (.Name x pos) (tVar i):=zacz hN (visB.of hv) hd hcd
end
theorem iteF {A B : Prop} (h : B) : if false = true then A else B:=by
 rw [if_neg Bool.false_ne_true]
 exact h
theorem iteT {A B : Prop} (h : A) : if true = true then A else B:=by
 rw [if_pos rfl]
 exact h
theorem ite2 {c A B : Prop} [Decidable c] (h1 : c → A) (h2 : ¬ c → B) : if c then A else B:=by
 by_cases h : c
 ·rw [if_pos h]
  exact h1 h
 ·rw [if_neg h]
  exact h2 h
noncomputable def Same (H H' : Hp) : Prop:=∀ b o, H b = some o → H' b = some o
theorem Same.refl (H : Hp) : Same H H:=fun _ _ h=>h
theorem Same.trans {H H1 H2 : Hp} (a : Same H H1) (b : Same H1 H2) : Same H H2:=fun c o h=>b c o (a c o h)
theorem Same.free {H H' : Hp} (e : Same H H') {l : Addr} (h : H' l = Option.none) : H l = Option.none:=by
 cases q : H l with
 | none=>rfl
 | some o =>
  rw [e l o q] at h
  cases h
theorem Same.seq {K : PySem.W.Frag} {H H' : Hp} {a : Addr} {xs : List V} (e : Same H H') (h : SqL K H a xs) : SqL K H' a xs:=by
 rcases h with (h | ⟨o, h⟩) | h
 ·exact .inl (.inl (e _ _ h))
 ·exact .inl (.inr ⟨o, e _ _ h⟩)
 ·exact .inr h
section
variable {κ : Type} [DecidableEq κ]
theorem zsz : ∀ {l : List κ} {k : κ}, l.Nodup → ¬ k ∈ l → (l ++ [k]).Nodup
 | [], k, _, _=>by simp
 | a :: r, k, h, hk=>by
  obtain ⟨h1, h2⟩:=List.nodup_cons.mp h
  show (a :: (r ++ [k])).Nodup
  refine List.nodup_cons.mpr ⟨fun m=>?_, zsz h2 fun m=>hk (List.mem_cons.mpr (Or.inr m))⟩
  rcases List.mem_append.mp m with q | q
  ·exact h1 q
  ·exact hk (List.mem_cons.mpr (Or.inl (List.mem_singleton.mp q).symm))
end
end L2
set_option maxHeartbeats 4000000
namespace L2
open PySem PySem.Spec PyProof.Rows
noncomputable def clos (cells : List (Str × Addr)) : List (Str × NameKind) → List (Str × Addr) → List (Str × Addr)
 | [], acc=>acc
 | (n, k) :: r, acc=>if k == .free then clos cells r ((n, (cells.lookup n).getD 0) :: acc) else clos cells r acc
theorem zov {cells : List (Str × Addr)} : ∀ {names : List (Str × NameKind)} {acc : List (Str × Addr)}, (∀ y ∈ names, y.2 = .free → ∃ c, cells.lookup y.1 = some c) → ∀ p ∈ clos cells names acc, p ∈ acc ∨ ((p.1, NameKind.free) ∈ names ∧ cells.lookup p.1 = some p.2)
 | [], acc, _, p, hp=>.inl hp
 | (n, k) :: r, acc, h, p, hp=>by
  unfold clos at hp
  have hr : ∀ y ∈ r, y.2 = .free → ∃ c, cells.lookup y.1 = some c:=fun y hy=>h y (List.mem_cons_of_mem _ hy)
  split at hp
  ·rename_i hk
   rcases zov hr p hp with q | q
   ·rcases List.mem_cons.mp q with q | q
    ·subst q
     have hk' : k = .free:=by simpa using hk
     subst hk'
     obtain ⟨c, hc⟩:=h (n, .free) List.mem_cons_self rfl
     exact .inr ⟨List.mem_cons_self, by show cells.lookup n = some ((cells.lookup n).getD 0); rw [hc]; rfl⟩
    ·exact .inl q
   ·exact .inr ⟨List.mem_cons_of_mem _ q.1, q.2⟩
  ·rcases zov hr p hp with q | q
   ·exact .inl q
   ·exact .inr ⟨List.mem_cons_of_mem _ q.1, q.2⟩
theorem zow {cells : List (Str × Addr)} : ∀ {names : List (Str × NameKind)} {acc : List (Str × Addr)}, ∀ p ∈ acc, p ∈ clos cells names acc
 | [], acc, p, hp=>hp
 | (n, k) :: r, acc, p, hp=>by
  unfold clos
  split
  ·exact zow p (List.mem_cons_of_mem _ hp)
  ·exact zow p hp
theorem zox {cells : List (Str × Addr)} {x : Str} : ∀ {names : List (Str × NameKind)} {acc : List (Str × Addr)}, (x, NameKind.free) ∈ names → ∃ c, (x, c) ∈ clos cells names acc
 | [], _, h=>by simp at h
 | (n, k) :: r, acc, h=>by
  unfold clos
  rcases List.mem_cons.mp h with e | h
  ·cases e
   rw [if_pos (show (NameKind.free == NameKind.free) = true by decide)]
   exact ⟨_, zow _ List.mem_cons_self⟩
  ·split
   ·exact zox h
   ·exact zox h
theorem zji {α : Type} {x : Str} {c : α} : ∀ {l : List (Str × α)}, (x, c) ∈ l → ∃ c', l.lookup x = some c'
 | [], h=>by simp at h
 | (k, v) :: r, h=>by
  rw [List.lookup_cons]
  cases hb : x == k with
  | true=>exact ⟨v, rfl⟩
  | false =>
   rcases List.mem_cons.mp h with e | h
   ·cases e; simp at hb
   ·exact zji h
theorem zjj {scope : Scope} {env : Env} (h : ∀ y ∈ scope.names, y.2 = .free → ∃ c, env.cells.lookup y.1 = some c) : closureFor scope env = pure (clos env.cells scope.names []):=by
 unfold closureFor
 have key : ∀ (names : List (Str × NameKind)) (acc : List (Str × Addr)), (∀ y ∈ names, y.2 = .free → ∃ c, env.cells.lookup y.1 = some c) →
   (forIn names acc (fun (x : Str × NameKind) (r : List (Str × Addr))=>(if (x.2 == .free) = true then (do let a ← cellOf env x.1; pure (ForInStep.yield ((x.1, a) :: r))) else pure (ForInStep.yield r) : Sem (ForInStep (List (Str × Addr)))))) = pure (clos env.cells names acc):=by
  intro names
  induction names with
  | nil=>intro acc _; rfl
  | cons y r ih =>
   intro acc hy
   obtain ⟨n, k⟩:=y
   have hr:=fun y (hm : y ∈ r)=>hy y (List.mem_cons_of_mem _ hm)
   rw [List.forIn_cons]
   unfold clos
   cases hk : (k == NameKind.free) with
   | true =>
    have hk' : k = .free:=by simpa using hk
    subst hk'
    obtain ⟨c, hc⟩:=hy (n, .free) List.mem_cons_self rfl
    have e1 : cellOf env n = pure c:=by unfold cellOf; rw [hc]
    simp only [if_true]
    have hc' : env.cells.lookup n = some c:=hc
    rw [e1, hc']
    simp only [pure_bind, Option.getD_some]
    exact ih _ hr
   | false =>
    simp only [Bool.false_eq_true, if_false, pure_bind]
    exact ih _ hr
 simpa using key scope.names [] h
theorem zfa : ∀ (names : List (Str × NameKind)) (n : Nat) (acc : List (Str × Addr)), cellsFrom n names acc = cellsFrom n names [] ++ acc
 | [], _, _=>rfl
 | (name, kind) :: r, n, acc=>by
  unfold cellsFrom
  split
  ·rw [zfa r (n + 1) ((name, n) :: acc), zfa r (n + 1) [(name, n)], List.append_assoc]; rfl
  ·exact zfa r n acc
theorem zfb {x : Str} {c : Addr} : ∀ (names : List (Str × NameKind)) (n : Nat) (acc : List (Str × Addr)), (x, c) ∈ cellsFrom n names acc → (x, c) ∈ acc ∨ (x, NameKind.cell) ∈ names
 | [], _, _, h=>.inl h
 | (name, kind) :: r, n, acc, h=>by
  unfold cellsFrom at h
  split at h
  ·rename_i hk
   have hk' : kind = .cell:=by simpa using hk
   subst hk'
   rcases zfb r _ _ h with q | q
   ·rcases List.mem_cons.mp q with q | q
    ·cases q; exact .inr List.mem_cons_self
    ·exact .inl q
   ·exact .inr (List.mem_cons_of_mem _ q)
  ·rcases zfb r _ _ h with q | q
   ·exact .inl q
   ·exact .inr (List.mem_cons_of_mem _ q)
theorem zil {α : Type} {x : Str} : ∀ {l r : List (Str × α)}, (l ++ r).lookup x = (l.lookup x).or (r.lookup x)
 | [], _=>by simp
 | (k, v) :: l, r=>by
  rw [List.cons_append, List.lookup_cons, List.lookup_cons]
  cases x == k with
  | true=>rfl
  | false=>exact zil
theorem zel {env : Env} {x : Str} {k' : NameKind} : ∀ {names : List (Str × NameKind)},
  (names.map fun (n, k)=>if (k == NameKind.free && env.scope.kind == .function && env.kindOf n == some .cell) then (n, NameKind.cell) else (n, k)).lookup x = some k' →
  ∃ k, names.lookup x = some k ∧ (k' = k ∨ (k = .free ∧ k' = .cell))
 | [], h=>by simp at h
 | (n, k) :: r, h=>by
  rw [List.map_cons] at h
  by_cases hc : (k == NameKind.free && env.scope.kind == .function && env.kindOf n == some .cell) = true
  ·simp only [hc, if_true] at h
   rw [List.lookup_cons] at h ⊢
   cases hx : x == n with
   | true =>
    rw [hx] at h
    have hk : k = .free:=by simp at hc; exact hc.1.1
    exact ⟨k, rfl, .inr ⟨hk, (Option.some.inj h).symm⟩⟩
   | false=>rw [hx] at h; exact zel h
  ·simp only [hc, Bool.false_eq_true, if_false] at h
   rw [List.lookup_cons] at h ⊢
   cases hx : x == n with
   | true=>rw [hx] at h; exact ⟨k, rfl, .inl (Option.some.inj h).symm⟩
   | false=>rw [hx] at h; exact zel h
theorem zhl {env : Env} {x : Str} : ∀ {names : List (Str × NameKind)}, names.lookup x = some .free →
  ((names.map fun (n, k)=>if (k == NameKind.free && env.scope.kind == .function && env.kindOf n == some .cell) then (n, NameKind.cell) else (n, k)).lookup x = some .free ∨
   (names.map fun (n, k)=>if (k == NameKind.free && env.scope.kind == .function && env.kindOf n == some .cell) then (n, NameKind.cell) else (n, k)).lookup x = some .cell)
 | [], h=>by simp at h
 | (n, k) :: r, h=>by
  rw [List.map_cons]
  rw [List.lookup_cons] at h
  by_cases hc : (k == NameKind.free && env.scope.kind == .function && env.kindOf n == some .cell) = true
  ·simp only [hc, if_true]
   rw [List.lookup_cons]
   cases hx : x == n with
   | true=>exact .inr rfl
   | false=>rw [hx] at h; exact zhl h
  ·simp only [hc, Bool.false_eq_true, if_false]
   rw [List.lookup_cons]
   cases hx : x == n with
   | true=>rw [hx] at h; exact .inl h
   | false=>rw [hx] at h; exact zhl h
theorem zvz {M : Model} {A : Around} {E : Value → Shared → Prop} {s : Shared} {scope : Scope} {globals : Addr} {cl : List (Str × Addr)} {qual : Str} {env : Env} {Q : Env → Shared → Prop}
  (hQ : ∀ h', (∀ b o, s.heap.get? b = some o → h'.get? b = some o) → h'.Ns s.heap.objs.size (fun _=>none) → (∀ n c, (n, c) ∈ cellsFrom (s.heap.objs.size + 1) scope.names [] → h'.IsCell c none ∧ s.heap.objs.size + 1 ≤ c) →
   ((cellsFrom (s.heap.objs.size + 1) scope.names []).Pairwise fun x y=>x.2 ≠ y.2) →
   Q { scope:=scope, locals:=s.heap.objs.size, globals:=globals, cells:=cellsFrom (s.heap.objs.size + 1) scope.names [] ++ cl, qual:=qual, func:=none, code:=env.code, frame:=env.frame, builtins:=env.builtins } { s with heap:=h' }) :
  wpAny M A (newFunctionEnv scope globals cl [] qual none .none (some env)) Q E s:=by
 simp only [newFunctionEnv, Option.isSome_some, if_true]
 refine wpAny_bind (wpAny_alloc ?_)
 refine wpAny_bind (wpAny_layCells _ (fun name kind cells=>by cases hkc : kind == NameKind.cell <;> simp [hkc]) _ _ _ _ ?_)
 have ok:=cellsFrom_ok scope.names (s.heap.push { cls:=.type "dict", data:=.dict #[] }) (s.heap.objs.size + 1) [] ⟨fun _ _ hm=>(nomatch hm), List.Pairwise.nil⟩ (by rw [Heap.size_push]; exact Nat.le_refl _)
 rw [Heap.size_push] at ok
 rw [show ({ s with heap:=s.heap.push { cls:=.type "dict", data:=.dict #[] } } : Shared).heap.objs.size = s.heap.objs.size + 1 from Heap.size_push ..]
 rw [zfa]
 refine wpAny_bind ?_
 refine wpAny_pure (wpAny_pure ?_)
 exact hQ _ (fun b o e=>pushCells_keeps _ _ b o (Heap.get?_push_of_some _ e)) ((Heap.Ns.new s.heap (.type "dict")).keeps (pushCells_keeps _ _)) ok.empty ok.apart
end L2
namespace L2
open PySem PySem.Spec PyProof.Rows
noncomputable def cxComp (X : Cx) (scope : Scope) (N' own : List Str) (cl : List (Str × Addr)) (C : Addr) (s : Shared) (H : Hp) (fp : List Addr) : Cx :=
 { X with N:=N', s₀:=s, H₀:=H, env:=compEnvC scope cl C X.env, outer:=X.stack, stack:=X.stack, ex:=fp, fn:=fun x=>own.contains x, pn:=[], xe:=fun _ _=>False }
structure CompOk (X : Cx) (scope : Scope) (N' own : List Str) (fr : List Nat) : Prop where
 kind : scope.kind = .function
 names : ∀ y ∈ scope.names, scope.names.lookup y.1 = some y.2
 up : ∀ y ∈ scope.names, y.2 = .free → (X.env.kindOf y.1 = some .cell ∨ X.env.kindOf y.1 = some .free)
 nm : N' = own ++ fr.map (fun j=>X.N.getD j Str.empty)
 fr : ∀ j ∈ fr, j < X.N.length ∧ scope.names.lookup (X.N.getD j Str.empty) = some .free
 own : ∀ x ∈ own, scope.names.lookup x = some .local ∨ scope.names.lookup x = some .cell
noncomputable def tau (own : List Str) (fr : List Nat) (σ : St) : St:=own.map (fun _=>none) ++ fr.map (fun j=>σ.getD j none)
section
variable {X : Cx} {pins : List (Addr × Obj)} {σ : St} {H : Hp} {s : Shared} {scope : Scope} {N' own : List Str} {fr : List Nat}
theorem zkb (c : CompOk X scope N' own fr) (ok : X.Ok) : ∀ y ∈ scope.names, y.2 = .free → ∃ a, X.env.cells.lookup y.1 = some a:=fun y hy e=>ok.has y.1 (c.up y hy e)
theorem zabe {fp : List Addr} {h' : Heap} (c : CompOk X scope N' own fr) (I : Inv X pins σ H s)
  (hf : ∀ b ∈ fp, FpOk X pins H b) (ho : ∀ b ∈ fp, ∃ o, s.heap.get? b = some o ∧ ∀ v, o.data ≠ .cell v)
  (keep : ∀ b o, s.heap.get? b = some o → h'.get? b = some o) (ns : h'.Ns s.heap.objs.size (fun _=>none))
  (cells : ∀ n c, (n, c) ∈ cellsFrom (s.heap.objs.size + 1) scope.names [] → h'.IsCell c none ∧ s.heap.objs.size + 1 ≤ c)
  (apart : (cellsFrom (s.heap.objs.size + 1) scope.names []).Pairwise fun x y=>x.2 ≠ y.2) :
  Inv (cxComp X scope N' own (cellsFrom (s.heap.objs.size + 1) scope.names [] ++ clos X.env.cells scope.names []) s.heap.objs.size s H fp) [] (tau own fr σ) H { s with heap:=h' }:=by
 have found:=zkb c I.ok
 have clm : ∀ x a, (x, a) ∈ clos X.env.cells scope.names [] → (x, NameKind.free) ∈ scope.names ∧ X.env.cells.lookup x = some a:=fun x a hm=>by
  rcases zov found (x, a) hm with q | q
  ·simp at q
  ·exact q
 have look : ∀ x a, (cellsFrom (s.heap.objs.size + 1) scope.names [] ++ clos X.env.cells scope.names []).lookup x = some a →
   ((x, a) ∈ cellsFrom (s.heap.objs.size + 1) scope.names [] ∧ (x, NameKind.cell) ∈ scope.names) ∨ ((x, NameKind.free) ∈ scope.names ∧ X.env.cells.lookup x = some a):=fun x a e=>by
  rw [zil] at e
  cases q : (cellsFrom (s.heap.objs.size + 1) scope.names []).lookup x with
  | some b =>
   rw [q] at e
   cases e
   have hm:=PySem.mem_of_lookup q
   rcases zfb _ _ _ hm with z | z
   ·simp at z
   ·exact .inl ⟨hm, z⟩
  | none =>
   rw [q] at e
   exact .inr (clm x a (PySem.mem_of_lookup e))
 have lookF : ∀ x a, (x, NameKind.free) ∈ scope.names → X.env.cells.lookup x = some a → (cellsFrom (s.heap.objs.size + 1) scope.names [] ++ clos X.env.cells scope.names []).lookup x = some a:=fun x a hx e=>by
  rw [zil]
  have q : (cellsFrom (s.heap.objs.size + 1) scope.names []).lookup x = none:=by
   cases q : (cellsFrom (s.heap.objs.size + 1) scope.names []).lookup x with
   | none=>rfl
   | some b =>
    rcases zfb _ _ _ (PySem.mem_of_lookup q) with z | z
    ·simp at z
    ·have h1:=c.names _ hx
     have h2:=c.names _ z
     rw [h1] at h2
     cases h2
  rw [q]
  obtain ⟨d, hd⟩:=zox (cells:=X.env.cells) (acc:=[]) hx
  obtain ⟨d', hd'⟩:=zji hd
  have:=(clm x d' (PySem.mem_of_lookup hd')).2
  rw [e] at this
  cases this
  exact hd'
 have below : ∀ b o, s.heap.get? b = some o → b < s.heap.objs.size:=fun b o e=>Heap.lt_size e
 have cold : ∀ x a, X.env.cells.lookup x = some a → a < s.heap.objs.size:=fun x a e=>let ⟨v, q⟩:=I.cell x a e; q.lt
 refine ⟨⟨I.ok.mod, c.kind, I.ok.glob, I.ok.blt, Nat.le_refl _, ?inj, ?has, ?cab, I.ok.hd, I.ok.frames, .inl rfl, ?exf, I.bs, Nat.le_trans I.ok.bsz I.sz, ?noex, ?exfs, I.stack, I.stkFree⟩,
  rfl, I.bare, Un.kept keep, ⟨_, ns, ?loc⟩, ?cell, I.hok.fresh (Nat.le_refl _), ?freeC, ?pin, I.hok.kept keep, ?len⟩
 case inj =>
  intro x y a h1 h2
  rcases look x a h1 with ⟨m1, k1⟩ | ⟨k1, e1⟩ <;> rcases look y a h2 with ⟨m2, k2⟩ | ⟨k2, e2⟩
  ·exact name_of_addr apart m1 m2
  ·exact absurd (Nat.lt_of_lt_of_le (cold y a e2) (Nat.le_of_succ_le (cells x a m1).2)) (Nat.lt_irrefl _)
  ·exact absurd (Nat.lt_of_lt_of_le (cold x a e1) (Nat.le_of_succ_le (cells y a m2).2)) (Nat.lt_irrefl _)
  ·exact I.ok.inj x y a e1 e2
 case has =>
  intro x hx
  have hx' : (∃ k, scope.names.lookup x = some k ∧ (k = .cell ∨ k = .free)):=by
   rcases hx with hx | hx
   ·obtain ⟨k, e, q⟩:=zel (env:=X.env) (names:=scope.names) hx
    rcases q with q | ⟨q, _⟩
    ·exact ⟨k, e, .inl q.symm⟩
    ·exact ⟨k, e, .inr q⟩
   ·obtain ⟨k, e, q⟩:=zel (env:=X.env) (names:=scope.names) hx
    rcases q with q | ⟨q, _⟩
    ·exact ⟨k, e, .inr q.symm⟩
    ·exact ⟨k, e, .inr q⟩
  obtain ⟨k, e, q⟩:=hx'
  show ∃ a, (cellsFrom (s.heap.objs.size + 1) scope.names [] ++ clos X.env.cells scope.names []).lookup x = some a
  rcases q with rfl | rfl
  ·obtain ⟨a, ha⟩:=zor (n:=s.heap.objs.size + 1) e
   exact ⟨a, by rw [zil, ha]; rfl⟩
  ·obtain ⟨a, ha⟩:=found _ (PySem.mem_of_lookup e) rfl
   exact ⟨a, lookF x a (PySem.mem_of_lookup e) ha⟩
 case cab =>
  intro x a hx e
  have hx : own.contains x = true:=hx
  have hx' : x ∈ own:=by simpa using hx
  rcases look x a e with ⟨m1, _⟩ | ⟨k1, _⟩
  ·have:=(cells x a m1).2
   show s.heap.objs.size ≤ a
   omega
  ·have h1:=c.names _ k1
   rcases c.own x hx' with h2 | h2
   ·rw [h1] at h2; cases h2
   ·rw [h1] at h2; cases h2
 case exf =>
  intro b hb
  obtain ⟨o, e, d⟩:=ho b hb
  refine ⟨Nat.ne_of_lt (below b o e), fun x a q z=>?_⟩
  subst z
  rcases look x a q with ⟨m1, _⟩ | ⟨k1, e1⟩
  ·exact absurd (Nat.lt_of_lt_of_le (below a o e) (Nat.le_of_succ_le (cells x a m1).2)) (Nat.lt_irrefl _)
  ·obtain ⟨v, o', e', d'⟩:=I.cell x a e1
   rw [e] at e'
   cases e'
   exact d v d'
 case noex =>
  intro b o e hb
  rcases (hf b hb).2.2.2.1 with z | z
  ·exact I.ok.noex b o e z
  ·exact absurd (Nat.lt_of_lt_of_le (Nat.lt_of_lt_of_le (Heap.lt_size e) I.ok.bsz) z) (Nat.lt_irrefl _)
 case exfs =>
  intro b hb z
  rcases List.mem_cons.mp (I.stkSub b z) with q | q
  ·exact (hf b hb).2.1 q
  ·exact (hf b hb).2.2.1 q
 case loc =>
  intro i x v h1 h2 h3
  have h1 : N'[i]? = some x:=h1
  rw [c.nm] at h1
  unfold tau at h2
  by_cases hi : i < own.length
  ·rw [List.getElem?_append_left (by simpa using hi), List.getElem?_map] at h2
   cases q : own[i]? with
   | none=>rw [q] at h2; cases h2
   | some z=>rw [q] at h2; cases h2
  ·rw [List.getElem?_append_right (by simpa using hi), List.getElem?_map, List.length_map] at h2
   rw [List.getElem?_append_right (by simpa using hi), List.getElem?_map] at h1
   cases q : fr[i - own.length]? with
   | none=>rw [q] at h2; cases h2
   | some j =>
    rw [q] at h1 h2
    have e1 : X.N.getD j Str.empty = x:=Option.some.inj h1
    have e2 : σ.getD j none = some v:=Option.some.inj h2
    obtain ⟨hj, hfree⟩:=c.fr j (List.mem_of_getElem? q)
    rw [e1] at hfree
    have hNj : X.N[j]? = some x:=by
     rw [← e1, List.getD_eq_getElem?_getD, List.getElem?_eq_getElem hj]; rfl
    have hσj : σ[j]? = some (some v):=by
     rw [List.getD_eq_getElem?_getD] at e2
     cases z : σ[j]? with
     | none=>rw [z] at e2; cases e2
     | some w=>rw [z] at e2; rw [show w = some v from e2]
    have hmem : (x, NameKind.free) ∈ scope.names:=PySem.mem_of_lookup hfree
    have hup:=c.up _ hmem rfl
    obtain ⟨m, hn, hl⟩:=I.loc
    obtain ⟨u, ru, lk⟩:=hl j x v hNj hσj (by rcases hup with z | z; exact .inr (.inl z); exact .inr (.inr z))
    refine ⟨u, ru, .inr ⟨?_, ?_⟩⟩
    ·rcases zhl (env:=X.env) (names:=scope.names) hfree with z | z
     ·exact .inr z
     ·exact .inl z
    ·rcases lk with ⟨k1, _⟩ | ⟨_, a, ha, hc⟩
     ·rcases hup with z | z
      ·rw [show X.env.kindOf x = some .cell from z] at k1; cases k1
      ·rw [show X.env.kindOf x = some .free from z] at k1; cases k1
     ·exact ⟨a, lookF x a hmem ha, hc.keeps keep⟩
 case cell =>
  intro x a e
  rcases look x a e with ⟨m1, _⟩ | ⟨k1, e1⟩
  ·exact ⟨_, (cells x a m1).1⟩
  ·obtain ⟨v, q⟩:=I.cell x a e1
   exact ⟨v, q.keeps keep⟩
 case freeC =>
  intro x a e
  rcases look x a e with ⟨m1, _⟩ | ⟨k1, e1⟩
  ·exact I.hok.fresh (by have:=(cells x a m1).2; omega)
  ·exact I.freeC x a e1
 case pin=>intro p hp; exact absurd (show p ∈ ([] : List (Addr × Obj)) from hp) (by simp)
 case len =>
  show (tau own fr σ).length = N'.length
  rw [c.nm]; unfold tau; simp
end
end L2
namespace L2
open PySem PySem.Spec PyProof.Rows
noncomputable abbrev TM:=St → Hp → (St → Hp → Prop) → Prop
noncomputable def PM (X : Cx) (act : Sem Unit) (t : TM) : Prop :=
 ∀ (pins : List (Addr × Obj)) (s : Shared) (σ : St) (H : Hp) (Q : St → Hp → Prop), Inv X pins σ H s → t σ H Q → wpAny (model X.prog X.w) X.A act (fun _ s'=>∃ σ' H', Inv X pins σ' H' s' ∧ Q σ' H') X.xe s
noncomputable def PF (X : Cx) (ifs : List Expr) (t : TT) : Prop :=
 ∀ (pins : List (Addr × Obj)) (s : Shared) (σ : St) (H : Hp) (Q : Bool → Hp → Prop), Inv X pins σ H s → t σ H Q →
  wpAny (model X.prog X.w) X.A (forIn ifs true fun c r=>if r = true then do let ok ← isTrue c X.env (eval c X.env); pure (ForInStep.yield ok) else pure (ForInStep.yield r)) (TP X pins σ Q) X.xe s
noncomputable def tAll : TT:=fun _ H Q=>Q true H
section
variable {X : Cx}
theorem zahr : PF X [] tAll:=fun _ s σ H Q I h=>wpAny_tests_nil ⟨H, I, h⟩
theorem zahs {c : Expr} {t : TT} (h : PT X c t) : PF X [c] t:=fun pins s σ H Q I q=>wpAny_tests_one (h pins s σ H Q I q)
noncomputable def zaeu (p : Addr) (te : TE) : TM:=fun σ H Q=>te σ H fun v H1=>∃ ys, H1 p = some (.lst ys) ∧ ys.length < sizeLine ∧ Q σ (upd H1 p (.lst (ys ++ [v])))
theorem zxo {elt : Expr} {te : TE} {p : Addr} (h : PE X elt te) : PM X (do let _ ← call (.builtin "list.append") [.ref p, ← eval elt X.env]) (zaeu p te):=by
 intro pins s σ H Q I q
 refine wpAny_bind (thn (h pins s σ H _ I q) fun u s1 ⟨v, H1, I1, r, ys, hp, hz, q1⟩=>?_)
 refine wpAny_bind (thn (zcj pins s1 σ H1 (.ref p) [v] (.ref p) [u] (fun _ H2=>Q σ H2) I1 rfl (.cons r .nil) ⟨p, ys, v, rfl, rfl, hp, hz, q1⟩) fun _ s2 ⟨_, H2, I2, _, q2⟩=>?_)
 exact wpAny_pure ⟨σ, H2, I2, q2⟩
noncomputable def zaev (J : It) (g : TG) (tt : TT) (tm : TM) : TM:=fun σ H Q=>∃ W : Nat → Nat → St → Hp → Prop, (∃ m, W 0 m σ H) ∧ ∀ i m σ H, W i m σ H →
 (J.stop i H ∧ Q σ H) ∨ (J.go i H ∧ ∃ N : St → Hp → Prop, (∀ σ' H', N σ' H' → ∃ m', m' < m ∧ W (i + 1) m' σ' H') ∧ ∀ x H', J.yld i H x H' → g x σ H' fun σ2 H2=>tt σ2 H2 fun b H3=>if b = true then tm σ2 H3 N else N σ2 H3)
theorem zta {elt0 : Expr} {gens : List Comprehension} {scope : Scope} {cpos : Pos} {depth : Nat} {target : Expr} {ifs : List Expr} {emit : Sem Unit} {acc : Value} {ip : Pos} {it : Addr} {fp : List Addr} {tn : Nat → Heap → Prop} {J : It} {g : TG} {tt : TT} {tm : TM} {pins : List (Addr × Obj)} {σ : St} {H : Hp} {s : Shared} {Q : St → Hp → Prop}
  (hx : X.xe = fun _ _=>False) (hc : X.calm = true)
  (eq : compTurn (.ListComp elt0 gens scope cpos) depth (.ref it) acc X.env = (do
   standAt ip
   match ← pyNext (.ref it) with
   | none=>pure (.done .next)
   | some v =>
    letOwnedTupleGo target (.ref it) v
    assign target X.env v
    let mut ok:=true
    for c in ifs do
     if ok then ok ← isTrue c X.env (eval c X.env)
    if ok then emit
    again (.compLoop (.ListComp elt0 gens scope cpos) depth (.ref it) acc X.env)))
  (T : Turn X.prog X.w X.K target J fp it tn) (hg : PG X target g) (ht : PF X ifs tt) (hm : PM X emit tm)
  (I : Inv X pins σ H s) (st : tn 0 s.heap) (hf : ∀ b ∈ fp, FpOk X pins H b) (h : zaev J g tt tm σ H Q) :
  codeAny (model X.prog X.w) X.A (.compLoop (.ListComp elt0 gens scope cpos) depth (.ref it) acc X.env) (fun r s'=>r = .ok .next ∧ ∃ σ' H', Inv X pins σ' H' s' ∧ Q σ' H') s:=by
 obtain ⟨W, ⟨m0, w0⟩, turn⟩:=h
 have stat : ∀ {H' : Hp}, (∀ b ∈ fp, H' b = none) → ∀ b ∈ fp, FpOk X pins H' b:=fun hn b hb=>⟨hn b hb, (hf b hb).2⟩
 have xe : ∀ {α : Type} {m : Sem α} {Q' : α → Shared → Prop} {E : Value → Shared → Prop} {s : Shared}, wpAny (model X.prog X.w) X.A m Q' X.xe s → wpAny (model X.prog X.w) X.A m Q' E s:=fun q=>wpAny_mono q (fun _ _ z=>z) fun _ _ z=>by rw [hx] at z; exact z.elim
 refine codeAny_loop rfl (fun n s'=>∃ i σ' H', Inv X pins σ' H' s' ∧ tn i s'.heap ∧ (∀ b ∈ fp, H' b = none) ∧ W i n σ' H') ?_ m0 ⟨0, σ, H, I, st, fun b hb=>(hf b hb).1, w0⟩
 rintro n s3 ⟨i, σ3, H3, I3, st3, fr3, w3⟩
 show wpAny _ X.A ((compTurn (.ListComp elt0 gens scope cpos) depth (.ref it) acc X.env).onRaise (fun x=>do noteFrame x X.env; theTreesLotGoes x)) _ _ s3
 refine wpAny_noted ?_
 rw [eq]
 refine wpAny_bind (wpAny_standAt (wpAny_bind ?_))
 rcases turn i n σ3 H3 w3 with ⟨stop, qn⟩ | ⟨go, N, hN, step⟩
 ·refine thn (T.done X rfl rfl rfl hc i pins s3 σ3 H3 _ I3 (stat fr3) st3 stop) fun r s4 ⟨hr, I4⟩=>?_
  subst hr
  exact wpAny_pure ⟨rfl, σ3, H3, I4, qn⟩
 ·refine thn (T.item X rfl rfl rfl hc i pins s3 σ3 H3 _ I3 (stat fr3) st3 go) fun r s4 ⟨u, hr, h4⟩=>?_
  subst hr
  refine wpAny_bind (thn h4 fun _ s5 ⟨x, H5, I5, r5, y5, st5, fr5⟩=>?_)
  have I5':=I5.pinned (stat fr5) (T.obj _ _ st5)
  refine wpAny_bind (xe (thn (hg _ s5 σ3 H5 x u _ I5' r5 (step x H5 y5)) fun _ s6 ⟨σ6, H6, I6, q6⟩=>?_))
  have again : ∀ {σ7 : St} {H7 : Hp} {s7 : Shared}, Inv X (pins ++ zpv fp s5.heap) σ7 H7 s7 → N σ7 H7 → ∃ m, m < n ∧ ∃ i σ' H', Inv X pins σ' H' s7 ∧ tn i s7.heap ∧ (∀ b ∈ fp, H' b = none) ∧ W i m σ' H':=fun {σ7 H7 s7} I7 n7=>by
   obtain ⟨m', hm, w7⟩:=hN σ7 H7 n7
   refine ⟨m', hm, i + 1, σ7, H7, I7.unpinned, T.keep _ _ _ st5 fun b hb o e=>(I7.pin (b, o) (List.mem_append_right _ (List.mem_append_right _ (zik hb e)))).1, fun b hb=>?_, w7⟩
   obtain ⟨o, e, d⟩:=T.obj _ _ st5 b hb
   exact (I7.pin (b, o) (List.mem_append_right _ (List.mem_append_right _ (zik hb e)))).2.1
  refine wpAny_bind (xe (thn (ht _ s6 σ6 H6 _ I6 q6) fun ok s7 ⟨H7, I7, q7⟩=>?_))
  cases ok with
  | false =>
   rw [if_neg (by decide)] at q7
   exact wpAny_pure ⟨rfl, again I7 q7⟩
  | true =>
   rw [if_pos rfl] at q7
   refine wpAny_bind (xe (thn (hm _ s7 σ6 H7 _ I7 q7) fun _ s8 ⟨σ8, H8, I8, q8⟩=>?_))
   exact wpAny_pure ⟨rfl, again I8 q8⟩
end
end L2
namespace L2
open PySem PySem.Spec PyProof.Rows
section
variable {X : Cx} {pins : List (Addr × Obj)} {σ : St} {H : Hp} {s : Shared} {scope : Scope} {N' own : List Str} {fr : List Nat}
theorem znu {elt0 target iter : Expr} {ifs : List Expr} {rest : List Comprehension} {cpos : Pos} {g : TG} {tt : TT} {tm : Addr → TM} {emit : Value → Env → Sem Unit} {it : Addr} {fp : List Addr} {tn : Nat → Heap → Prop} {J : It} {Q : VK} {E : Value → Shared → Prop} {RR : Value → Addr → Result → Shared → Prop}
  (c : CompOk X scope N' own fr) (hc : X.calm = true)
  (eq : ∀ it acc env, compTurn (.ListComp elt0 (⟨target, iter, ifs, 0⟩ :: rest) scope cpos) 0 it acc env = (do
   standAt iter.pos
   match ← pyNext it with
   | none=>pure (.done .next)
   | some v =>
    letOwnedTupleGo target it v
    assign target env v
    let mut ok:=true
    for c in ifs do
     if ok then ok ← isTrue c env (eval c env)
    if ok then emit acc env
    again (.compLoop (.ListComp elt0 (⟨target, iter, ifs, 0⟩ :: rest) scope cpos) 0 it acc env)))
  (T : Turn X.prog X.w X.K target J fp it tn)
  (hb : ∀ (cl : List (Str × Addr)) (C : Addr) (s : Shared) (H : Hp) (fp : List Addr) (p : Addr), PG (cxComp X scope N' own cl C s H fp) target g ∧ PF (cxComp X scope N' own cl C s H fp) ifs tt ∧ PM (cxComp X scope N' own cl C s H fp) (emit (.ref p) (compEnvC scope cl C X.env)) (tm p))
  (I : Inv X pins σ H s) (st : tn 0 s.heap) (hf : ∀ b ∈ fp, FpOk X pins H b)
  (h : ∀ p, H p = none → zaev J g tt (tm p) (tau own fr σ) (upd H p (.lst [])) (fun _ H'=>Q (.ref p) H'))
  (hRR : ∀ (p C : Addr) (m : Str → Option Value) (H' : Hp) (s' : Shared), Inv X pins σ H' s' → s'.heap.Ns C m → FpOk X pins H' C → Q (.ref p) H' → RR (.ref p) C (.ok .next) s') :
  wpAny (model X.prog X.w) X.A (newList []) (fun acc s₃=>wpAny (model X.prog X.w) X.A (newFunctionEnv scope X.env.globals (clos X.env.cells scope.names []) [] X.env.qual none .none (some X.env)) (fun cenv s₄ =>
   codeAny (model X.prog X.w) X.A (.compStart (.ListComp elt0 (⟨target, iter, ifs, 0⟩ :: rest) scope cpos) 0 (.ref it) acc { cenv with scope:=relabel scope X.env }) (RR acc cenv.locals) s₄) E s₃) E s:=by
 refine wpAny_newObj_type ?_
 have I3 : Inv X pins σ (upd H s.heap.objs.size (.lst [])) { s with heap:=s.heap.push { cls:=.type "list", dict:=none, data:=.seq ([] : List Value).toArray } }:=I.lnew (t':=s.toks) .nil (Nat.zero_le _)
 have hn0 : H s.heap.objs.size = none:=I.hok.fresh (Nat.le_refl _)
 generalize e3 : ({ s with heap:=s.heap.push { cls:=.type "list", dict:=none, data:=.seq ([] : List Value).toArray } } : Shared) = s3 at I3 ⊢
 have k3 : ∀ b o, s.heap.get? b = some o → s3.heap.get? b = some o:=fun b o e=>by rw [← e3]; exact Heap.get?_push_of_some _ e
 have hne : ∀ b ∈ fp, b ≠ s.heap.objs.size:=fun b hb=>by
  obtain ⟨o, e, _⟩:=T.obj _ _ st b hb
  exact Nat.ne_of_lt (Heap.lt_size e)
 have hf3 : ∀ b ∈ fp, FpOk X pins (upd H s.heap.objs.size (.lst [])) b:=fun b hb=>⟨by rw [zbf (hne b hb)]; exact (hf b hb).1, (hf b hb).2⟩
 have st3 : tn 0 s3.heap:=T.keep _ _ _ st fun b _ o e=>k3 b o e
 refine zvz fun h' keep ns cells apart=>?_
 have I4:=zabe c I3 hf3 (T.obj _ _ st3) keep ns cells apart
 have st4 : tn 0 h':=T.keep _ _ _ st3 fun b _ o e=>keep b o e
 obtain ⟨hg, ht, hm⟩:=hb (cellsFrom (s3.heap.objs.size + 1) scope.names [] ++ clos X.env.cells scope.names []) s3.heap.objs.size s3 (upd H s.heap.objs.size (.lst [])) fp s.heap.objs.size
 have hf4 : ∀ b ∈ fp, FpOk (cxComp X scope N' own (cellsFrom (s3.heap.objs.size + 1) scope.names [] ++ clos X.env.cells scope.names []) s3.heap.objs.size s3 (upd H s.heap.objs.size (.lst [])) fp) [] (upd H s.heap.objs.size (.lst [])) b:=fun b hb =>
  ⟨(hf3 b hb).1, (I4.ok.exf b hb).1, I4.ok.exfs b hb, .inl hb, (I4.ok.exf b hb).2, fun p hp=>absurd (show p ∈ ([] : List (Addr × Obj)) from hp) (by simp)⟩
 have loop : codeAny (model X.prog X.w) X.A (.compLoop (.ListComp elt0 (⟨target, iter, ifs, 0⟩ :: rest) scope cpos) 0 (.ref it) (.ref s.heap.objs.size) (compEnvC scope (cellsFrom (s3.heap.objs.size + 1) scope.names [] ++ clos X.env.cells scope.names []) s3.heap.objs.size X.env)) (RR (.ref s.heap.objs.size) s3.heap.objs.size) { s3 with heap:=h' }:=by
  refine codeAny_mono (zta (X:=cxComp X scope N' own (cellsFrom (s3.heap.objs.size + 1) scope.names [] ++ clos X.env.cells scope.names []) s3.heap.objs.size s3 (upd H s.heap.objs.size (.lst [])) fp) (pins:=[]) rfl hc (eq _ _ _) T hg ht hm I4 st4 hf4 (h _ hn0)) fun r s5 hr=>?_
  obtain ⟨rfl, σ5, H5, I5, q5⟩:=hr
  obtain ⟨m, hn, _⟩:=id I5.loc
  have u5 : Un (frs X.stack) fp (upd H s.heap.objs.size (.lst [])) H5 s3.heap s5.heap:=I5.base
  have hok5 : HOk X.prog X.w H5 s5.heap:=I5.hok
  have os5 : s5.os = s3.os:=I5.os
  have bare5:=I5.bare
  have free5 : H5 s3.heap.objs.size = none:=I5.free
  have hn : s5.heap.Ns s3.heap.objs.size m:=hn
  clear I5
  obtain ⟨hh, gg, dd, tk, os'⟩:=s5
  obtain rfl : os' = s3.os:=os5
  have I6 : Inv X pins σ H5 { s3 with heap:=hh, gens:=gg, drawn:=dd, toks:=tk }:=I3.call (ch:=fp) u5 hok5 bare5 fun b hb=>⟨(hf3 b hb).2.2.2.1, (hf3 b hb).2.1, (hf3 b hb).2.2.2.2.1, (hf3 b hb).2.2.2.2.2⟩
  exact hRR _ _ m H5 _ I6 hn (I3.fpOk (Nat.le_refl _) free5) q5
 exact codeAny_compStart_list loop (T.self _ 0 _ _ _ st4 loop)
noncomputable def zaew (wi : TI) (g : TG) (tt : TT) (tm : Addr → TM) (own : List Str) (fr : List Nat) : TE:=fun σ H Q=>wi σ H fun J H1=>∀ p, H1 p = none → zaev J g tt (tm p) (tau own fr σ) (upd H1 p (.lst [])) (fun _ H'=>Q (.ref p) H')
theorem zabf {elt0 target iter : Expr} {ifs : List Expr} {rest : List Comprehension} {cpos : Pos} {wi : TI} {g : TG} {tt : TT} {tm : Addr → TM} {emit : Value → Env → Sem Unit} (c : CompOk X scope N' own fr) (hc : X.calm = true)
  (eq : ∀ it acc env, compTurn (.ListComp elt0 (⟨target, iter, ifs, 0⟩ :: rest) scope cpos) 0 it acc env = (do
   standAt iter.pos
   match ← pyNext it with
   | none=>pure (.done .next)
   | some v =>
    letOwnedTupleGo target it v
    assign target env v
    let mut ok:=true
    for c in ifs do
     if ok then ok ← isTrue c env (eval c env)
    if ok then emit acc env
    again (.compLoop (.ListComp elt0 (⟨target, iter, ifs, 0⟩ :: rest) scope cpos) 0 it acc env)))
  (hi : PI X target iter wi)
  (hb : ∀ (cl : List (Str × Addr)) (C : Addr) (s : Shared) (H : Hp) (fp : List Addr) (p : Addr), PG (cxComp X scope N' own cl C s H fp) target g ∧ PF (cxComp X scope N' own cl C s H fp) ifs tt ∧ PM (cxComp X scope N' own cl C s H fp) (emit (.ref p) (compEnvC scope cl C X.env)) (tm p))
  (hs : ∀ x, foldedSetIterable iter X.env x = pure x:=by intro _; rfl) :
  PE X (.ListComp elt0 (⟨target, iter, ifs, 0⟩ :: rest) scope cpos) (zaew wi g tt tm own fr):=by
 intro pins s σ H Q I h
 rw [eval_ListComp]
 refine wpAny_comprehension_free (use:=none) rfl hs (zjj (zkb c I.ok)) c.kind (fun y hy e=>(c.names y hy).trans (by rw [e])) ?_
 refine thn (hi pins s σ H _ I h) fun v s1 h1=>thn h1 fun itv s2 h2=>?_
 obtain ⟨it, fp, tn, J, H2, e, I2, T, st2, f2, q⟩:=h2
 subst e
 refine znu (Q:=Q) c hc eq T hb I2 st2 f2 q fun p C m H' s' I' hn hC q'=>?_
 exact ⟨m, hn, fun h' sb=>⟨.ref p, H', I'.turned (t':=s'.toks) (fun b o hb e=>(sb.2 b hb).trans e) hC.1 hC.2.1 hC.2.2.2.1 hC.2.2.2.2.1 hC.2.2.2.2.2, rfl, q'⟩⟩
noncomputable def zaht (wi : TI) (g : TG) (tt : TT) (tm : Addr → TM) (own : List Str) (fr : List Nat) (i : Nat) : TS:=fun D σ H=>zaew wi g tt tm own fr σ H fun v H'=>D.nx (σ.set i (some v)) H'
theorem zabg {elt0 target iter : Expr} {ifs : List Expr} {rest : List Comprehension} {cpos spos py : Pos} {wi : TI} {g : TG} {tt : TT} {tm : Addr → TM} {emit : Value → Env → Sem Unit} {i : Nat} {y : Str} (c : CompOk X scope N' own fr) (hc : X.calm = true)
  (eq : ∀ it acc env, compTurn (.ListComp elt0 (⟨target, iter, ifs, 0⟩ :: rest) scope cpos) 0 it acc env = (do
   standAt iter.pos
   match ← pyNext it with
   | none=>pure (.done .next)
   | some v =>
    letOwnedTupleGo target it v
    assign target env v
    let mut ok:=true
    for c in ifs do
     if ok then ok ← isTrue c env (eval c env)
    if ok then emit acc env
    again (.compLoop (.ListComp elt0 (⟨target, iter, ifs, 0⟩ :: rest) scope cpos) 0 it acc env)))
  (hi : PI X target iter wi)
  (hb : ∀ (cl : List (Str × Addr)) (C : Addr) (s : Shared) (H : Hp) (fp : List Addr) (p : Addr), PG (cxComp X scope N' own cl C s H fp) target g ∧ PF (cxComp X scope N' own cl C s H fp) ifs tt ∧ PM (cxComp X scope N' own cl C s H fp) (emit (.ref p) (compEnvC scope cl C X.env)) (tm p))
  (hsw : swapsWith (.ListComp elt0 (⟨target, iter, ifs, 0⟩ :: rest) scope cpos) (some (.Name y py)) spos.line X.env = pure true)
  (hN : X.N.Nodup) (hy : X.N[i]? = some y) (hl : X.env.scope.names.lookup y = some .local)
  (hs : ∀ x, foldedSetIterable iter X.env x = pure x:=by intro _; rfl) :
  PS X (.Assign [.Name y py] (.ListComp elt0 (⟨target, iter, ifs, 0⟩ :: rest) scope cpos) spos) (zaht wi g tt tm own fr i):=by
 intro pins s σ H D I h
 rw [exec_Assign_Name_used _ _ _ _ hsw]
 refine wpAny_bind (wpAny_standAt (wpAny_bind ?_))
 show wpAny _ X.A (do let _ ← comprehension (.ListComp elt0 (⟨target, iter, ifs, 0⟩ :: rest) scope cpos) scope X.env _ (newList []) false (eval iter X.env) (some (assign (.Name y py) X.env))) _ _ s
 refine wpAny_bind (thn (wpAny_comprehension_free (use:=some (assign (.Name y py) X.env)) (Q:=fun _ s'=>SP X pins D .next s') rfl hs (zjj (zkb c I.ok)) c.kind (fun y hy e=>(c.names y hy).trans (by rw [e])) ?_) fun _ s' q=>wpAny_pure (wpAny_pure q))
 refine thn (hi pins s σ H _ I h) fun v s1 h1=>thn h1 fun itv s2 h2=>?_
 obtain ⟨it, fp, tn, J, H2, e, I2, T, st2, f2, q⟩:=h2
 subst e
 refine znu (Q:=fun v H'=>D.nx (σ.set i (some v)) H') c hc eq T hb I2 st2 f2 q fun p C m H' s' I' hn hC q'=>?_
 show wpAny _ X.A (assign (.Name y py) X.env (.ref p)) _ _ _
 refine wpAny_assign_Name (zpr I' hN hy (.inl hl) (v:=.ref p) rfl (fun s'' I'' ⟨a, sb, ha⟩=>?_) (.inr hl))
 have hCa : C ≠ a:=by
  rcases ha with rfl | ha
  ·exact hC.2.1
  ·exact Ne.symm (hC.2.2.2.2.1 y a ha)
 refine ⟨m, hn.sameBut sb hCa, fun h' sb'=>⟨σ.set i (some (.ref p)), H', I''.turned (t':=s''.toks) (fun b o hb e=>(sb'.2 b hb).trans e) hC.1 hC.2.1 hC.2.2.2.1 hC.2.2.2.2.1 hC.2.2.2.2.2, q'⟩⟩
end
end L2
namespace L2
open PySem PySem.Spec PyProof.Rows
section
variable {X : Cx}
section
variable {scope : Scope} {N' own : List Str} {fr : List Nat} {elt target iter : Expr} {ifs : List Expr} {cpos : Pos} {wi : TI} {g : TG} {tt : TT} {te : TE}
noncomputable def tComp1 (wi : TI) (g : TG) (tt : TT) (te : TE) (own : List Str) (fr : List Nat) : TE:=zaew wi g tt (fun p=>zaeu p te) own fr
theorem zabh (c : CompOk X scope N' own fr) (hc : X.calm = true) (hi : PI X target iter wi)
  (hb : ∀ (cl : List (Str × Addr)) (C : Addr) (s : Shared) (H : Hp) (fp : List Addr), PG (cxComp X scope N' own cl C s H fp) target g ∧ PF (cxComp X scope N' own cl C s H fp) ifs tt ∧ PE (cxComp X scope N' own cl C s H fp) elt te)
  (hs : ∀ x, foldedSetIterable iter X.env x = pure x:=by intro _; rfl) : PE X (.ListComp elt [⟨target, iter, ifs, 0⟩] scope cpos) (tComp1 wi g tt te own fr) :=
 zabf (emit:=fun acc env=>do let _ ← call (.builtin "list.append") [acc, ← eval elt env]) c hc (fun _ _ _=>rfl) hi
  (fun cl C s H fp p=>⟨(hb cl C s H fp).1, (hb cl C s H fp).2.1, zxo (hb cl C s H fp).2.2⟩) hs
noncomputable def tAsgC1 (wi : TI) (g : TG) (tt : TT) (te : TE) (own : List Str) (fr : List Nat) (i : Nat) : TS:=zaht wi g tt (fun p=>zaeu p te) own fr i
theorem zabi {spos py : Pos} {i : Nat} {y : Str} (c : CompOk X scope N' own fr) (hc : X.calm = true) (hi : PI X target iter wi)
  (hb : ∀ (cl : List (Str × Addr)) (C : Addr) (s : Shared) (H : Hp) (fp : List Addr), PG (cxComp X scope N' own cl C s H fp) target g ∧ PF (cxComp X scope N' own cl C s H fp) ifs tt ∧ PE (cxComp X scope N' own cl C s H fp) elt te)
  (hsw : swapsWith (.ListComp elt [⟨target, iter, ifs, 0⟩] scope cpos) (some (.Name y py)) spos.line X.env = pure true)
  (hN : X.N.Nodup) (hy : X.N[i]? = some y) (hl : X.env.scope.names.lookup y = some .local)
  (hs : ∀ x, foldedSetIterable iter X.env x = pure x:=by intro _; rfl) : PS X (.Assign [.Name y py] (.ListComp elt [⟨target, iter, ifs, 0⟩] scope cpos) spos) (tAsgC1 wi g tt te own fr i) :=
 zabg (emit:=fun acc env=>do let _ ← call (.builtin "list.append") [acc, ← eval elt env]) c hc (fun _ _ _=>rfl) hi
  (fun cl C s H fp p=>⟨(hb cl C s H fp).1, (hb cl C s H fp).2.1, zxo (hb cl C s H fp).2.2⟩) hsw hN hy hl hs
end
noncomputable def zaiz : R2:=fun x y H Q=>∃ z n, x = .str z ∧ y = .int n ∧ z.length ≤ 1000 ∧ -1000 ≤ n ∧ n ≤ 1000 ∧ Q (.str (Txt.mul z n)) H
theorem zaex : OpR X (binaryOp .Mult) zaiz:=by
 intro pins s σ H x y v u Q I rx ry h
 obtain ⟨z, n, rfl, rfl, h1, h2, h3, q⟩:=h
 obtain ⟨t, rfl⟩:=rx
 obtain ⟨t', rfl⟩:=ry
 exact SB.mul (mulOk_of 1000 1000 h1 (by omega) (by omega) (by decide) (by decide)) fun t' k=>⟨.str (Txt.mul z n), H, I.tok _, ⟨_, rfl⟩, q⟩
noncomputable def rSlS : V → Option Int → Option Int → Hp → VK → Prop:=fun x lo hi H Q=>∃ z, x = .str z ∧ z.length ≤ sizeLine ∧ Q (.str (Txt.slice z lo hi)) H
theorem zahu : SlR X rSlS:=by
 intro pins s σ H x v vl vu lo hi sl Q I rx hs pl pu h
 obtain ⟨z, rfl, hz, q⟩:=h
 obtain ⟨t, rfl⟩:=rx
 refine ⟨"str", _, F.slot_str_getitem.lookup, typeIs_str _ _ _, ?_⟩
 have fin : ∀ t' k, EP X pins σ Q (.str (Txt.slice z lo hi) t') { s with toks:=k }:=fun t' k=>⟨.str (Txt.slice z lo hi), H, I.tok _, ⟨_, rfl⟩, q⟩
 have fz : (Txt.slice z lo hi).length ≤ sizeLine:=Nat.le_trans (Txt.slice_le z _ _) hz
 cases pl with
 | none=>cases pu with
  | none=>exact wpAny_getItem_str_slice (l:=none) (u:=none) (st:=none) hs rfl (post_val_or_str ⟨fz, fin⟩)
  | int j tj=>exact wpAny_getItem_str_slice (l:=none) (u:=some (j, tj)) (st:=none) hs rfl (post_val_or_str ⟨fz, fin⟩)
 | int i ti=>cases pu with
  | none=>exact wpAny_getItem_str_slice (l:=some (i, ti)) (u:=none) (st:=none) hs rfl (post_val_or_str ⟨fz, fin⟩)
  | int j tj=>exact wpAny_getItem_str_slice (l:=some (i, ti)) (u:=some (j, tj)) (st:=none) hs rfl (post_val_or_str ⟨fz, fin⟩)
noncomputable def zxp : V → List V → Hp → VK → Prop:=fun x vs H Q=>∃ d o kvs more, x = .ref d ∧ vs = [.ref o] ∧ d ≠ o ∧ H d = some (.dK kvs) ∧ H o = some (.dK more) ∧ kvs.length + more.length ≤ sizeLine ∧ Q .non (upd H d (.dK (zfz kvs more)))
theorem zqk : MtM X "dict.update" zxp:=by
 intro pins s σ H x vs v us Q I rx rv h
 obtain ⟨d, o, kvs, more, rfl, rfl, hne, hd, ho, hz, q⟩:=h
 cases rx
 obtain ⟨u, rfl, ru⟩:=rv.one
 cases ru
 obtain ⟨z1, s1, vs1, rel1, dd1⟩:=zaba I.hok hd
 obtain ⟨z2, s2, vs2, rel2, dd2⟩:=zaba I.hok ho
 refine call_meetsIn F.slot_dict_update dd1.typeIs F.entry_dict_update (F.args_dict_update_2 _ _) (meets_dict_update (zbr X.prog X.w) d o hne s2) ⟨vs1, vs2, dd1, dd2, ?_, fun h' h1 h2 sb=>?_⟩
 ·rw [← rel1.length, ← rel2.length]; exact hz
 ·have he : ∃ q, h'.get? d = some q:=by obtain ⟨ob, _, _, e, _⟩:=h1; exact ⟨ob, e⟩
  refine ⟨.non, _, zou (t':=s.toks) I (by rw [hd]; trivial) sb he (zuq (Nat.le_trans (zez more kvs) hz) s1 (rel2.merge rel1) h1), rfl, q⟩
theorem zabj {id : String} (hid : id = "isinstance") : CallR X (.builtin id) (fun xs H Q=>∃ x n t b, xs = [x, .ty n] ∧ TyOf X.K H x t ∧ PySem.W.kitOne X.K t (.type n) = some b ∧ Q (.bl b) H):=by
 subst hid
 intro pins s σ H xs us Q I r h
 obtain ⟨x, n, t, b, rfl, ty, e, q⟩:=h
 obtain ⟨u, w', rfl, rx, ry⟩:=zaeg r
 cases ry
 exact zwz I rx ty e fun tk=>⟨.bl b, H, I.tok _, rfl, q⟩
end
end L2
namespace L2
open PySem PySem.Spec PyProof.Rows
section
variable {X : Cx}
end
end L2
namespace L2
open PySem PySem.Spec PyProof.Rows
mutual
noncomputable def Rep (K : PySem.W.Frag) (H : Hp) : PyData → V → Prop
 | .none, v=>v = .non
 | .bool b, v=>v = .bl b
 | .int i, v=>v = .int i
 | .str x, v=>v = .str x
 | .list ds, v=>∃ a xs, v = .ref a ∧ SqL K H a xs ∧ Reps K H ds xs
 | .tuple ds, v=>∃ a xs, v = .ref a ∧ SqT K H a xs ∧ Reps K H ds xs
 | .dict _, _=>False
noncomputable def Reps (K : PySem.W.Frag) (H : Hp) : List PyData → List V → Prop
 | [], xs=>xs = []
 | d :: ds, xs=>∃ v vs, xs = v :: vs ∧ Rep K H d v ∧ Reps K H ds vs
end
mutual
theorem zhm {X : Cx} {pins : List (Addr × Obj)} {σ : St} {H : Hp} {s : Shared} (I : Inv X pins σ H s) : ∀ (d : PyData) {v : V} {u : Value}, Rep X.K H d v → RelV v u → ∃ as, Reads s.heap u d as
 | .none, v, u, h, r=>by unfold Rep at h; subst h; cases r; exact ⟨_, .none⟩
 | .bool b, v, u, h, r=>by unfold Rep at h; subst h; cases r; exact ⟨_, .bool b⟩
 | .int i, v, u, h, r=>by unfold Rep at h; subst h; obtain ⟨t, rfl⟩:=r; exact ⟨_, .int i t⟩
 | .str x, v, u, h, r=>by unfold Rep at h; subst h; obtain ⟨t, rfl⟩:=r; exact ⟨_, .str x t⟩
 | .list ds, v, u, h, r=>by
  unfold Rep at h
  obtain ⟨a, xs, rfl, hq, hr⟩:=h
  cases r
  obtain ⟨its, rv, p, hz⟩:=I.list hq
  obtain ⟨as, q⟩:=zkc I ds hr rv
  obtain ⟨o, h1, h2, n, h3⟩:=p.isList
  exact ⟨_, reads_list_at h1 h2 h3 (by simpa using q)⟩
 | .tuple ds, v, u, h, r=>by
  unfold Rep at h
  obtain ⟨a, xs, rfl, hq, hr⟩:=h
  cases r
  obtain ⟨its, rv, p, hz⟩:=I.tuple hq
  obtain ⟨as, q⟩:=zkc I ds hr rv
  obtain ⟨o, h1, h2, n, h3⟩:=p
  exact ⟨_, reads_tuple_at h1 h2 h3 (by simpa using q)⟩
 | .dict _, _, _, h, _=>by unfold Rep at h; exact h.elim
theorem zkc {X : Cx} {pins : List (Addr × Obj)} {σ : St} {H : Hp} {s : Shared} (I : Inv X pins σ H s) : ∀ (ds : List PyData) {vs : List V} {us : List Value}, Reps X.K H ds vs → Vals vs us → ∃ as, ReadsAll s.heap us ds as
 | [], vs, us, h, r=>by unfold Reps at h; subst h; cases r; exact ⟨_, .nil⟩
 | d :: ds, vs, us, h, r=>by
  unfold Reps at h
  obtain ⟨v, vs', rfl, h1, h2⟩:=h
  cases r with
  | cons r rr =>
   obtain ⟨as, q1⟩:=zhm I d h1 r
   obtain ⟨bs, q2⟩:=zkc I ds h2 rr
   exact ⟨_, .cons q1 q2⟩
end
theorem SqT.same {K : PySem.W.Frag} {H H' : Hp} {a : Addr} {xs : List V} (h : Same H H') (q : SqT K H a xs) : SqT K H' a xs:=by
 rcases q with (q | ⟨o, q⟩) | q
 ·exact .inl (.inl (h _ _ q))
 ·exact .inl (.inr ⟨o, h _ _ q⟩)
 ·exact .inr q
section
variable {X : Cx}
noncomputable def rEqD (K : PySem.W.Frag) (neg : Bool) : R2:=fun x y H Q=>∃ d e, Rep K H d x ∧ Rep K H e y ∧ SeqAt.shaped d = true ∧ SeqAt.shaped e = true ∧ Q (.bl (if neg then !PyData.eqv d e else PyData.eqv d e)) H
theorem zahv (hu : X.A.units + 64 < cLine) : OpR X (compareOp .Eq) (rEqD X.K false):=by
 intro pins s σ H x y v u Q I rx ry h
 obtain ⟨d, e, hd, he, sd, se, q⟩:=h
 obtain ⟨as, r1⟩:=zhm I d hd rx
 obtain ⟨bs, r2⟩:=zhm I e he ry
 exact eq_dataH r1 r2 sd se hu ⟨.bl (PyData.eqv d e), H, I, rfl, q⟩
theorem zahw (hu : X.A.units + 64 < cLine) : OpR X (compareOp .NotEq) (rEqD X.K true):=by
 intro pins s σ H x y v u Q I rx ry h
 obtain ⟨d, e, hd, he, sd, se, q⟩:=h
 obtain ⟨as, r1⟩:=zhm I d hd rx
 obtain ⟨bs, r2⟩:=zhm I e he ry
 exact ne_dataH r1 r2 sd se hu ⟨.bl (!PyData.eqv d e), H, I, rfl, q⟩
theorem zxq {bs : List Bool} : ∀ {its : List Value}, Vals (bs.map V.bl) its → its = bs.map Value.bool:=by
 induction bs with
 | nil=>intro its r; cases r; rfl
 | cons b bs ih =>
  intro its r
  cases r with
  | cons r rr=>cases r; rw [ih rr]; rfl
theorem zxr (bs : List Bool) : (List.range bs.length).any (fun i=>bs.getD i false) = bs.any id:=by
 rw [Bool.eq_iff_iff, List.any_eq_true, List.any_eq_true]
 constructor
 ·rintro ⟨i, hi, h⟩
  have hi:=List.mem_range.mp hi
  rw [List.getD_eq_getElem?_getD, List.getElem?_eq_getElem hi] at h
  exact ⟨_, List.getElem_mem hi, h⟩
 ·rintro ⟨b, hb, h⟩
  obtain ⟨i, hi, e⟩:=List.getElem_of_mem hb
  exact ⟨i, List.mem_range.mpr hi, by rw [List.getD_eq_getElem?_getD, List.getElem?_eq_getElem hi, e]; exact h⟩
theorem zxs (bs : List Bool) : (List.range bs.length).all (fun i=>bs.getD i false) = bs.all id:=by
 rw [Bool.eq_iff_iff, List.all_eq_true, List.all_eq_true]
 constructor
 ·intro h b hb
  obtain ⟨i, hi, e⟩:=List.getElem_of_mem hb
  have q:=h i (List.mem_range.mpr hi)
  rw [List.getD_eq_getElem?_getD, List.getElem?_eq_getElem hi, e] at q
  exact q
 ·intro h i hi
  have hi:=List.mem_range.mp hi
  have q:=h _ (List.getElem_mem hi)
  rw [List.getD_eq_getElem?_getD, List.getElem?_eq_getElem hi]
  exact q
noncomputable def rAny (K : PySem.W.Frag) (f : List Bool → Bool) : List V → Hp → VK → Prop:=fun xs H Q=>∃ p bs, xs = [.ref p] ∧ SqL K H p (bs.map V.bl) ∧ Q (.bl (f bs)) H
theorem zabk (hc : X.calm = true) : CallR X (.builtin "any") (rAny X.K fun bs=>bs.any id):=by
 intro pins s σ H xs us Q I r h
 obtain ⟨p, bs, rfl, hq, q⟩:=h
 obtain ⟨u, rfl, ru⟩:=zsu r
 cases ru
 obtain ⟨its, rv, pl, hz⟩:=I.list hq
 cases zxq rv
 have hne : p ≠ s.heap.objs.size:=by obtain ⟨o, e, _⟩:=pl.isList; exact Nat.ne_of_lt (Heap.lt_size e)
 refine call_any_walk (wpAny_pyIter_list pl.isList ⟨s.heap.objs.size, _, _, _, _, _, fun i=>bs.getD i false, rfl, Walks.list (A:=X.A.in1) (show X.A.in1.handled = none from I.ok.hd hc) _ p hne (bs.map Value.bool).toArray, ⟨⟨_, Heap.get?_push_size _ rfl, rfl, rfl⟩, ?_⟩, ?_, ?_⟩)
 ·obtain ⟨o, e, z⟩:=pl.isList
  exact ⟨o, Heap.get?_push_of_some _ e, z⟩
 ·intro i v s' Q' E' hv hQ
  have hv : (bs.map Value.bool)[i]? = some v:=by simpa using hv
  rw [List.getElem?_map] at hv
  cases e : bs[i]? with
  | none=>rw [e] at hv; cases hv
  | some b =>
   rw [e] at hv
   cases hv
   have z : bs.getD i false = b:=by rw [List.getD_eq_getElem?_getD, e]; rfl
   have hQ : Q' (bs.getD i false) s':=hQ
   rw [z] at hQ
   exact wpAny_truthy_bool hQ
 ·intro h' tk hk
  refine ⟨.bl (bs.any id), H, ?_, by rw [← zxr bs]; simp; rfl, q⟩
  exact I.kept (t':=tk) fun b o e=>hk b o (by have:=Heap.lt_size e; simp; exact Nat.ne_of_lt this) (Heap.get?_push_of_some _ e)
theorem zabl (hc : X.calm = true) : CallR X (.builtin "all") (rAny X.K fun bs=>bs.all id):=by
 intro pins s σ H xs us Q I r h
 obtain ⟨p, bs, rfl, hq, q⟩:=h
 obtain ⟨u, rfl, ru⟩:=zsu r
 cases ru
 obtain ⟨its, rv, pl, hz⟩:=I.list hq
 cases zxq rv
 have hne : p ≠ s.heap.objs.size:=by obtain ⟨o, e, _⟩:=pl.isList; exact Nat.ne_of_lt (Heap.lt_size e)
 refine call_all_walk (wpAny_pyIter_list pl.isList ⟨s.heap.objs.size, _, _, _, _, _, fun i=>bs.getD i false, rfl, Walks.list (A:=X.A.in1) (show X.A.in1.handled = none from I.ok.hd hc) _ p hne (bs.map Value.bool).toArray, ⟨⟨_, Heap.get?_push_size _ rfl, rfl, rfl⟩, ?_⟩, ?_, ?_⟩)
 ·obtain ⟨o, e, z⟩:=pl.isList
  exact ⟨o, Heap.get?_push_of_some _ e, z⟩
 ·intro i v s' Q' E' hv hQ
  have hv : (bs.map Value.bool)[i]? = some v:=by simpa using hv
  rw [List.getElem?_map] at hv
  cases e : bs[i]? with
  | none=>rw [e] at hv; cases hv
  | some b =>
   rw [e] at hv
   cases hv
   have z : bs.getD i false = b:=by rw [List.getD_eq_getElem?_getD, e]; rfl
   have hQ : Q' (bs.getD i false) s':=hQ
   rw [z] at hQ
   exact wpAny_truthy_bool hQ
 ·intro h' tk hk
  refine ⟨.bl (bs.all id), H, ?_, by rw [← zxs bs]; simp; rfl, q⟩
  exact I.kept (t':=tk) fun b o e=>hk b o (by have:=Heap.lt_size e; simp; exact Nat.ne_of_lt this) (Heap.get?_push_of_some _ e)
end
end L2
namespace L2
open PySem PySem.Spec PyProof.Rows
noncomputable def zxt (o : Option NameKind) : Bool:=o == some .cell || o == some .free
noncomputable def zxu (sc : Scope) (N : List Str) (scope : Scope) (N' own : List Str) (fr : List Nat) : Bool :=
 (scope.kind == .function) && (scope.names.all fun y=>scope.names.lookup y.1 == some y.2) && (scope.names.all fun y=>!(y.2 == .free) || zxt (sc.names.lookup y.1)) &&
 (N' == own ++ fr.map fun j=>N.getD j Str.empty) && (fr.all fun j=>decide (j < N.length) && (scope.names.lookup (N.getD j Str.empty) == some .free)) &&
 (own.all fun x=>scope.names.lookup x == some .local || scope.names.lookup x == some .cell)
section
variable {X : Cx}
theorem zco {scope : Scope} {N' own : List Str} {fr : List Nat} (h : zxu X.env.scope X.N scope N' own fr = true) : CompOk X scope N' own fr:=by
 unfold zxu at h
 simp only [Bool.and_eq_true] at h
 obtain ⟨⟨⟨⟨⟨h1, h2⟩, h3⟩, h4⟩, h5⟩, h6⟩:=h
 refine ⟨eq_of_beq h1, fun y hy=>eq_of_beq (List.all_eq_true.mp h2 y hy), fun y hy e=>?_, eq_of_beq h4, fun j hj=>?_, fun x hx=>?_⟩
 ·have q:=List.all_eq_true.mp h3 y hy
  rw [e] at q
  have q : zxt (X.env.scope.names.lookup y.1) = true:=by simpa using q
  unfold zxt at q
  rcases Bool.or_eq_true_iff.mp q with z | z
  ·exact .inl (eq_of_beq z)
  ·exact .inr (eq_of_beq z)
 ·have q:=List.all_eq_true.mp h5 j hj
  rw [Bool.and_eq_true] at q
  exact ⟨of_decide_eq_true q.1, eq_of_beq q.2⟩
 ·have q:=List.all_eq_true.mp h6 x hx
  rcases Bool.or_eq_true_iff.mp q with z | z
  ·exact .inl (eq_of_beq z)
  ·exact .inr (eq_of_beq z)
noncomputable def zaey (K : PySem.W.Frag) : R2:=fun x y H Q=>match x, y with
 | .int i, .int j=>Q (.int (i + j)) H
 | .str a, .str b=>a.length + b.length ≤ sizeLine ∧ Q (.str (a ++ b)) H
 | .ref _, .ref _=>rCat x y H Q ∨ zahh K x y H Q
 | _, _=>False
theorem zaez : OpR X (binaryOp .Add) (zaey X.K):=by
 intro pins s σ H x y v u Q I rx ry h
 cases x <;> cases y <;> first
  | exact h.elim
  | exact zahc pins s σ H _ _ v u Q I rx ry ⟨_, _, rfl, rfl, h⟩
  | exact zvx pins s σ H _ _ v u Q I rx ry ⟨_, _, rfl, rfl, h.1, h.2⟩
  | exact (zaho.or zaej) pins s σ H _ _ v u Q I rx ry h
noncomputable def zahx : R2:=fun x y H Q=>match x, y with
 | .int i, .int j=>CMul i j ∧ Q (.int (i * j)) H
 | .str z, .int n=>z.length ≤ 1000 ∧ -1000 ≤ n ∧ n ≤ 1000 ∧ Q (.str (Txt.mul z n)) H
 | _, _=>False
theorem zgu : OpR X (binaryOp .Mult) zahx:=by
 intro pins s σ H x y v u Q I rx ry h
 cases x <;> cases y <;> first
  | exact h.elim
  | exact zahd pins s σ H _ _ v u Q I rx ry ⟨_, _, rfl, rfl, h.1, h.2⟩
  | exact zaex pins s σ H _ _ v u Q I rx ry ⟨_, _, rfl, rfl, h.1, h.2.1, h.2.2.1, h.2.2.2⟩
noncomputable def rIxU (K : PySem.W.Frag) : R2:=fun x y H Q=>match x, y with
 | .str z, .int i=>z.length ≤ sizeLine ∧ ∃ c, atI z.cps.toList i = some c ∧ Q (.str ⟨#[c]⟩) H
 | .ref p, .int i=>∃ xs v, (SqL K H p xs ∨ SqT K H p xs) ∧ atI xs i = some v ∧ Q v H
 | _, _=>False
theorem ix_U : IxR X (rIxU X.K):=by
 intro value slice pins s σ H x y v u Q I rx ry h hs
 cases x <;> cases y <;> first
  | exact h.elim
  | (obtain ⟨h1, c, h2, h3⟩:=h; exact zahk value slice pins s σ H _ _ v u Q I rx ry ⟨_, _, c, rfl, rfl, h1, h2, h3⟩ hs)
  | (obtain ⟨xs, w, h1, h2, h3⟩:=h
     rcases h1 with h1 | h1
     ·exact zael value slice pins s σ H _ _ v u Q I rx ry ⟨_, xs, _, w, rfl, rfl, h1, h2, h3⟩ hs
     ·exact zahj value slice pins s σ H _ _ v u Q I rx ry ⟨_, xs, _, w, rfl, rfl, h1, h2, h3⟩ hs)
noncomputable def rSlU (K : PySem.W.Frag) : V → Option Int → Option Int → Hp → VK → Prop:=fun x lo hi H Q=>match x with
 | .str z=>z.length ≤ sizeLine ∧ Q (.str (Txt.slice z lo hi)) H
 | .ref _=>rSlL K x lo hi H Q
 | _=>False
theorem sl_U : SlR X (rSlU X.K):=by
 intro pins s σ H x v vl vu lo hi sl Q I rx hs pl pu h
 cases x <;> first
  | exact h.elim
  | exact zahu pins s σ H _ v vl vu lo hi sl Q I rx hs pl pu ⟨_, rfl, h.1, h.2⟩
  | exact zaem pins s σ H _ v vl vu lo hi sl Q I rx hs pl pu h
noncomputable def Dn (P : Program) (w : World) (K : PySem.W.Frag) (mg : Str → Option Value) (base : Heap) (x : Str) (ps : List Str) (k : Nat) (sp : Sp) : Prop :=
 ∃ f fd, FnOk P w K mg base CX0 k f fd ps sp ∧ mg x = some (.ref f) ∧ PySem.W.keepIn K (.ref f) = true ∧ zvy K fd ps []
theorem zaja {x : Str} {p pos : Pos} {e : Expr} {es : List Expr} {t : TA} {ps : List Str} {k : Nat} {sp : Sp} (D : Dn X.prog X.w X.K X.mg X.base x ps k sp) (hr : Room k X.A) (hg : Gl X x) (ha : PA X (e :: es) t)
  (hdb : (x == ("__debug__" : Str)) = false:=by decide) (he : starEach (e :: es) X.env = (false, eval e X.env) :: starEach es X.env:=by rfl) (hpl : (backTo pos (starEach es X.env)).any (·.1) = false:=by rfl) :
  PE X (.Call (.Name x p) (e :: es) [] pos) (tCall sp [] E0 t):=by
 obtain ⟨f, fd, F, hm, hk, hb⟩:=D
 exact zaei F hr hg hm hk hb .nil zaiy ha hdb he hpl
end
end L2
namespace L2
open PySem PySem.Spec PyProof.Rows
theorem Same.upd {H H' : Hp} {p : Addr} {o : HO} (h : Same H H') (hp : H p = none) : Same H (upd H' p o):=fun b u e=>by rw [zbf (zbm e hp)]; exact h b u e
theorem Same.new {H : Hp} {p : Addr} {o : HO} (hp : H p = none) : Same H (L2.upd H p o):=(Same.refl H).upd hp
end L2
namespace Bc
open PySem L2
noncomputable abbrev Web:=List (Str × List Str)
noncomputable def nm (W : Web) : List Str:=W.map (·.1)
structure WebOk (W : Web) : Prop where
 nd : (nm W).Nodup
 el : ∀ i n es, W[i]? = some (n, es) → ∀ e ∈ es, e ∈ nm (W.take i)
 few : ∀ p ∈ W, p.2.length ≤ 4
 len : W.length ≤ 12
theorem zjk {α : Type} [DecidableEq α] : ∀ (l m : List α), l.Nodup → (∀ x ∈ l, x ∈ m) → l.length ≤ m.length
 | [], _, _, _=>Nat.zero_le _
 | a :: l, m, h, s=>by
  obtain ⟨h1, h2⟩:=List.nodup_cons.mp h
  have ha:=s a List.mem_cons_self
  have q:=zjk l (m.erase a) h2 fun x hx=>(List.mem_erase_of_ne (fun (z : x = a)=>h1 (by rw [← z]; exact hx))).mpr (s x (List.mem_cons_of_mem _ hx))
  rw [List.length_erase_of_mem ha] at q
  have:=List.length_pos_of_mem ha
  rw [List.length_cons]
  omega
section
variable {κ : Type} [DecidableEq κ]
end
theorem zhh {W : Web} (h : WebOk W) : (nm W).length ≤ 12:=by unfold nm; rw [List.length_map]; exact h.len
end Bc
namespace L2
open PySem PySem.Spec PyProof.Rows
section
variable {X : Cx} {K : PySem.W.Frag} (hK : X.K = K)
include hK
theorem zafa {es : List Expr} {k : Nat} {t : TGs} {n : Nat} {pos : Pos} (hc : X.calm = true) (h : PGs X es t)
  (hn : (assignEach es X.env).length = n:=by rfl) (hst : (assignEach es X.env).findIdx? (·.1) = none:=by rfl) : PG X (.Tuple es k pos) (gTup K n t):=by subst hK; exact zaha hc h hn hst
theorem zhj : IxR X (rIxU K):=by subst hK; exact ix_U
theorem zql : SlR X (rSlU K):=by subst hK; exact sl_U
theorem zcb : OpR X (binaryOp .Add) (zaey K):=by subst hK; exact zaez
theorem zjl : OpR X (compareOp .In) (rIn K false):=by subst hK; exact zxf
theorem zjm : OpR X (compareOp .NotIn) (rIn K true):=by subst hK; exact zqd
theorem zcz : CallR X (.builtin "len") (fun xs H Q=>∃ x n, xs = [x] ∧ LenV K x H n ∧ Q (.int n) H):=by subst hK; exact zaaw
theorem zxv (hc : X.calm = true) : CallR X (.builtin "any") (rAny K fun bs=>bs.any id):=by subst hK; exact zabk hc
theorem zlj (hc : X.calm = true) : CallR X (.builtin "all") (rAny K fun bs=>bs.all id):=by subst hK; exact zabl hc
theorem zjn : CallR X (.builtin "isinstance") (fun xs H Q=>∃ x n t b, xs = [x, .ty n] ∧ TyOf K H x t ∧ PySem.W.kitOne K t (.type n) = some b ∧ Q (.bl b) H):=by subst hK; exact zabj rfl
theorem znv : CallR X (.type "list") (fun xs H Q=>∃ p ys, xs = [.ref p] ∧ (SqL K H p ys ∨ SqT K H p ys) ∧ ∀ l, H l = none → Q (.ref l) (upd H l (.lst ys))):=by subst hK; exact zqe
theorem zabm {tg l : Expr} {tl : TE} (hl : PE X l tl) : PI X tg l (zahb K tl):=by subst hK; exact zaee hl
theorem zxw {T : String} {name : Str} {id : String} {r : V → List V → Hp → VK → Prop} {o e : Expr} {es : List Expr} {to : TE} {t : TA} {apos cpos : Pos} (pa : PlainAttrs T) (slot : Slot T name id) (hty : typeOf (.builtin id) = pure (.type "method_descriptor")) (hm : MtR X id r) (ho : PE X o to) (ha : PA X (e :: es) t)
  (hbase : attributeBase o name X.env (eval o X.env) = eval o X.env:=by rfl)
  (hfew : ((backTo cpos (starEach (e :: es) X.env)).all (fun x=>!x.1) && (backToKw cpos (keywordEach [] X.env)).all (fun x=>x.1.isSome)
   && decide ((e :: es).length + ([] : List Keyword).length + (if ([] : List Keyword).isEmpty then 0 else 1) < 30)) = true:=by rfl)
  (hline : (apos.endLine == cpos.line) = true:=by rfl) (hs : starEach (e :: es) X.env = (false, eval e X.env) :: starEach es X.env:=by rfl) (hplain : (backTo cpos (starEach es X.env)).any (·.1) = false:=by rfl) :
  PE X (.Call (.Attribute o name apos) (e :: es) [] cpos) (tBM K T r to t):=by subst hK; exact zaiw pa slot hty hm ho ha hbase hfew hline hs hplain
end
end L2
namespace L2
open PySem PySem.Spec PyProof.Rows
noncomputable def keyD : PyData → Option Key
 | .int i=>some (Sum.inl i)
 | .str s=>some (Sum.inr s)
 | _=>none
mutual
noncomputable def Rp (H : Hp) : PyData → V → Prop
 | .none, v=>v = .non
 | .bool b, v=>v = .bl b
 | .int i, v=>v = .int i
 | .str x, v=>v = .str x
 | .list ds, v=>∃ a xs, v = .ref a ∧ H a = some (.lst xs) ∧ Rps H ds xs
 | .tuple ds, v=>∃ a xs, v = .ref a ∧ H a = some (.tup xs) ∧ Rps H ds xs
 | .dict kvs, v=>∃ a ps, v = .ref a ∧ H a = some (.dK ps) ∧ Rpd H kvs ps
noncomputable def Rps (H : Hp) : List PyData → List V → Prop
 | [], xs=>xs = []
 | d :: ds, xs=>∃ v vs, xs = v :: vs ∧ Rp H d v ∧ Rps H ds vs
noncomputable def Rpd (H : Hp) : List (PyData × PyData) → List (Key × V) → Prop
 | [], ps=>ps = []
 | (k, d) :: r, ps=>∃ k' v vs, ps = (k', v) :: vs ∧ keyD k = some k' ∧ Rp H d v ∧ Rpd H r vs
end
mutual
theorem Rp.same {H H' : Hp} (h : Same H H') : ∀ (d : PyData) {v : V}, Rp H d v → Rp H' d v
 | .none, v, q=>by unfold Rp at q ⊢; exact q
 | .bool b, v, q=>by unfold Rp at q ⊢; exact q
 | .int i, v, q=>by unfold Rp at q ⊢; exact q
 | .str x, v, q=>by unfold Rp at q ⊢; exact q
 | .list ds, v, q=>by
  unfold Rp at q ⊢
  obtain ⟨a, xs, e, hq, hr⟩:=q
  exact ⟨a, xs, e, h _ _ hq, Rps.same h ds hr⟩
 | .tuple ds, v, q=>by
  unfold Rp at q ⊢
  obtain ⟨a, xs, e, hq, hr⟩:=q
  exact ⟨a, xs, e, h _ _ hq, Rps.same h ds hr⟩
 | .dict kvs, v, q=>by
  unfold Rp at q ⊢
  obtain ⟨a, xs, e, hq, hr⟩:=q
  exact ⟨a, xs, e, h _ _ hq, Rpd.same h kvs hr⟩
theorem Rps.same {H H' : Hp} (h : Same H H') : ∀ (ds : List PyData) {vs : List V}, Rps H ds vs → Rps H' ds vs
 | [], vs, q=>by unfold Rps at q ⊢; exact q
 | d :: ds, vs, q=>by
  unfold Rps at q ⊢
  obtain ⟨v, vs', e, h1, h2⟩:=q
  exact ⟨v, vs', e, Rp.same h d h1, Rps.same h ds h2⟩
theorem Rpd.same {H H' : Hp} (h : Same H H') : ∀ (ds : List (PyData × PyData)) {vs : List (Key × V)}, Rpd H ds vs → Rpd H' ds vs
 | [], vs, q=>by unfold Rpd at q ⊢; exact q
 | (k, d) :: ds, vs, q=>by
  unfold Rpd at q ⊢
  obtain ⟨k', v, vs', e, h0, h1, h2⟩:=q
  exact ⟨k', v, vs', e, h0, Rp.same h d h1, Rpd.same h ds h2⟩
end
theorem zcl {H : Hp} : ∀ {ds : List PyData} {xs : List V}, Rps H ds xs ↔ Paired (Rp H) ds xs
 | [], xs=>by
  constructor
  ·intro h; unfold Rps at h; subst h; exact .nil
  ·intro h; cases h; unfold Rps; rfl
 | d :: ds, xs=>by
  constructor
  ·intro h
   unfold Rps at h
   obtain ⟨v, vs, rfl, h1, h2⟩:=h
   exact .cons h1 (zcl.mp h2)
  ·intro h
   cases h with
   | cons h1 h2=>unfold Rps; exact ⟨_, _, rfl, h1, zcl.mpr h2⟩
theorem Rps.length {H : Hp} {ds : List PyData} {xs : List V} (h : Rps H ds xs) : ds.length = xs.length:=(zcl.mp h).length
theorem zcv {H : Hp} {ds : List PyData} {v : V} (h : Rp H (.list ds) v) : ∃ a xs, v = .ref a ∧ H a = some (.lst xs) ∧ Rps H ds xs:=by unfold Rp at h; exact h
theorem zci {H : Hp} {ds : List PyData} {v : V} (h : Rp H (.tuple ds) v) : ∃ a xs, v = .ref a ∧ H a = some (.tup xs) ∧ Rps H ds xs:=by unfold Rp at h; exact h
theorem zhn {H : Hp} {ds : List (PyData × PyData)} {v : V} (h : Rp H (.dict ds) v) : ∃ a xs, v = .ref a ∧ H a = some (.dK xs) ∧ Rpd H ds xs:=by unfold Rp at h; exact h
theorem zdo {H : Hp} {i : Int} {v : V} (h : Rp H (.int i) v) : v = .int i:=by unfold Rp at h; exact h
theorem zix {H : Hp} {i : Str} {v : V} (h : Rp H (.str i) v) : v = .str i:=by unfold Rp at h; exact h
theorem zlk {H : Hp} {i : Bool} {v : V} (h : Rp H (.bool i) v) : v = .bl i:=by unfold Rp at h; exact h
theorem zxx {H : Hp} {v : V} (h : Rp H .none v) : v = .non:=by unfold Rp at h; exact h
theorem zah {H : Hp} {i : Int} : Rp H (.int i) (.int i):=by unfold Rp; rfl
theorem zgg {H : Hp} {i : Str} : Rp H (.str i) (.str i):=by unfold Rp; rfl
theorem zas {H : Hp} {i : Bool} : Rp H (.bool i) (.bl i):=by unfold Rp; rfl
theorem zff {H : Hp} : Rp H .none .non:=by unfold Rp; rfl
theorem zdx {H : Hp} {ds : List PyData} {a : Addr} {xs : List V} (h : H a = some (.lst xs)) (r : Rps H ds xs) : Rp H (.list ds) (.ref a):=by unfold Rp; exact ⟨a, xs, rfl, h, r⟩
theorem ztb {H : Hp} {ds : List PyData} {a : Addr} {xs : List V} (h : H a = some (.tup xs)) (r : Rps H ds xs) : Rp H (.tuple ds) (.ref a):=by unfold Rp; exact ⟨a, xs, rfl, h, r⟩
theorem zgh {H : Hp} {ds : List (PyData × PyData)} {a : Addr} {xs : List (Key × V)} (h : H a = some (.dK xs)) (r : Rpd H ds xs) : Rp H (.dict ds) (.ref a):=by unfold Rp; exact ⟨a, xs, rfl, h, r⟩
theorem zdf {H : Hp} : Rps H [] []:=by unfold Rps; rfl
theorem zho {H : Hp} : Rpd H [] []:=by unfold Rpd; rfl
theorem zde {H : Hp} {d : PyData} {ds : List PyData} {v : V} {vs : List V} (h : Rp H d v) (r : Rps H ds vs) : Rps H (d :: ds) (v :: vs):=by
 show Rps H (d :: ds) _
 unfold Rps; exact ⟨v, vs, rfl, h, r⟩
theorem Rps.append {H : Hp} {ds es : List PyData} {vs ws : List V} (h : Rps H ds vs) (r : Rps H es ws) : Rps H (ds ++ es) (vs ++ ws):=by
 replace h:=zcl.mp h
 refine zcl.mpr ?_
 induction h with
 | nil=>exact zcl.mp r
 | cons h _ ih=>exact .cons h ih
theorem Rps.get2 {H : Hp} {ds : List PyData} {vs : List V} (h : Rps H ds vs) {i : Nat} {d : PyData} (e : ds[i]? = some d) : ∃ v, vs[i]? = some v ∧ Rp H d v:=by
 replace h:=zcl.mp h
 induction h generalizing i with
 | nil=>simp at e
 | cons h _ ih =>
  cases i with
  | zero=>simp at e; subst e; exact ⟨_, rfl, h⟩
  | succ i=>simpa using ih (by simpa using e)
open Classical in
noncomputable def Offs (A : Addr → Prop) (H : Hp) : Hp:=fun b=>if A b then none else H b
theorem Offs.get {A : Addr → Prop} {H : Hp} {b : Addr} (h : ¬ A b) : Offs A H b = H b:=if_neg h
theorem Offs.out {A : Addr → Prop} {H : Hp} {b : Addr} (h : A b) : Offs A H b = none:=if_pos h
theorem Offs.of {A : Addr → Prop} {H : Hp} {b : Addr} {o : HO} (h : Offs A H b = some o) : ¬ A b ∧ H b = some o:=by
 by_cases hb : A b
 ·rw [Offs.out hb] at h; cases h
 ·rw [Offs.get hb] at h; exact ⟨hb, h⟩
theorem Offs.mono {A B : Addr → Prop} {H H' : Hp} (s : Same H H') (h : ∀ b o, H b = some o → ¬ A b → ¬ B b) : Same (Offs A H) (Offs B H'):=fun b o e=>by
 obtain ⟨h1, h2⟩:=Offs.of e
 rw [Offs.get (h b o h2 h1)]
 exact s b o h2
theorem Offs.same (A : Addr → Prop) (H : Hp) : Same (Offs A H) H:=fun b o e=>(Offs.of e).2
theorem Offs.sub {A B : Addr → Prop} {H : Hp} (h : ∀ b, B b → A b) : Same (Offs A H) (Offs B H):=Offs.mono (Same.refl _) fun b _ _ n z=>n (h b z)
theorem Offs.grow {A : Addr → Prop} {H H' : Hp} (s : Same H H') : Same (Offs A H) (Offs A H'):=Offs.mono s fun _ _ _ z=>z
theorem Offs.upd {A : Addr → Prop} {H : Hp} {a : Addr} {o : HO} (h : A a) : Offs A (upd H a o) = Offs A H:=by
 funext b
 by_cases hb : A b
 ·rw [Offs.out hb, Offs.out hb]
 ·rw [Offs.get hb, Offs.get hb, zbf (fun e=>hb (by rw [e]; exact h))]
inductive Sl where
 | no
  | pl (d : PyData)
  | ac (d : PyData)
noncomputable abbrev DEnv:=List Sl
noncomputable def own (env : DEnv) (σ : St) (a : Addr) : Prop:=∃ (i : Nat) (d : PyData), env[i]? = some (.ac d) ∧ σ[i]? = some (some (.ref a))
noncomputable def zgi (Ho H : Hp) (a : Addr) : PyData → Prop
 | .list ds=>∃ xs, H a = some (.lst xs) ∧ Rps Ho ds xs
 | .dict kvs=>∃ ps, H a = some (.dK ps) ∧ Rpd Ho kvs ps
 | _=>False
theorem zgi.rp {Ho H H' : Hp} {a : Addr} {d : PyData} (h : zgi Ho H a d) (s : Same Ho H') (e : ∀ o, H a = some o → H' a = some o) : Rp H' d (.ref a):=by
 cases d with
 | list ds =>
  obtain ⟨xs, h1, h2⟩:=h
  exact zdx (e _ h1) (Rps.same s _ h2)
 | dict ds =>
  obtain ⟨xs, h1, h2⟩:=h
  exact zgh (e _ h1) (Rpd.same s _ h2)
 | _=>exact h.elim
theorem zgi.same {Ho H Ho' H' : Hp} {a : Addr} {d : PyData} (h : zgi Ho H a d) (s : Same Ho Ho') (e : ∀ o, H a = some o → H' a = some o) : zgi Ho' H' a d:=by
 cases d with
 | list ds =>
  obtain ⟨xs, h1, h2⟩:=h
  exact ⟨xs, e _ h1, Rps.same s _ h2⟩
 | dict ds =>
  obtain ⟨xs, h1, h2⟩:=h
  exact ⟨xs, e _ h1, Rpd.same s _ h2⟩
 | _=>exact h.elim
theorem zgi.ex {Ho H : Hp} {a : Addr} {d : PyData} (h : zgi Ho H a d) : ∃ o, H a = some o:=by
 cases d with
 | list ds=>obtain ⟨xs, h1, h2⟩:=h; exact ⟨_, h1⟩
 | dict ds=>obtain ⟨xs, h1, h2⟩:=h; exact ⟨_, h1⟩
 | _=>exact h.elim
structure EnvOk (fx : Addr → Prop) (H0 : Hp) (env : DEnv) (σ : St) (H : Hp) : Prop where
 len : env.length = σ.length
 pl : ∀ (i : Nat) (d : PyData), env[i]? = some (.pl d) → ∃ v, σ[i]? = some (some v) ∧ Rp (Offs (fun a=>fx a ∨ own env σ a) H) d v
 ac : ∀ (i : Nat) (d : PyData), env[i]? = some (.ac d) → ∃ a, σ[i]? = some (some (.ref a)) ∧ H0 a = none ∧ ¬ fx a ∧ zgi (Offs (fun a=>fx a ∨ own env σ a) H) H a d
 inj : ∀ (i j : Nat) (d e : PyData) (a : Addr), env[i]? = some (.ac d) → env[j]? = some (.ac e) → σ[i]? = some (some (.ref a)) → σ[j]? = some (some (.ref a)) → i = j
 base : Same H0 H
 fxs : ∀ b, fx b → ∃ o, H b = some o
theorem EnvOk.grow {fx fx' : Addr → Prop} {H0 : Hp} {env : DEnv} {σ : St} {H H' : Hp} (h : EnvOk fx H0 env σ H) (s : Same H H') (f : ∀ b o, H b = some o → ¬ fx b → ¬ fx' b) (g : ∀ b, fx' b → ∃ o, H' b = some o) : EnvOk fx' H0 env σ H':=by
 have so : Same (Offs (fun a=>fx a ∨ own env σ a) H) (Offs (fun a=>fx' a ∨ own env σ a) H'):=Offs.mono s fun b o e n=>fun z=>z.elim (f b o e fun y=>n (.inl y)) fun y=>n (.inr y)
 refine ⟨h.len, fun i d e=>?_, fun i d e=>?_, h.inj, h.base.trans s, g⟩
 ·obtain ⟨v, h1, h2⟩:=h.pl i d e
  exact ⟨v, h1, Rp.same so d h2⟩
 ·obtain ⟨a, h1, h2, h3, h4⟩:=h.ac i d e
  obtain ⟨o, ho⟩:=h4.ex
  exact ⟨a, h1, h2, f a o ho h3, h4.same so fun o=>s a o⟩
theorem EnvOk.up {fx : Addr → Prop} {H0 : Hp} {env : DEnv} {σ : St} {H H' : Hp} (h : EnvOk fx H0 env σ H) (s : Same H H') : EnvOk fx H0 env σ H' :=
 h.grow s (fun _ _ _ z=>z) fun b z=>let ⟨o, e⟩:=h.fxs b z; ⟨o, s b o e⟩
structure Val where
 d : PyData
 fr : Bool
 bs : List Nat
noncomputable def lim (fx : Addr → Prop) (env : DEnv) (σ : St) (bs : List Nat) (a : Addr) : Prop:=fx a ∨ ∃ (i : Nat) (d : PyData), i ∉ bs ∧ env[i]? = some (.ac d) ∧ σ[i]? = some (some (.ref a))
structure ValOk (A : Addr → Prop) (H H' : Hp) (r : Val) (v : V) : Prop where
 rp : Rp (Offs A H') r.d v
 fr : r.fr = true → ∃ a, v = .ref a ∧ H a = none ∧ zgi (Offs (fun b=>A b ∨ b = a) H') H' a r.d
theorem ztc {fx : Addr → Prop} {env : DEnv} {σ : St} {bs cs : List Nat} (h : ∀ i ∈ bs, i ∈ cs) : ∀ a, lim fx env σ cs a → lim fx env σ bs a:=by
 rintro a (z | ⟨i, d, h1, h2, h3⟩)
 ·exact .inl z
 ·exact .inr ⟨i, d, fun q=>h1 (h i q), h2, h3⟩
theorem zll {fx : Addr → Prop} {env : DEnv} {σ : St} {bs : List Nat} : ∀ a, lim fx env σ bs a → fx a ∨ own env σ a:=by
 rintro a (z | ⟨i, d, h1, h2, h3⟩)
 ·exact .inl z
 ·exact .inr ⟨i, d, h2, h3⟩
theorem zafb {fx : Addr → Prop} {env : DEnv} {σ : St} : ∀ a, fx a ∨ own env σ a → lim fx env σ [] a:=by
 rintro a (z | ⟨i, d, h2, h3⟩)
 ·exact .inl z
 ·exact .inr ⟨i, d, by simp, h2, h3⟩
theorem EnvOk.lims {fx : Addr → Prop} {H0 : Hp} {env : DEnv} {σ : St} {H : Hp} (h : EnvOk fx H0 env σ H) (bs : List Nat) : ∀ b, lim fx env σ bs b → ∃ o, H b = some o:=by
 rintro b (z | ⟨i, d, h1, h2, h3⟩)
 ·exact h.fxs b z
 ·obtain ⟨a, g1, g2, g3, g4⟩:=h.ac i d h2
  rw [h3] at g1
  cases g1
  exact g4.ex
theorem ValOk.later {A B : Addr → Prop} {H0 H H' H'' : Hp} {r : Val} {v : V} (h : ValOk A H H' r v) (s0 : Same H0 H) (s : Same H' H'') (hB : ∀ b, B b → A b) : ValOk B H0 H'' r v:=by
 refine ⟨Rp.same (Offs.mono s fun b _ _ n z=>n (hB b z)) _ h.rp, fun e=>?_⟩
 obtain ⟨a, h1, h2, h3⟩:=h.fr e
 exact ⟨a, h1, s0.free h2, h3.same (Offs.mono s fun b _ _ n z=>n (z.elim (fun y=>.inl (hB b y)) .inr)) fun o=>s a o⟩
noncomputable def zdv : PyData → Bool
 | .list _=>false
 | .tuple _=>false
 | .dict _=>false
 | _=>true
theorem ztd {H H' : Hp} {d : PyData} {v : V} (f : zdv d = true) (h : Rp H d v) : Rp H' d v:=by
 cases d <;> first
  | (unfold Rp at h ⊢; exact h)
  | cases f
noncomputable def bsOf (d : PyData) (bs : List Nat) : List Nat:=if zdv d = true then [] else bs
theorem zoy {fx : Addr → Prop} {env : DEnv} {σ : St} {bs : List Nat} {H : Hp} {d : PyData} {v : V} (h : Rp (Offs (lim fx env σ bs) H) d v) : Rp (Offs (lim fx env σ (bsOf d bs)) H) d v:=by
 unfold bsOf
 split
 ·rename_i e; exact ztd e h
 ·exact h
noncomputable abbrev EF:=DEnv → Option Val
noncomputable def SE (te : TE) (f : EF) : Prop:=∀ (fx : Addr → Prop) (H0 : Hp) (env : DEnv) (σ : St) (H : Hp), EnvOk fx H0 env σ H → ∀ r, f env = some r → ∀ Q : VK, (∀ v H', Same H H' → ValOk (lim fx env σ r.bs) H H' r v → Q v H') → te σ H Q
noncomputable abbrev TF:=DEnv → Option Bool
noncomputable def ST (tt : TT) (f : TF) : Prop:=∀ (fx : Addr → Prop) (H0 : Hp) (env : DEnv) (σ : St) (H : Hp), EnvOk fx H0 env σ H → ∀ b, f env = some b → ∀ Q : Bool → Hp → Prop, (∀ H', Same H H' → Q b H') → tt σ H Q
noncomputable abbrev AF:=DEnv → Option (List Val)
noncomputable def SA (ta : TA) (f : AF) : Prop:=∀ (fx : Addr → Prop) (H0 : Hp) (env : DEnv) (σ : St) (H : Hp), EnvOk fx H0 env σ H → ∀ rs, f env = some rs → ∀ Q : List V → Hp → Prop,
 (∀ vs H', Same H H' → Paired (fun r v=>ValOk (lim fx env σ r.bs) H H' r v) rs vs → Q vs H') → ta σ H Q
section
variable {X : Cx}
noncomputable def eVar (i : Nat) : EF:=fun env=>match env[i]? with
 | some (.pl d)=>some ⟨d, false, []⟩
 | some (.ac d)=>some ⟨d, false, [i]⟩
 | _=>none
theorem zac (i : Nat) : SE (tVar i) (eVar i):=by
 intro fx H0 env σ H h r hr Q q
 unfold eVar at hr
 cases e : env[i]? with
 | none=>rw [e] at hr; cases hr
 | some sl =>
  rw [e] at hr
  cases sl with
  | no=>cases hr
  | pl d =>
   cases hr
   obtain ⟨v, h1, h2⟩:=h.pl i d e
   exact ⟨v, h1, q v H (Same.refl _) ⟨Rp.same (Offs.sub zll) _ h2, fun z=>by cases z⟩⟩
  | ac d =>
   cases hr
   obtain ⟨a, h1, h2, h3, h4⟩:=h.ac i d e
   have hna : ¬ lim fx env σ [i] a:=by
    rintro (z | ⟨j, d', g1, g2, g3⟩)
    ·exact h3 z
    ·exact g1 (List.mem_singleton.mpr (h.inj j i d' d a g2 e g3 h1))
   exact ⟨_, h1, q _ H (Same.refl _) ⟨h4.rp (Offs.sub zll) fun o z=>by rw [Offs.get hna]; exact z, fun z=>by cases z⟩⟩
noncomputable def eC (d : PyData) : EF:=fun _=>some ⟨d, false, []⟩
theorem se_c {d : PyData} {v : V} (h : ∀ H, Rp H d v) : SE (tC v) (eC d):=by
 intro fx H0 env σ H _ r hr Q q
 cases hr
 exact q v H (Same.refl _) ⟨h _, fun z=>by cases z⟩
noncomputable abbrev OF:=PyData → PyData → Option (PyData × Bool)
noncomputable def SO (r : R2) (f : OF) : Prop:=∀ (A : Addr → Prop) (H : Hp) (x y : V) (dx dy : PyData), (∀ b, A b → ∃ o, H b = some o) → Rp (Offs A H) dx x → Rp (Offs A H) dy y → ∀ d fr, f dx dy = some (d, fr) → ∀ Q : VK,
 (∀ v H', Same H H' → Rp (Offs A H') d v → (fr = true → ∃ a, v = .ref a ∧ H a = none ∧ zgi (Offs (fun b=>A b ∨ b = a) H') H' a d) → Q v H') → r x y H Q
noncomputable def eOp (f : OF) (a b : EF) : EF:=fun env=>(a env).bind fun x=>(b env).bind fun y=>(f x.d y.d).bind fun z=>some ⟨z.1, z.2, bsOf z.1 (x.bs ++ y.bs)⟩
theorem zba {r : R2} {f : OF} {ta tb : TE} {fa fb : EF} (ho : SO r f) (ha : SE ta fa) (hb : SE tb fb) : SE (tOp r ta tb) (eOp f fa fb):=by
 intro fx H0 env σ H h rr hr Q q
 unfold eOp at hr
 obtain ⟨x, ex, hr⟩:=Option.bind_eq_some_iff.mp hr
 obtain ⟨y, ey, hr⟩:=Option.bind_eq_some_iff.mp hr
 obtain ⟨⟨d, fr⟩, ez, hr⟩:=Option.bind_eq_some_iff.mp hr
 cases hr
 refine ha fx H0 env σ H h x ex _ fun v H1 s1 v1=>hb fx H0 env σ H1 (h.up s1) y ey _ fun u H2 s2 v2=>?_
 have l1 : ∀ b, lim fx env σ (x.bs ++ y.bs) b → lim fx env σ x.bs b:=ztc fun i hi=>List.mem_append_left _ hi
 have l2 : ∀ b, lim fx env σ (x.bs ++ y.bs) b → lim fx env σ y.bs b:=ztc fun i hi=>List.mem_append_right _ hi
 refine ho (lim fx env σ (x.bs ++ y.bs)) H2 v u x.d y.d ((h.up (s1.trans s2)).lims _) (v1.later (Same.refl _) s2 l1).rp (v2.later (Same.refl _) (Same.refl _) l2).rp d fr ez _ fun w H3 s3 rp fr3=>q w H3 ((s1.trans s2).trans s3) ⟨zoy rp, fun e=>?_⟩
 obtain ⟨a, g1, g2, g3⟩:=fr3 e
 refine ⟨a, g1, (s1.trans s2).free g2, ?_⟩
 have nf : zdv d = false:=by cases d <;> first | rfl | exact g3.elim
 show zgi (Offs (fun b=>lim fx env σ (bsOf d (x.bs ++ y.bs)) b ∨ b = a) H3) H3 a d
 rw [show bsOf d (x.bs ++ y.bs) = x.bs ++ y.bs by unfold bsOf; rw [if_neg (by rw [nf]; decide)]]
 exact g3
end
end L2
namespace L2
open PySem PySem.Spec PyProof.Rows
theorem zfn {n : Nat} (h : n ≤ 100000) : n ≤ sizeLine:=Nat.le_trans h (by decide)
theorem zkd {n : Nat} (h : n < 100000) : n < sizeLine:=Nat.lt_trans h (by decide)
theorem zdy {A : Addr → Prop} {H : Hp} (hA : ∀ b, A b → ∃ o, H b = some o) {p : Addr} (hp : H p = none) : ¬ A p:=fun z=>by
 obtain ⟨o, e⟩:=hA p z
 rw [hp] at e; cases e
theorem zoz {A : Addr → Prop} {H : Hp} {p : Addr} {ds : List PyData} {xs : List V} (hp : H p = none) (r : Rps (Offs A H) ds xs) : zgi (Offs (fun b=>A b ∨ b = p) (upd H p (.lst xs))) (upd H p (.lst xs)) p (.list ds):=by
 refine ⟨xs, zav, Rps.same (Offs.mono (Same.new hp) fun b o e n z=>?_) _ r⟩
 rcases z with z | z
 ·exact n z
 ·rw [z, hp] at e; cases e
theorem zus {A : Addr → Prop} {H : Hp} {p : Addr} {ds : List PyData} {xs : List V} (hp : H p = none) (hA : ¬ A p) (r : Rps (Offs A H) ds xs) : Rp (Offs A (upd H p (.lst xs))) (.list ds) (.ref p) :=
 zdx (by rw [Offs.get hA]; exact zav) (Rps.same (Offs.grow (Same.new hp)) _ r)
theorem zpa {A : Addr → Prop} {H : Hp} {p : Addr} {ds : List PyData} {xs : List V} (hp : H p = none) (hA : ¬ A p) (r : Rps (Offs A H) ds xs) : Rp (Offs A (upd H p (.tup xs))) (.tuple ds) (.ref p) :=
 ztb (by rw [Offs.get hA]; exact zav) (Rps.same (Offs.grow (Same.new hp)) _ r)
theorem zce {A : Addr → Prop} {H : Hp} {a : Addr} {o : HO} (h : Offs A H a = some o) : H a = some o:=(Offs.of h).2
noncomputable def addD : OF
 | .int i, .int j=>some (.int (i + j), false)
 | .str a, .str b=>if a.length + b.length ≤ 100000 then some (.str (a ++ b), false) else none
 | .list a, .list b=>if a.length + b.length ≤ 100000 then some (.list (a ++ b), true) else none
 | .tuple a, .tuple b=>if a.isEmpty = false ∧ a.length + b.length ≤ 100000 then some (.tuple (a ++ b), false) else none
 | _, _=>none
theorem zhi {K : PySem.W.Frag} : SO (zaey K) addD:=by
 intro A H x y dx dy hA rx ry d fr e Q q
 unfold addD at e
 split at e
 ·cases e
  cases zdo rx; cases zdo ry
  exact q _ H (Same.refl _) zah (fun z=>by cases z)
 ·split at e
  ·rename_i hl
   cases e
   cases zix rx; cases zix ry
   exact ⟨zfn hl, q _ H (Same.refl _) zgg (fun z=>by cases z)⟩
  ·cases e
 ·split at e
  ·rename_i hl
   cases e
   obtain ⟨p, xs, rfl, hp, r1⟩:=zcv rx
   obtain ⟨p', ys, rfl, hp', r2⟩:=zcv ry
   refine .inl ⟨p, p', xs, ys, rfl, rfl, zce hp, zce hp', zfn (by rw [← r1.length, ← r2.length]; exact hl), fun b hb=>?_⟩
   exact q _ _ (Same.new hb) (zus hb (zdy hA hb) (r1.append r2)) fun _=>⟨b, rfl, hb, zoz hb (r1.append r2)⟩
  ·cases e
 ·split at e
  ·rename_i hl
   cases e
   obtain ⟨p, xs, rfl, hp, r1⟩:=zci rx
   obtain ⟨p', ys, rfl, hp', r2⟩:=zci ry
   refine .inr ⟨p, p', xs, ys, rfl, rfl, SqT.of (zce hp), SqT.of (zce hp'), fun z=>?_, zfn (by rw [← r1.length, ← r2.length]; exact hl.2), fun z=>?_, fun _ b hb=>?_⟩
   ·have h1:=r1.length
    have h0:=hl.1
    rw [z] at h1
    rw [List.isEmpty_eq_false_iff] at h0
    exact h0 (List.length_eq_zero_iff.mp h1)
   ·have h2:=r2.length
    rw [z] at h2
    have:=List.length_eq_zero_iff.mp h2
    subst this
    rw [List.append_nil] at q
    exact q _ H (Same.refl _) rx (fun z=>by cases z)
   ·exact q _ _ (Same.new hb) (zpa hb (zdy hA hb) (r1.append r2)) (fun z=>by cases z)
  ·cases e
 ·cases e
noncomputable def intD (c : Int → Int → Bool) (f : Int → Int → PyData) : OF
 | .int i, .int j=>if c i j = true then some (f i j, false) else none
 | _, _=>none
theorem zadf {C : Int → Int → Prop} {g : Int → Int → V} {c : Int → Int → Bool} {f : Int → Int → PyData} (hc : ∀ i j, c i j = true → C i j) (hf : ∀ H i j, Rp H (f i j) (g i j)) : SO (rI C g) (intD c f):=by
 intro A H x y dx dy hA rx ry d fr e Q q
 unfold intD at e
 split at e
 ·split at e
  ·rename_i h
   cases e
   cases zdo rx; cases zdo ry
   exact ⟨_, _, rfl, rfl, hc _ _ h, q _ H (Same.refl _) (hf _ _ _) (fun z=>by cases z)⟩
  ·cases e
 ·cases e
noncomputable def modD : OF:=intD (fun _ j=>decide (0 < j)) fun i j=>.int (i % j)
theorem zey : SO (rI (fun _ j=>0 < j) fun i j=>.int (i % j)) modD:=zadf (fun _ _ h=>of_decide_eq_true h) fun _ _ _=>zah
noncomputable def zfc : OF:=intD (fun _ j=>decide (0 < j ∧ j < 1073741824)) fun i j=>.int (i / j)
theorem zgb : SO (rI CDiv fun i j=>.int (i / j)) zfc:=zadf (fun i j h=>(of_decide_eq_true h : 0 < j ∧ j < 1073741824)) fun _ _ _=>zah
noncomputable def mulD : OF
 | .int i, .int j=>if (-(2 ^ 64) < i ∧ i < 2 ^ 64) ∨ (-(2 ^ 64) < j ∧ j < 2 ^ 64) then some (.int (i * j), false) else none
 | .str z, .int n=>if z.length ≤ 1000 ∧ -1000 ≤ n ∧ n ≤ 1000 then some (.str (Txt.mul z n), false) else none
 | _, _=>none
theorem zqm : SO zahx mulD:=by
 intro A H x y dx dy hA rx ry d fr e Q q
 unfold mulD at e
 split at e
 ·split at e
  ·rename_i h
   cases e
   cases zdo rx; cases zdo ry
   exact ⟨h, q _ H (Same.refl _) zah (fun z=>by cases z)⟩
  ·cases e
 ·split at e
  ·rename_i h
   cases e
   cases zix rx; cases zdo ry
   exact ⟨h.1, h.2.1, h.2.2, q _ H (Same.refl _) zgg (fun z=>by cases z)⟩
  ·cases e
 ·cases e
mutual
theorem zqn {K : PySem.W.Frag} {H : Hp} : ∀ {d : PyData} {v : V}, d.canLay0 = true → Rp H d v → Rep K H d v
 | .none, v, _, h=>by unfold Rp at h; unfold Rep; exact h
 | .bool b, v, _, h=>by unfold Rp at h; unfold Rep; exact h
 | .int i, v, _, h=>by unfold Rp at h; unfold Rep; exact h
 | .str x, v, _, h=>by unfold Rp at h; unfold Rep; exact h
 | .list ds, v, c, h=>by
  obtain ⟨a, xs, e, h1, h2⟩:=zcv h
  unfold Rep
  exact ⟨a, xs, e, SqL.of h1, zpb (by simpa [PyData.canLay0] using c) h2⟩
 | .tuple ds, v, c, h=>by
  obtain ⟨a, xs, e, h1, h2⟩:=zci h
  unfold Rep
  exact ⟨a, xs, e, SqT.of h1, zpb (by simpa [PyData.canLay0] using c) h2⟩
 | .dict _, v, c, h=>by simp [PyData.canLay0] at c
theorem zpb {K : PySem.W.Frag} {H : Hp} : ∀ {ds : List PyData} {vs : List V}, PyData.canLayAll0 ds = true → Rps H ds vs → Reps K H ds vs
 | [], vs, _, h=>by unfold Rps at h; unfold Reps; exact h
 | d :: ds, vs, c, h=>by
  unfold Rps at h
  obtain ⟨v, ws, e, h1, h2⟩:=h
  have c : d.canLay0 = true ∧ PyData.canLayAll0 ds = true:=by simpa [PyData.canLayAll0] using c
  unfold Reps
  exact ⟨v, ws, e, zqn c.1 h1, zpb c.2 h2⟩
end
noncomputable def zabn : PyData → PyData → Bool
 | .none, .none=>true | .none, .int _=>true | .int _, .none=>true | .none, .bool _=>true | .bool _, .none=>true | .none, .str _=>true | .str _, .none=>true
 | .int _, .int _=>true | .bool _, .bool _=>true | .str _, .str _=>true
 | .int _, .str _=>true | .str _, .int _=>true | .bool _, .str _=>true | .str _, .bool _=>true
 | _, _=>false
noncomputable def eqOk (dx dy : PyData) : Bool:=zabn dx dy || (SeqAt.shaped dx && SeqAt.shaped dy)
noncomputable def eqD : OF:=fun dx dy=>if eqOk dx dy = true then some (.bool (PyData.eqv dx dy), false) else none
noncomputable def neD : OF:=fun dx dy=>if eqOk dx dy = true then some (.bool (!PyData.eqv dx dy), false) else none
theorem zxy {H : Hp} {dx dy : PyData} {x y : V} (s : zabn dx dy = true) (rx : Rp H dx x) (ry : Rp H dy y) : scal x y = true ∧ decide (x = y) = PyData.eqv dx dy:=by
 cases dx <;> cases dy <;> first
  | (exact absurd (show false = true from s) Bool.false_ne_true)
  | (unfold Rp at rx ry; subst rx; subst ry; refine ⟨rfl, ?_⟩; first | rfl | exact zss | exact zwv | exact zst | simp [PyData.eqv])
theorem zqo {K : PySem.W.Frag} : SO (fun x y H Q=>rEq x y H Q ∨ rEqD K false x y H Q) eqD:=by
 intro A H x y dx dy hA rx ry d fr e Q q
 unfold eqD at e
 split at e
 ·rename_i h
  cases e
  cases hs : zabn dx dy with
  | true =>
   obtain ⟨h1, h2⟩:=zxy hs rx ry
   exact .inl ⟨h1, by rw [h2]; exact q _ H (Same.refl _) zas (fun z=>by cases z)⟩
  | false =>
   unfold eqOk at h
   rw [hs, Bool.false_or, Bool.and_eq_true] at h
   have rx:=Rp.same (Offs.same A H) _ rx
   have ry:=Rp.same (Offs.same A H) _ ry
   exact .inr ⟨dx, dy, zqn (SeqAt.canLay_of_shaped h.1) rx, zqn (SeqAt.canLay_of_shaped h.2) ry, h.1, h.2, q _ H (Same.refl _) zas (fun z=>by cases z)⟩
 ·cases e
theorem zqp {K : PySem.W.Frag} : SO (fun x y H Q=>rNe x y H Q ∨ rEqD K true x y H Q) neD:=by
 intro A H x y dx dy hA rx ry d fr e Q q
 unfold neD at e
 split at e
 ·rename_i h
  cases e
  cases hs : zabn dx dy with
  | true =>
   obtain ⟨h1, h2⟩:=zxy hs rx ry
   exact .inl ⟨h1, by rw [h2]; exact q _ H (Same.refl _) zas (fun z=>by cases z)⟩
  | false =>
   unfold eqOk at h
   rw [hs, Bool.false_or, Bool.and_eq_true] at h
   have rx:=Rp.same (Offs.same A H) _ rx
   have ry:=Rp.same (Offs.same A H) _ ry
   exact .inr ⟨dx, dy, zqn (SeqAt.canLay_of_shaped h.1) rx, zqn (SeqAt.canLay_of_shaped h.2) ry, h.1, h.2, q _ H (Same.refl _) zas (fun z=>by cases z)⟩
 ·cases e
noncomputable def zdw (ds : List PyData) : Bool:=ds.all zdv
theorem zadg {H : Hp} {d : PyData} {v : V} (f : zdv d = true) (h : Rp H d v) : zni v = true:=by
 cases d <;> first
  | (unfold Rp at h; subst h; rfl)
  | cases f
theorem zafc {H : Hp} {ds : List PyData} {vs : List V} (f : zdw ds = true) (h : Rps H ds vs) : vs.all zni = true:=by
 replace h:=zcl.mp h
 induction h with
 | nil=>rfl
 | cons h _ ih =>
  unfold zdw at f
  rw [List.all_cons, Bool.and_eq_true] at f
  rw [List.all_cons, zadg f.1 h, ih f.2]; rfl
theorem zafd {H : Hp} {d e : PyData} {v u : V} (f : zdv d = true) (g : zdv e = true) (h : Rp H d v) (k : Rp H e u) : eqV v u = PyData.eqv d e:=by
 cases d <;> cases e <;> first
  | (unfold Rp at h k; subst h; subst k; rfl)
  | exact absurd (show false = true from f) Bool.false_ne_true
  | exact absurd (show false = true from g) Bool.false_ne_true
theorem zafe {H : Hp} {d : PyData} {v : V} (f : zdv d = true) (h : Rp H d v) {ds : List PyData} {vs : List V} (g : zdw ds = true) (r : Rps H ds vs) : inV v vs = ds.any fun e=>PyData.eqv e d:=by
 replace r:=zcl.mp r
 unfold inV
 induction r with
 | nil=>rfl
 | cons r _ ih =>
  unfold zdw at g
  rw [List.all_cons, Bool.and_eq_true] at g
  rw [List.any_cons, List.any_cons, zafd g.1 f r h, ih g.2]
noncomputable def ziy : PyData → Option (List PyData)
 | .list ds=>some ds
 | .tuple ds=>some ds
 | _=>none
noncomputable def inD (neg : Bool) : OF:=fun d c=>match ziy c with
 | some ds=>if zdv d = true ∧ zdw ds = true then some (.bool (if neg then !(ds.any fun e=>PyData.eqv e d) else ds.any fun e=>PyData.eqv e d), false) else none
 | none=>none
theorem zut {K : PySem.W.Frag} {H : Hp} {c : PyData} {v : V} {ds : List PyData} (h : Rp H c v) (e : ziy c = some ds) : ∃ p xs, v = .ref p ∧ (SqL K H p xs ∨ SqT K H p xs) ∧ Rps H ds xs:=by
 cases c <;> first
  | cases e
  | skip
 ·obtain ⟨a, xs, e, h1, h2⟩:=zcv h; exact ⟨a, xs, e, .inl (SqL.of h1), h2⟩
 ·obtain ⟨a, xs, e, h1, h2⟩:=zci h; exact ⟨a, xs, e, .inr (SqT.of h1), h2⟩
theorem zke {K : PySem.W.Frag} {neg : Bool} : SO (rIn K neg) (inD neg):=by
 intro A H x y dx dy hA rx ry d fr e Q q
 unfold inD at e
 split at e
 ·rename_i ds hi
  split at e
  ·rename_i h
   cases e
   have rx:=Rp.same (Offs.same A H) _ rx
   obtain ⟨p, xs, rfl, hq, r⟩:=zut (K:=K) (Rp.same (Offs.same A H) _ ry) hi
   refine ⟨p, xs, rfl, hq, zadg h.1 rx, zafc h.2 r, ?_⟩
   rw [zafe h.1 rx h.2 r]
   refine q _ H (Same.refl _) ?_ (fun z=>by cases z)
   cases neg <;> exact zas
  ·cases e
 ·cases e
noncomputable def ixD : OF
 | .str z, .int i=>if z.length ≤ 100000 then (atI z.cps.toList i).map fun c=>(.str ⟨#[c]⟩, false) else none
 | .list ds, .int i=>(atI ds i).map fun d=>(d, false)
 | .tuple ds, .int i=>(atI ds i).map fun d=>(d, false)
 | _, _=>none
theorem Rps.atI {H : Hp} {ds : List PyData} {vs : List V} (h : Rps H ds vs) {i : Int} {d : PyData} (e : atI ds i = some d) : ∃ v, L2.atI vs i = some v ∧ Rp H d v:=by
 unfold L2.atI at e ⊢
 rw [← h.length]
 cases g : ixN ds.length i with
 | none=>rw [g] at e; cases e
 | some j =>
  rw [g] at e
  exact h.get2 e
theorem zaff {K : PySem.W.Frag} : SO (rIxU K) ixD:=by
 intro A H x y dx dy hA rx ry d fr e Q q
 unfold ixD at e
 split at e
 ·split at e
  ·rename_i z i hl
   obtain ⟨c, hc, e⟩:=Option.map_eq_some_iff.mp e
   cases e
   cases zix rx; cases zdo ry
   exact ⟨zfn hl, c, hc, q _ H (Same.refl _) zgg (fun z=>by cases z)⟩
  ·cases e
 ·obtain ⟨c, hc, e⟩:=Option.map_eq_some_iff.mp e
  cases e
  obtain ⟨p, xs, rfl, hp, r⟩:=zcv rx
  cases zdo ry
  obtain ⟨v, hv, rv⟩:=r.atI hc
  exact ⟨xs, v, .inl (SqL.of (zce hp)), hv, q _ H (Same.refl _) rv (fun z=>by cases z)⟩
 ·obtain ⟨c, hc, e⟩:=Option.map_eq_some_iff.mp e
  cases e
  obtain ⟨p, xs, rfl, hp, r⟩:=zci rx
  cases zdo ry
  obtain ⟨v, hv, rv⟩:=r.atI hc
  exact ⟨xs, v, .inr (SqT.of (zce hp)), hv, q _ H (Same.refl _) rv (fun z=>by cases z)⟩
 ·cases e
end L2
namespace L2
open PySem PySem.Spec PyProof.Rows
noncomputable def ziv : List (PyData × PyData) → Key → Option PyData
 | [], _=>none
 | (k, d) :: r, j=>if keyD k = some j then some d else ziv r j
noncomputable def zte (kvs : List (PyData × PyData)) (j : Key) : Bool:=(ziv kvs j).isSome
noncomputable def zhp (kvs : List (PyData × PyData)) (k : PyData) (d : PyData) : List (PyData × PyData) :=
 if (kvs.any fun kv=>decide (keyD kv.1 = keyD k)) = true then kvs.map (fun kv=>if keyD kv.1 = keyD k then (kv.1, d) else kv) else kvs ++ [(k, d)]
noncomputable def zgc (kvs more : List (PyData × PyData)) : List (PyData × PyData):=more.foldl (fun acc kv=>zhp acc kv.1 kv.2) kvs
theorem zgv {H : Hp} {k d : PyData} {r : List (PyData × PyData)} {k' : Key} {v : V} {vs : List (Key × V)} (hk : keyD k = some k') (h : Rp H d v) (q : Rpd H r vs) : Rpd H ((k, d) :: r) ((k', v) :: vs):=by
 show Rpd H ((k, d) :: r) _
 unfold Rpd; exact ⟨k', v, vs, rfl, hk, h, q⟩
theorem zfg {H : Hp} {k d : PyData} {r : List (PyData × PyData)} {ps : List (Key × V)} (h : Rpd H ((k, d) :: r) ps) : ∃ k' v vs, ps = (k', v) :: vs ∧ keyD k = some k' ∧ Rp H d v ∧ Rpd H r vs:=by
 unfold Rpd at h; exact h
theorem Rpd.length {H : Hp} : ∀ {kvs : List (PyData × PyData)} {ps : List (Key × V)}, Rpd H kvs ps → kvs.length = ps.length
 | [], ps, h=>by unfold Rpd at h; subst h; rfl
 | (k, d) :: r, ps, h=>by
  obtain ⟨k', v, vs, rfl, _, _, h3⟩:=zfg h
  rw [List.length_cons, List.length_cons, h3.length]
theorem Rpd.get {H : Hp} {j : Key} : ∀ {kvs : List (PyData × PyData)} {ps : List (Key × V)}, Rpd H kvs ps → match ziv kvs j with
  | some d=>∃ v, valV ps j = some v ∧ Rp H d v
  | none=>valV ps j = none
 | [], ps, h=>by unfold Rpd at h; subst h; rfl
 | (k, d) :: r, ps, h=>by
  obtain ⟨k', v, vs, rfl, hk, h2, h3⟩:=zfg h
  have ih:=Rpd.get (j:=j) h3
  unfold ziv
  by_cases e : k' = j
  ·rw [if_pos (by rw [hk, e])]
   exact ⟨v, zdc e, h2⟩
  ·rw [if_neg (fun z=>e (by rw [hk] at z; exact Option.some.inj z)), zdd e]
   exact ih
theorem Rpd.any {H : Hp} {j : Key} : ∀ {kvs : List (PyData × PyData)} {ps : List (Key × V)}, Rpd H kvs ps → (kvs.any fun kv=>decide (keyD kv.1 = some j)) = ps.any fun kv=>decide (kv.1 = j)
 | [], ps, h=>by unfold Rpd at h; subst h; rfl
 | (k, d) :: r, ps, h=>by
  obtain ⟨k', v, vs, rfl, hk, h2, h3⟩:=zfg h
  rw [List.any_cons, List.any_cons, h3.any, hk]
  congr 1
  simp
theorem Rpd.map {H : Hp} {j : Key} {d' : PyData} {v' : V} (h' : Rp H d' v') : ∀ {kvs : List (PyData × PyData)} {ps : List (Key × V)}, Rpd H kvs ps → Rpd H (kvs.map fun kv=>if keyD kv.1 = some j then (kv.1, d') else kv) (ps.map fun kv=>if kv.1 = j then (kv.1, v') else kv)
 | [], ps, h=>by unfold Rpd at h; subst h; exact zho
 | (k, d) :: r, ps, h=>by
  obtain ⟨k', v, vs, rfl, hk, h2, h3⟩:=zfg h
  rw [List.map_cons, List.map_cons]
  by_cases e : k' = j
  ·rw [if_pos (show keyD (k, d).1 = some j by rw [hk, e]), if_pos (show ((k', v) : Key × V).1 = j from e)]
   exact zgv hk h' (Rpd.map h' h3)
  ·rw [if_neg (show ¬ keyD (k, d).1 = some j from fun z=>e (by rw [hk] at z; exact Option.some.inj z)), if_neg (show ¬ ((k', v) : Key × V).1 = j from e)]
   exact zgv hk h2 (Rpd.map h' h3)
theorem Rpd.snoc {H : Hp} {k d : PyData} {k' : Key} {v : V} (hk : keyD k = some k') (h' : Rp H d v) : ∀ {kvs : List (PyData × PyData)} {ps : List (Key × V)}, Rpd H kvs ps → Rpd H (kvs ++ [(k, d)]) (ps ++ [(k', v)])
 | [], ps, h=>by unfold Rpd at h; subst h; exact zgv hk h' zho
 | (k0, d0) :: r, ps, h=>by
  obtain ⟨k1, v1, vs, rfl, hk1, h2, h3⟩:=zfg h
  exact zgv hk1 h2 (Rpd.snoc hk h' h3)
theorem Rpd.put {H : Hp} {k d : PyData} {j : Key} {v : V} {kvs : List (PyData × PyData)} {ps : List (Key × V)} (h : Rpd H kvs ps) (hk : keyD k = some j) (h' : Rp H d v) : Rpd H (zhp kvs k d) (putK ps j v):=by
 unfold zhp putK
 rw [hk, h.any]
 split
 ·exact h.map h'
 ·exact h.snoc hk h'
theorem Rpd.merge {H : Hp} : ∀ {more : List (PyData × PyData)} {ps : List (Key × V)} {kvs : List (PyData × PyData)} {qs : List (Key × V)}, Rpd H kvs qs → Rpd H more ps → Rpd H (zgc kvs more) (zfz qs ps)
 | [], ps, kvs, qs, h, g=>by unfold Rpd at g; subst g; exact h
 | (k, d) :: r, ps, kvs, qs, h, g=>by
  obtain ⟨k', v, vs, rfl, hk, h2, h3⟩:=zfg g
  show Rpd H (zgc (zhp kvs k d) r) (zfz (putK qs k' v) vs)
  exact Rpd.merge (h.put hk h2) h3
theorem ztf {H : Hp} {d : PyData} {v : V} {k : Key} (h : Rp H d v) (e : keyD d = some k) : v = kV k:=by
 cases d <;> first
  | (cases e; unfold Rp at h; exact h)
  | cases e
noncomputable def zxz (a b : EF) : EF:=fun env=>(a env).bind fun x=>(b env).bind fun y=>match x.d with
 | .dict kvs=>(keyD y.d).bind fun k=>(ziv kvs k).bind fun d=>some ⟨d, false, bsOf d x.bs⟩
 | _=>none
theorem zafg {td ty : TE} {fa fb : EF} (ha : SE td fa) (hb : SE ty fb) : SE (tDGet td ty) (zxz fa fb):=by
 intro fx H0 env σ H h rr hr Q q
 unfold zxz at hr
 obtain ⟨⟨dx, frx, bx⟩, ex, hr⟩:=Option.bind_eq_some_iff.mp hr
 obtain ⟨⟨dy, fry, by'⟩, ey, hr⟩:=Option.bind_eq_some_iff.mp hr
 cases dx with
 | dict kvs =>
  obtain ⟨k, ek, hr⟩:=Option.bind_eq_some_iff.mp hr
  obtain ⟨d, ed, hr⟩:=Option.bind_eq_some_iff.mp hr
  cases hr
  refine ha fx H0 env σ H h _ ex _ fun v H1 s1 v1=>hb fx H0 env σ H1 (h.up s1) _ ey _ fun u H2 s2 v2=>?_
  obtain ⟨a, ps, rfl, hp, r⟩:=zhn (v1.later (Same.refl _) s2 fun _ z=>z).rp
  have g:=r.get (j:=k)
  rw [ed] at g
  obtain ⟨w, e1, e2⟩:=g
  rw [ztf v2.rp ek]
  have dg:=DGet.k (k:=k) (zce hp)
  rw [e1] at dg
  exact ⟨a, w, rfl, dg, q w H2 (s1.trans s2) ⟨zoy e2, fun z=>by cases z⟩⟩
 | _=>cases hr
noncomputable def eDIn (neg : Bool) (a b : EF) : EF:=fun env=>(a env).bind fun x=>(b env).bind fun y=>match y.d with
 | .dict kvs=>(keyD x.d).bind fun k=>some ⟨.bool (if neg then !zte kvs k else zte kvs k), false, []⟩
 | _=>none
theorem zya {H : Hp} {kvs : List (PyData × PyData)} {ps : List (Key × V)} (r : Rpd H kvs ps) (k : Key) : (valV ps k).isSome = zte kvs k:=by
 have g:=r.get (j:=k)
 unfold zte
 cases e : ziv kvs k with
 | none=>rw [e] at g; rw [show valV ps k = none from g]; rfl
 | some d=>rw [e] at g; obtain ⟨w, e1, _⟩:=g; rw [e1]; rfl
theorem zuu {td ty : TE} {fa fb : EF} (ha : SE ty fa) (hb : SE td fb) : SE (tDIn ty td) (eDIn false fa fb):=by
 intro fx H0 env σ H h rr hr Q q
 unfold eDIn at hr
 obtain ⟨⟨dx, frx, bx⟩, ex, hr⟩:=Option.bind_eq_some_iff.mp hr
 obtain ⟨⟨dy, fry, by'⟩, ey, hr⟩:=Option.bind_eq_some_iff.mp hr
 cases dy with
 | dict kvs =>
  obtain ⟨k, ek, hr⟩:=Option.bind_eq_some_iff.mp hr
  cases hr
  refine ha fx H0 env σ H h _ ex _ fun v H1 s1 v1=>hb fx H0 env σ H1 (h.up s1) _ ey _ fun u H2 s2 v2=>?_
  obtain ⟨a, ps, rfl, hp, r⟩:=zhn v2.rp
  rw [ztf v1.rp ek]
  exact ⟨a, _, rfl, DGet.k (zce hp), by rw [zya r k]; exact q _ H2 (s1.trans s2) ⟨zas, fun z=>by cases z⟩⟩
 | _=>cases hr
theorem zyb {td ty : TE} {fa fb : EF} (ha : SE ty fa) (hb : SE td fb) : SE (tDNotIn ty td) (eDIn true fa fb):=by
 intro fx H0 env σ H h rr hr Q q
 unfold eDIn at hr
 obtain ⟨⟨dx, frx, bx⟩, ex, hr⟩:=Option.bind_eq_some_iff.mp hr
 obtain ⟨⟨dy, fry, by'⟩, ey, hr⟩:=Option.bind_eq_some_iff.mp hr
 cases dy with
 | dict kvs =>
  obtain ⟨k, ek, hr⟩:=Option.bind_eq_some_iff.mp hr
  cases hr
  refine ha fx H0 env σ H h _ ex _ fun v H1 s1 v1=>hb fx H0 env σ H1 (h.up s1) _ ey _ fun u H2 s2 v2=>?_
  obtain ⟨a, ps, rfl, hp, r⟩:=zhn v2.rp
  rw [ztf v1.rp ek]
  exact ⟨a, _, rfl, DGet.k (zce hp), by rw [zya r k]; exact q _ H2 (s1.trans s2) ⟨zas, fun z=>by cases z⟩⟩
 | _=>cases hr
noncomputable def zar (f : EF) : TF:=fun env=>(f env).bind fun r=>match r.d with | .bool b=>some b | _=>none
theorem st_b {te : TE} {f : EF} (h : SE te f) : ST (tB te) (zar f):=by
 intro fx H0 env σ H hE b hb Q q
 unfold zar at hb
 obtain ⟨⟨d, fr, bs⟩, e, hb⟩:=Option.bind_eq_some_iff.mp hb
 cases d with
 | bool c =>
  have hb : some c = some b:=hb
  cases hb
  exact h fx H0 env σ H hE _ e _ fun v H' s v1=>⟨_, zlk v1.rp, q H' s⟩
 | _=>cases hb
theorem st_t {te : TE} {f : EF} (h : SE te f) : ST (tTest te) (zar f):=st_b h
noncomputable def truD : PyData → Option Bool
 | .none=>some false
 | .bool b=>some b
 | .int i=>some (i != 0)
 | .str x=>if x.length ≤ 100000 then some ((x.length : Int) != 0) else none
 | .list ds=>some (!ds.isEmpty)
 | .tuple ds=>some (!ds.isEmpty)
 | .dict ds=>some (!ds.isEmpty)
noncomputable def tTru (f : EF) : TF:=fun env=>(f env).bind fun r=>truD r.d
theorem zjd {α β : Type} {xs : List α} {ys : List β} (h : xs.length = ys.length) : xs.isEmpty = ys.isEmpty:=by
 cases xs <;> cases ys <;> simp at h <;> rfl
theorem zajb {K : PySem.W.Frag} {H : Hp} {d : PyData} {v : V} {b : Bool} (h : Rp H d v) (e : truD d = some b) : TruV K v H b:=by
 cases d with
 | none=>cases e; cases zxx h; rfl
 | bool c=>cases e; cases zlk h; rfl
 | int i=>cases e; cases zdo h; rfl
 | str x =>
  have e : (if x.length ≤ 100000 then some ((x.length : Int) != 0) else none) = some b:=e
  split at e
  ·rename_i hl; cases e; cases zix h; exact ⟨zfn hl, rfl⟩
  ·cases e
 | list ds=>cases e; obtain ⟨a, xs, rfl, h1, h2⟩:=zcv h; exact .inl ⟨xs, SqL.of h1, by rw [zjd h2.length]⟩
 | tuple ds=>cases e; obtain ⟨a, xs, rfl, h1, h2⟩:=zci h; exact .inr (.inl ⟨xs, SqT.of h1, by rw [zjd h2.length]⟩)
 | dict ds=>cases e; obtain ⟨a, xs, rfl, h1, h2⟩:=zhn h; exact .inr (.inr ⟨xs, h1, by rw [zjd h2.length]⟩)
theorem zgj {K : PySem.W.Frag} {te : TE} {f : EF} (h : SE te f) : ST (fun σ H Q=>te σ H fun x H1=>∃ k, TruV K x H1 k ∧ Q k H1) (tTru f):=by
 intro fx H0 env σ H hE b hb Q q
 unfold tTru at hb
 obtain ⟨r, e, hb⟩:=Option.bind_eq_some_iff.mp hb
 exact h fx H0 env σ H hE _ e _ fun v H' s v1=>⟨b, zajb (Rp.same (Offs.same _ _) _ v1.rp) hb, q H' s⟩
noncomputable def znj (f g : TF) : TF:=fun env=>(f env).bind fun b=>if b = true then g env else some false
noncomputable def tOrF (f g : TF) : TF:=fun env=>(f env).bind fun b=>if b = true then some true else g env
noncomputable def zcr (f : TF) : TF:=fun env=>(f env).map fun b=>!b
theorem zadh {t u : TT} {f g : TF} (h : ST t f) (k : ST u g) : ST (tAnd t u) (znj f g):=by
 intro fx H0 env σ H hE b hb Q q
 unfold znj at hb
 obtain ⟨c, e, hb⟩:=Option.bind_eq_some_iff.mp hb
 refine h fx H0 env σ H hE c e _ fun H' s=>?_
 cases c with
 | true=>exact iteT (k fx H0 env σ H' (hE.up s) b hb _ fun H'' s'=>q H'' (s.trans s'))
 | false=>cases hb; exact iteF (q H' s)
theorem zpc {t u : TT} {f g : TF} (h : ST t f) (k : ST u g) : ST (tOr t u) (tOrF f g):=by
 intro fx H0 env σ H hE b hb Q q
 unfold tOrF at hb
 obtain ⟨c, e, hb⟩:=Option.bind_eq_some_iff.mp hb
 refine h fx H0 env σ H hE c e _ fun H' s=>?_
 cases c with
 | false=>exact iteF (k fx H0 env σ H' (hE.up s) b hb _ fun H'' s'=>q H'' (s.trans s'))
 | true=>cases hb; exact iteT (q H' s)
theorem zhq {t : TT} {f : TF} (h : ST t f) : ST (tNot t) (zcr f):=by
 intro fx H0 env σ H hE b hb Q q
 unfold zcr at hb
 obtain ⟨c, e, rfl⟩:=Option.map_eq_some_iff.mp hb
 exact h fx H0 env σ H hE c e _ fun H' s=>q H' s
noncomputable def ztg : PyData → Bool | .none=>true | _=>false
noncomputable def eIsN (neg : Bool) (a : EF) : EF:=fun env=>(a env).map fun x=>⟨.bool (if neg then !ztg x.d else ztg x.d), false, []⟩
theorem zajc {H : Hp} {d : PyData} {v : V} (h : Rp H d v) : decide (v = .non) = ztg d:=by
 cases d with
 | list ds=>obtain ⟨a, xs, rfl, _⟩:=zcv h; rfl
 | tuple ds=>obtain ⟨a, xs, rfl, _⟩:=zci h; rfl
 | dict ds=>obtain ⟨a, xs, rfl, _⟩:=zhn h; rfl
 | _=>unfold Rp at h; subst h; rfl
theorem znw {ta : TE} {fa : EF} (ha : SE ta fa) : SE (tIsN ta) (eIsN false fa):=by
 intro fx H0 env σ H h rr hr Q q
 unfold eIsN at hr
 obtain ⟨x, ex, rfl⟩:=Option.map_eq_some_iff.mp hr
 refine ha fx H0 env σ H h _ ex _ fun v H1 s1 v1=>?_
 rw [zajc v1.rp]
 exact q _ H1 s1 ⟨zas, fun z=>by cases z⟩
end L2
namespace L2
open PySem PySem.Spec PyProof.Rows
noncomputable def aNil : AF:=fun _=>some []
noncomputable def zad (a : EF) (r : AF) : AF:=fun env=>(a env).bind fun x=>(r env).map fun xs=>x :: xs
theorem zap : SA tNil aNil:=by
 intro fx H0 env σ H h rs hr Q q
 cases hr
 exact q [] H (Same.refl _) .nil
theorem zaf {te : TE} {ta : TA} {f : EF} {g : AF} (h1 : SE te f) (h2 : SA ta g) : SA (tCons te ta) (zad f g):=by
 intro fx H0 env σ H h rs hr Q q
 unfold zad at hr
 obtain ⟨x, ex, hr⟩:=Option.bind_eq_some_iff.mp hr
 obtain ⟨xs, exs, rfl⟩:=Option.map_eq_some_iff.mp hr
 exact h1 fx H0 env σ H h x ex _ fun v H1 s1 v1=>h2 fx H0 env σ H1 (h.up s1) xs exs _ fun vs H2 s2 vs2=>q (v :: vs) H2 (s1.trans s2)
  (.cons (v1.later (Same.refl _) s2 fun _ z=>z) (Paired.mapP vs2 fun _ _ z=>z.later s1 (Same.refl _) fun _ y=>y))
noncomputable def zje (rs : List Val) : List PyData:=rs.map (·.d)
noncomputable def bss (rs : List Val) : List Nat:=rs.flatMap (·.bs)
theorem zjo {fx : Addr → Prop} {env : DEnv} {σ : St} {H H' : Hp} : ∀ {rs : List Val} {vs : List V} {cs : List Nat}, (∀ i ∈ bss rs, i ∈ cs) → Paired (fun r v=>ValOk (lim fx env σ r.bs) H H' r v) rs vs → Rps (Offs (lim fx env σ cs) H') (zje rs) vs
 | _, _, _, _, .nil=>zdf
 | r :: rs, v :: vs, cs, hc, .cons h t=>zde (Rp.same (Offs.sub (ztc fun i hi=>hc i (List.mem_flatMap.mpr ⟨r, List.mem_cons_self, hi⟩))) _ h.rp)
   (zjo (fun i hi=>hc i (by obtain ⟨x, h1, h2⟩:=List.mem_flatMap.mp hi; exact List.mem_flatMap.mpr ⟨x, List.mem_cons_of_mem _ h1, h2⟩)) t)
noncomputable def eTup (f : AF) : EF:=fun env=>(f env).bind fun rs=>if rs.length ≤ 100000 then some ⟨.tuple (zje rs), false, bss rs⟩ else none
noncomputable def eLst (f : AF) : EF:=fun env=>(f env).bind fun rs=>if rs.length ≤ 100000 then some ⟨.list (zje rs), true, bss rs⟩ else none
theorem zlm (rs : List Val) : (zje rs).length = rs.length:=by unfold zje; rw [List.length_map]
theorem zyc {ta : TA} {f : AF} (ha : SA ta f) : SE (tTup ta) (eTup f):=by
 intro fx H0 env σ H h rr hr Q q
 unfold eTup at hr
 obtain ⟨rs, er, hr⟩:=Option.bind_eq_some_iff.mp hr
 split at hr
 ·rename_i hl
  cases hr
  refine ha fx H0 env σ H h rs er _ fun vs H1 s1 v1=>?_
  have r:=zjo (fun i hi=>hi) v1
  have hA:=(h.up s1).lims (bss rs)
  refine ⟨zfn (by rw [← r.length, zlm]; exact hl), fun p hp=>q _ _ (s1.trans (Same.new hp)) ⟨zpa hp (zdy hA hp) r, fun z=>by cases z⟩⟩
 ·cases hr
theorem zhr {ta : TA} {f : AF} (ha : SA ta f) : SE (tLst ta) (eLst f):=by
 intro fx H0 env σ H h rr hr Q q
 unfold eLst at hr
 obtain ⟨rs, er, hr⟩:=Option.bind_eq_some_iff.mp hr
 split at hr
 ·rename_i hl
  cases hr
  refine ha fx H0 env σ H h rs er _ fun vs H1 s1 v1=>?_
  have r:=zjo (fun i hi=>hi) v1
  have hA:=(h.up s1).lims (bss rs)
  refine ⟨zfn (by rw [← r.length, zlm]; exact hl), fun p hp=>q _ _ (s1.trans (Same.new hp)) ⟨zus hp (zdy hA hp) r, fun _=>⟨p, rfl, s1.free hp, zoz hp r⟩⟩⟩
 ·cases hr
noncomputable def zabo : EF:=fun _=>some ⟨.dict [], true, []⟩
theorem zth : SE tDNewK zabo:=by
 intro fx H0 env σ H h rr hr Q q
 cases hr
 intro p hp
 have hA:=h.lims []
 exact q _ _ (Same.new hp) ⟨zgh (by rw [Offs.get (zdy hA hp)]; exact zav) zho, fun _=>⟨p, rfl, hp, ⟨[], zav, zho⟩⟩⟩
noncomputable def eD1 (k v : EF) : EF:=fun env=>(k env).bind fun x=>(v env).bind fun y=>(keyD x.d).bind fun _=>some ⟨.dict [(x.d, y.d)], true, y.bs⟩
theorem zajd {tk tv : TE} {f g : EF} (h1 : SE tk f) (h2 : SE tv g) : SE (tDisp [(tk, tv)]) (eD1 f g):=by
 intro fx H0 env σ H h rr hr Q q
 unfold eD1 at hr
 obtain ⟨x, ex, hr⟩:=Option.bind_eq_some_iff.mp hr
 obtain ⟨y, ey, hr⟩:=Option.bind_eq_some_iff.mp hr
 obtain ⟨k, ek, hr⟩:=Option.bind_eq_some_iff.mp hr
 cases hr
 intro p hp
 have hp0 : Same H (upd H p (.dK [])):=Same.new hp
 have npf : ¬ fx p:=zdy h.fxs hp
 have hE : EnvOk (fun b=>fx b ∨ b = p) H0 env σ (upd H p (.dK [])):=h.grow hp0 (fun b o e n z=>z.elim n fun y=>by rw [y, hp] at e; cases e) fun b z=>by
  rcases z with z | z
  ·obtain ⟨o, e⟩:=h.fxs b z; exact ⟨o, hp0 b o e⟩
  ·rw [z]; exact ⟨_, zav⟩
 refine h1 _ H0 env σ _ hE x ex _ fun v H1 s1 v1=>h2 _ H0 env σ H1 (hE.up s1) y ey _ fun u H2 s2 v2=>?_
 have ep : H2 p = some (.dK []):=(s1.trans s2) _ _ zav
 refine ⟨ep, [(k, u)], by rw [ztf v1.rp ek]; rfl, (by show 1 ≤ 15; decide), ?_⟩
 have em : zfz [] [(k, u)] = [(k, u)]:=rfl
 rw [em]
 have rp2 : Rp (Offs (fun b=>lim fx env σ y.bs b ∨ b = p) (upd H2 p (.dK [(k, u)]))) y.d u:=by
  rw [Offs.upd (.inr rfl)]
  exact Rp.same (Offs.sub fun b z=>by
   rcases z with (z | z) | z
   ·exact .inl (.inl z)
   ·exact .inr z
   ·exact .inl (.inr z)) _ v2.rp
 have hs : Same H (upd H2 p (.dK [(k, u)])):=fun b o e=>by
  rw [zbf (zbm e hp)]
  exact s2 _ _ (s1 _ _ (hp0 _ _ e))
 have hnp : ¬ lim fx env σ y.bs p:=zdy (h.lims y.bs) hp
 refine q _ _ hs ⟨zgh (by rw [Offs.get hnp]; exact zav) (zgv ek (Rp.same (Offs.sub fun b z=>.inl z) _ rp2) zho), fun _=>⟨p, rfl, hp, ⟨_, zav, zgv ek rp2 zho⟩⟩⟩
noncomputable abbrev GF:=List PyData → Option (PyData × Bool)
noncomputable def SC (r : List V → Hp → VK → Prop) (g : GF) : Prop:=∀ (A : Addr → Prop) (H : Hp) (vs : List V) (ds : List PyData), (∀ b, A b → ∃ o, H b = some o) → Rps (Offs A H) ds vs → ∀ d fr, g ds = some (d, fr) → ∀ Q : VK,
 (∀ v H', Same H H' → Rp (Offs A H') d v → (fr = true → ∃ a, v = .ref a ∧ H a = none ∧ zgi (Offs (fun b=>A b ∨ b = a) H') H' a d) → Q v H') → r vs H Q
noncomputable def eCB (g : GF) (f : AF) : EF:=fun env=>(f env).bind fun rs=>(g (zje rs)).bind fun z=>some ⟨z.1, z.2, bsOf z.1 (bss rs)⟩
theorem zgw {r : List V → Hp → VK → Prop} {g : GF} {ta : TA} {f : AF} (hc : SC r g) (ha : SA ta f) : SE (tCB r ta) (eCB g f):=by
 intro fx H0 env σ H h rr hr Q q
 unfold eCB at hr
 obtain ⟨rs, er, hr⟩:=Option.bind_eq_some_iff.mp hr
 obtain ⟨⟨d, fr⟩, ez, hr⟩:=Option.bind_eq_some_iff.mp hr
 cases hr
 refine ha fx H0 env σ H h rs er _ fun vs H1 s1 v1=>hc (lim fx env σ (bss rs)) H1 vs (zje rs) ((h.up s1).lims _) (zjo (fun i hi=>hi) v1) d fr ez _ fun w H3 s3 rp fr3=>q w H3 (s1.trans s3) ⟨zoy rp, fun e=>?_⟩
 obtain ⟨a, g1, g2, g3⟩:=fr3 e
 refine ⟨a, g1, s1.free g2, ?_⟩
 have nf : zdv d = false:=by cases d <;> first | rfl | exact g3.elim
 show zgi (Offs (fun b=>lim fx env σ (bsOf d (bss rs)) b ∨ b = a) H3) H3 a d
 rw [show bsOf d (bss rs) = bss rs by unfold bsOf; rw [if_neg (by rw [nf]; decide)]]
 exact g3
theorem rps1 {H : Hp} {d : PyData} {vs : List V} (h : Rps H [d] vs) : ∃ v, vs = [v] ∧ Rp H d v:=by
 unfold Rps at h
 obtain ⟨v, ws, rfl, h1, h2⟩:=h
 unfold Rps at h2
 subst h2
 exact ⟨v, rfl, h1⟩
theorem rps2 {H : Hp} {d e : PyData} {vs : List V} (h : Rps H [d, e] vs) : ∃ v u, vs = [v, u] ∧ Rp H d v ∧ Rp H e u:=by
 unfold Rps at h
 obtain ⟨v, ws, rfl, h1, h2⟩:=h
 obtain ⟨u, rfl, h3⟩:=rps1 h2
 exact ⟨v, u, rfl, h1, h3⟩
noncomputable def lenD : GF
 | [.str x]=>if x.length ≤ 100000 then some (.int x.length, false) else none
 | [.list ds]=>some (.int ds.length, false)
 | [.tuple ds]=>some (.int ds.length, false)
 | _=>none
theorem zjp {K : PySem.W.Frag} : SC (fun xs H Q=>∃ x n, xs = [x] ∧ LenV K x H n ∧ Q (.int n) H) lenD:=by
 intro A H vs ds hA rv d fr e Q q
 unfold lenD at e
 split at e
 ·split at e
  ·rename_i hl
   cases e
   obtain ⟨v, rfl, r⟩:=rps1 rv
   cases zix r
   exact ⟨_, _, rfl, ⟨zfn hl, rfl⟩, q _ H (Same.refl _) zah (fun z=>by cases z)⟩
  ·cases e
 ·cases e
  obtain ⟨v, rfl, r⟩:=rps1 rv
  obtain ⟨a, xs, rfl, h1, h2⟩:=zcv r
  exact ⟨_, _, rfl, .inl ⟨xs, SqL.of (zce h1), rfl⟩, by rw [← h2.length]; exact q _ H (Same.refl _) zah (fun z=>by cases z)⟩
 ·cases e
  obtain ⟨v, rfl, r⟩:=rps1 rv
  obtain ⟨a, xs, rfl, h1, h2⟩:=zci r
  exact ⟨_, _, rfl, .inr ⟨xs, SqT.of (zce h1), rfl⟩, by rw [← h2.length]; exact q _ H (Same.refl _) zah (fun z=>by cases z)⟩
 ·cases e
noncomputable def minD : GF
 | [.int i, .int j]=>some (.int (if j < i then j else i), false)
 | _=>none
theorem zadi : SC (fun xs H Q=>∃ i j, xs = [.int i, .int j] ∧ Q (.int (if j < i then j else i)) H) minD:=by
 intro A H vs ds hA rv d fr e Q q
 unfold minD at e
 split at e
 ·cases e
  obtain ⟨v, u, rfl, r1, r2⟩:=rps2 rv
  cases zdo r1; cases zdo r2
  exact ⟨_, _, rfl, q _ H (Same.refl _) zah (fun z=>by cases z)⟩
 ·cases e
noncomputable def zabp : GF
 | [c]=>(ziy c).map fun ds=>(.list ds, true)
 | _=>none
theorem zyd {K : PySem.W.Frag} : SC (fun xs H Q=>∃ p ys, xs = [.ref p] ∧ (SqL K H p ys ∨ SqT K H p ys) ∧ ∀ l, H l = none → Q (.ref l) (upd H l (.lst ys))) zabp:=by
 intro A H vs ds hA rv d fr e Q q
 unfold zabp at e
 split at e
 ·obtain ⟨es, he, e⟩:=Option.map_eq_some_iff.mp e
  cases e
  obtain ⟨v, rfl, r1⟩:=rps1 rv
  obtain ⟨p, xs, rfl, hq, r⟩:=zut (K:=K) r1 he
  refine ⟨p, xs, rfl, hq.imp (Offs.same A H).seq (SqT.same (Offs.same A H)), fun l hl=>?_⟩
  exact q _ _ (Same.new hl) (zus hl (zdy hA hl) r) fun _=>⟨l, rfl, hl, zoz hl r⟩
 ·cases e
noncomputable def zuv : GF
 | [c]=>(ziy c).map fun ds=>(.tuple ds, false)
 | _=>none
theorem zabq {K : PySem.W.Frag} : SC (fun xs H Q=>∃ p ys, xs = [.ref p] ∧ ((SqL K H p ys ∧ ∀ l, H l = none → Q (.ref l) (upd H l (.tup ys))) ∨ (SqT K H p ys ∧ Q (.ref p) H))) zuv:=by
 intro A H vs ds hA rv d fr e Q q
 unfold zuv at e
 split at e
 ·obtain ⟨es, he, e⟩:=Option.map_eq_some_iff.mp e
  cases e
  obtain ⟨v, rfl, r1⟩:=rps1 rv
  rename_i c
  cases c with
  | list ds =>
   cases he
   obtain ⟨p, xs, rfl, h1, r⟩:=zcv r1
   exact ⟨p, xs, rfl, .inl ⟨SqL.of (zce h1), fun l hl=>q _ _ (Same.new hl) (zpa hl (zdy hA hl) r) (fun z=>by cases z)⟩⟩
  | tuple ds =>
   cases he
   obtain ⟨p, xs, rfl, h1, r⟩:=zci r1
   exact ⟨p, xs, rfl, .inr ⟨SqT.of (zce h1), q _ H (Same.refl _) r1 (fun z=>by cases z)⟩⟩
  | _=>cases he
 ·cases e
noncomputable def zln : List PyData → Option (List Bool)
 | []=>some []
 | .bool b :: r=>(zln r).map fun bs=>b :: bs
 | _=>none
theorem zqq {H : Hp} : ∀ {ds : List PyData} {vs : List V} {bs : List Bool}, Rps H ds vs → zln ds = some bs → vs = bs.map V.bl
 | [], vs, bs, h, e=>by unfold Rps at h; cases e; exact h
 | d :: ds, vs, bs, h, e=>by
  unfold Rps at h
  obtain ⟨v, ws, rfl, h1, h2⟩:=h
  cases d with
  | bool b =>
   obtain ⟨cs, ec, rfl⟩:=Option.map_eq_some_iff.mp e
   rw [zlk h1, zqq h2 ec]; rfl
  | _=>cases e
noncomputable def anyD (f : List Bool → Bool) : GF
 | [.list ds]=>(zln ds).map fun bs=>(.bool (f bs), false)
 | _=>none
theorem zuw {K : PySem.W.Frag} {f : List Bool → Bool} : SC (rAny K f) (anyD f):=by
 intro A H vs ds hA rv d fr e Q q
 unfold anyD at e
 split at e
 ·obtain ⟨bs, he, e⟩:=Option.map_eq_some_iff.mp e
  cases e
  obtain ⟨v, rfl, r1⟩:=rps1 rv
  obtain ⟨p, xs, rfl, h1, r⟩:=zcv r1
  cases zqq r he
  exact ⟨p, bs, rfl, SqL.of (zce h1), q _ H (Same.refl _) zas (fun z=>by cases z)⟩
 ·cases e
noncomputable def zlo : PyData → String
 | .none=>"NoneType" | .bool _=>"bool" | .int _=>"int" | .str _=>"str" | .list _=>"list" | .tuple _=>"tuple" | .dict _=>"dict"
theorem zaje {K : PySem.W.Frag} {H : Hp} {d : PyData} {v : V} (h : Rp H d v) : TyOf K H v (.type (zlo d)):=by
 cases d with
 | list ds=>obtain ⟨a, xs, rfl, h1, _⟩:=zcv h; exact .lst h1
 | tuple ds=>obtain ⟨a, xs, rfl, h1, _⟩:=zci h; exact .tup h1
 | dict ds=>obtain ⟨a, xs, rfl, h1, _⟩:=zhn h; exact .dK h1
 | none=>cases zxx h; exact .non
 | bool b=>cases zlk h; exact .bl _
 | int b=>cases zdo h; exact .int _
 | str b=>cases zix h; exact .str _
noncomputable def isiB (n : String) (d : PyData) : Bool:=zlo d == n || (zlo d == "bool" && n == "int")
noncomputable def eIsi (n : String) (a : EF) : EF:=fun env=>(a env).map fun x=>⟨.bool (isiB n x.d), false, []⟩
theorem zux {K : PySem.W.Frag} {n : String} {te : TE} {f : EF} (h1 : SE te f) (hk : ∀ d, PySem.W.kitOne K (.type (zlo d)) (.type n) = some (isiB n d)) :
  SE (tCB (fun xs H Q=>∃ x n t b, xs = [x, .ty n] ∧ TyOf K H x t ∧ PySem.W.kitOne K t (.type n) = some b ∧ Q (.bl b) H) (tCons te (tCons (tC (.ty n)) tNil))) (eIsi n f):=by
 intro fx H0 env σ H h rr hr Q q
 unfold eIsi at hr
 obtain ⟨x, ex, rfl⟩:=Option.map_eq_some_iff.mp hr
 refine h1 fx H0 env σ H h _ ex _ fun v H1 s1 v1=>?_
 exact ⟨v, n, _, _, rfl, zaje (Rp.same (Offs.same _ _) _ v1.rp), hk _, q _ H1 s1 ⟨zas, fun z=>by cases z⟩⟩
theorem zuy {K : PySem.W.Frag} : ∀ d, PySem.W.kitOne K (.type (zlo d)) (.type "list") = some (isiB "list" d):=by intro d; cases d <;> rfl
theorem zye {K : PySem.W.Frag} : ∀ d, PySem.W.kitOne K (.type (zlo d)) (.type "tuple") = some (isiB "tuple" d):=by intro d; cases d <;> rfl
theorem zabr {K : PySem.W.Frag} : ∀ d, PySem.W.kitOne K (.type (zlo d)) (.type "bool") = some (isiB "bool" d):=by intro d; cases d <;> rfl
noncomputable abbrev PF':=DEnv → Option (Option Int)
noncomputable def SPt (t : TO) (f : PF') : Prop:=∀ (fx : Addr → Prop) (H0 : Hp) (env : DEnv) (σ : St) (H : Hp), EnvOk fx H0 env σ H → ∀ r, f env = some r → ∀ Q : Option Int → Hp → Prop, (∀ H', Same H H' → Q r H') → t σ H Q
noncomputable def ziw : PF':=fun _=>some none
noncomputable def zet (a : EF) : PF':=fun env=>(a env).bind fun x=>match x.d with | .int i=>some (some i) | _=>none
theorem zkf : SPt tNoPart ziw:=by
 intro fx H0 env σ H h r hr Q q
 cases hr
 exact q H (Same.refl _)
theorem zhs {te : TE} {f : EF} (h1 : SE te f) : SPt (tPart te) (zet f):=by
 intro fx H0 env σ H h r hr Q q
 unfold zet at hr
 obtain ⟨⟨d, fr, bs⟩, ex, hr⟩:=Option.bind_eq_some_iff.mp hr
 cases d with
 | int i =>
  cases hr
  exact h1 fx H0 env σ H h _ ex _ fun v H1 s1 v1=>⟨i, zdo v1.rp, q H1 s1⟩
 | _=>cases hr
noncomputable def cutD (xs : List PyData) (lo hi : Option Int) : List PyData:=(xs.drop (HT.sIx xs.length 0 lo)).take (HT.sIx xs.length xs.length hi - HT.sIx xs.length 0 lo)
theorem Rps.drop {H : Hp} {ds : List PyData} {vs : List V} (h : Rps H ds vs) (n : Nat) : Rps H (ds.drop n) (vs.drop n):=by
 induction n generalizing ds vs with
 | zero=>exact h
 | succ n ih =>
  cases ds with
  | nil=>unfold Rps at h; subst h; exact zdf
  | cons d ds=>unfold Rps at h; obtain ⟨v, ws, rfl, h1, h2⟩:=h; exact ih h2
theorem Rps.take {H : Hp} {ds : List PyData} {vs : List V} (h : Rps H ds vs) (n : Nat) : Rps H (ds.take n) (vs.take n):=by
 induction n generalizing ds vs with
 | zero=>exact zdf
 | succ n ih =>
  cases ds with
  | nil=>unfold Rps at h; subst h; exact zdf
  | cons d ds=>unfold Rps at h; obtain ⟨v, ws, rfl, h1, h2⟩:=h; exact zde h1 (ih h2)
theorem Rps.cut {H : Hp} {ds : List PyData} {vs : List V} (h : Rps H ds vs) (lo hi : Option Int) : Rps H (cutD ds lo hi) (cutV vs lo hi):=by
 unfold cutD cutV
 rw [← h.length]
 exact (h.drop _).take _
noncomputable def slD (d : PyData) (lo hi : Option Int) : Option (PyData × Bool):=match d with
 | .str z=>if z.length ≤ 100000 then some (.str (Txt.slice z lo hi), false) else none
 | .list ds=>some (.list (cutD ds lo hi), true)
 | _=>none
noncomputable def eSl (a : EF) (l h : PF') : EF:=fun env=>(a env).bind fun x=>(l env).bind fun lo=>(h env).bind fun hi=>(slD x.d lo hi).bind fun z=>some ⟨z.1, z.2, bsOf z.1 x.bs⟩
theorem zti {K : PySem.W.Frag} {te : TE} {tl th : TO} {f : EF} {fl fh : PF'} (h1 : SE te f) (h2 : SPt tl fl) (h3 : SPt th fh) : SE (tSl (rSlU K) te tl th) (eSl f fl fh):=by
 intro fx H0 env σ H h rr hr Q q
 unfold eSl at hr
 obtain ⟨⟨d, frd, bs⟩, ex, hr⟩:=Option.bind_eq_some_iff.mp hr
 obtain ⟨lo, el, hr⟩:=Option.bind_eq_some_iff.mp hr
 obtain ⟨hi, eh, hr⟩:=Option.bind_eq_some_iff.mp hr
 obtain ⟨⟨d', fr'⟩, ez, hr⟩:=Option.bind_eq_some_iff.mp hr
 cases hr
 refine h1 fx H0 env σ H h _ ex _ fun v H1 s1 v1=>h2 fx H0 env σ H1 (h.up s1) _ el _ fun H2 s2=>h3 fx H0 env σ H2 (h.up (s1.trans s2)) _ eh _ fun H3 s3=>?_
 have v3:=(v1.later (Same.refl _) (s2.trans s3) fun _ z=>z).rp
 have t3:=(s1.trans s2).trans s3
 cases d with
 | str z =>
  have ez : (if z.length ≤ 100000 then some (PyData.str (Txt.slice z lo hi), false) else none) = some (d', fr'):=ez
  split at ez
  ·rename_i hl
   cases ez
   cases zix v3
   exact ⟨zfn hl, q _ H3 t3 ⟨zgg, fun z=>by cases z⟩⟩
  ·cases ez
 | list ds =>
  cases ez
  obtain ⟨p, xs, rfl, hp, r⟩:=zcv v3
  refine ⟨p, xs, rfl, SqL.of (zce hp), fun l hl=>q _ _ (t3.trans (Same.new hl)) ?_⟩
  have hA:=(h.up t3).lims bs
  exact ⟨zus hl (zdy hA hl) (r.cut lo hi), fun _=>⟨l, rfl, t3.free hl, zoz hl (r.cut lo hi)⟩⟩
 | _=>cases ez
noncomputable def zpd (fx : Addr → Prop) (H0 : Hp) (d : PyData) (fr : Bool) (v : V) (H : Hp) : Prop:=Rp (Offs fx H) d v ∧ (fr = true → ∃ a, v = .ref a ∧ H0 a = none ∧ zgi (Offs (fun b=>fx b ∨ b = a) H) H a d)
noncomputable def spD (n : Nat) (g : GF) : Sp:=fun vs H Q _=>∃ (fx : Addr → Prop) (ds : List PyData) (d : PyData) (fr : Bool), ds.length = n ∧ (∀ b, fx b → ∃ o, H b = some o) ∧ Rps (Offs fx H) ds vs ∧ g ds = some (d, fr) ∧ ∀ v H', Same H H' → zpd fx H d fr v H' → Q v H'
noncomputable def zaw (n : Nat) (g : GF) (f : AF) : EF:=fun env=>(f env).bind fun rs=>if rs.length = n then (g (zje rs)).bind fun z=>some ⟨z.1, z.2, bsOf z.1 (bss rs)⟩ else none
theorem zbc {n : Nat} {g : GF} {ta : TA} {f : AF} (ha : SA ta f) : SE (tCall (spD n g) [] E0 ta) (zaw n g f):=by
 intro fx H0 env σ H h rr hr Q q
 unfold zaw at hr
 obtain ⟨rs, er, hr⟩:=Option.bind_eq_some_iff.mp hr
 split at hr
 ·rename_i hn
  obtain ⟨⟨d, fr⟩, ez, hr⟩:=Option.bind_eq_some_iff.mp hr
  cases hr
  refine ha fx H0 env σ H h rs er _ fun vs H1 s1 v1=>?_
  rw [List.append_nil]
  refine ⟨lim fx env σ (bss rs), zje rs, d, fr, by rw [zlm]; exact hn, (h.up s1).lims _, zjo (fun i hi=>hi) v1, ez, fun w H3 s3 ⟨rp, fr3⟩=>q w H3 (s1.trans s3) ⟨zoy rp, fun e=>?_⟩⟩
  obtain ⟨a, g1, g2, g3⟩:=fr3 e
  refine ⟨a, g1, s1.free g2, ?_⟩
  have nf : zdv d = false:=by cases d <;> first | rfl | exact g3.elim
  show zgi (Offs (fun b=>lim fx env σ (bsOf d (bss rs)) b ∨ b = a) H3) H3 a d
  rw [show bsOf d (bss rs) = bss rs by unfold bsOf; rw [if_neg (by rw [nf]; decide)]]
  exact g3
 ·cases hr
end L2
namespace L2
open PySem PySem.Spec PyProof.Rows
inductive Out where
 | nx (env : DEnv)
 | bk (env : DEnv)
 | ct (env : DEnv)
 | rt (d : PyData) (fr : Bool)
noncomputable def Sat (fx : Addr → Prop) (H0 : Hp) (D : Ends) : Out → Prop
 | .nx env=>∀ σ H, EnvOk fx H0 env σ H → D.nx σ H
 | .bk env=>∀ σ H, EnvOk fx H0 env σ H → D.bk σ H
 | .ct env=>∀ σ H, EnvOk fx H0 env σ H → D.ct σ H
 | .rt d fr=>∀ v H, Same H0 H → zpd fx H0 d fr v H → D.rt v H
noncomputable abbrev SF:=DEnv → Option Out
noncomputable def SS (ts : TS) (F : SF) : Prop:=∀ (fx : Addr → Prop) (H0 : Hp) (env : DEnv) (σ : St) (H : Hp) (D : Ends), EnvOk fx H0 env σ H → ∀ o, F env = some o → Sat fx H0 D o → ts D σ H
noncomputable def frz1 (env : DEnv) (i : Nat) : DEnv:=match env[i]? with
 | some (.ac d)=>env.set i (.pl d)
 | _=>env
noncomputable def frzs (env : DEnv) (bs : List Nat) : DEnv:=bs.foldl frz1 env
theorem zabs (env : DEnv) (i : Nat) : (frz1 env i).length = env.length:=by
 unfold frz1; split
 ·rw [List.length_set]
 ·rfl
theorem zbj {α : Type} {l : List α} {i j : Nat} {x y : α} (h : (l.set i x)[j]? = some y) : (j = i ∧ y = x) ∨ (j ≠ i ∧ l[j]? = some y):=by
 rw [List.getElem?_set] at h
 by_cases e : i = j
 ·subst e
  rw [if_pos rfl] at h
  split at h
  ·exact .inl ⟨rfl, (Option.some.inj h).symm⟩
  ·cases h
 ·rw [if_neg e] at h
  exact .inr ⟨fun z=>e z.symm, h⟩
theorem zkg {env : DEnv} {i j : Nat} {d : PyData} (h : (frz1 env i)[j]? = some (.ac d)) : env[j]? = some (.ac d) ∧ j ≠ i:=by
 unfold frz1 at h
 split at h
 ·rcases zbj h with ⟨_, e⟩ | ⟨e, h⟩
  ·cases e
  ·exact ⟨h, e⟩
 ·rename_i hn
  refine ⟨h, fun e=>?_⟩
  subst e
  exact hn d h
theorem zafh {env : DEnv} {i j : Nat} {d : PyData} (h : (frz1 env i)[j]? = some (.pl d)) : env[j]? = some (.pl d) ∨ (j = i ∧ env[i]? = some (.ac d)):=by
 unfold frz1 at h
 split at h
 ·rename_i d' hd
  rcases zbj h with ⟨e1, e⟩ | ⟨e, h⟩
  ·cases e; exact .inr ⟨e1, hd⟩
  ·exact .inl h
 ·exact .inl h
theorem zabt {env : DEnv} {σ : St} {i : Nat} : ∀ a, own (frz1 env i) σ a → own env σ a:=by
 rintro a ⟨j, d, h1, h2⟩
 exact ⟨j, d, (zkg h1).1, h2⟩
theorem EnvOk.frz1 {fx : Addr → Prop} {H0 : Hp} {env : DEnv} {σ : St} {H : Hp} (h : EnvOk fx H0 env σ H) (i : Nat) : EnvOk fx H0 (frz1 env i) σ H:=by
 have so : Same (Offs (fun a=>fx a ∨ own env σ a) H) (Offs (fun a=>fx a ∨ own (L2.frz1 env i) σ a) H):=Offs.sub fun b z=>z.imp (fun y=>y) (zabt b)
 refine ⟨by rw [zabs]; exact h.len, fun j d e=>?_, fun j d e=>?_, fun j k d d' a h1 h2 h3 h4=>h.inj j k d d' a (zkg h1).1 (zkg h2).1 h3 h4, h.base, h.fxs⟩
 ·rcases zafh e with e | ⟨rfl, e⟩
  ·obtain ⟨v, h1, h2⟩:=h.pl j d e
   exact ⟨v, h1, Rp.same so _ h2⟩
  ·obtain ⟨a, h1, h2, h3, h4⟩:=h.ac j d e
   refine ⟨_, h1, h4.rp so fun o eo=>?_⟩
   rw [Offs.get]
   ·exact eo
   ·rintro (z | ⟨k, d', z1, z2⟩)
    ·exact h3 z
    ·obtain ⟨z1, z3⟩:=zkg z1
     exact z3 (h.inj k j d' d a z1 e z2 h1)
 ·obtain ⟨a, h1, h2, h3, h4⟩:=h.ac j d (zkg e).1
  exact ⟨a, h1, h2, h3, h4.same so fun o z=>z⟩
theorem EnvOk.frzs {fx : Addr → Prop} {H0 : Hp} {σ : St} {H : Hp} : ∀ (bs : List Nat) {env : DEnv}, EnvOk fx H0 env σ H → EnvOk fx H0 (frzs env bs) σ H
 | [], _, h=>h
 | i :: bs, _, h=>EnvOk.frzs bs (h.frz1 i)
theorem zyf : ∀ {bs : List Nat} {env : DEnv} {j : Nat} {d : PyData}, (frzs env bs)[j]? = some (.ac d) → env[j]? = some (.ac d) ∧ j ∉ bs
 | [], _, _, _, h=>⟨h, by simp⟩
 | i :: bs, env, j, d, h=>by
  obtain ⟨h1, h2⟩:=zyf (bs:=bs) h
  obtain ⟨h3, h4⟩:=zkg h1
  exact ⟨h3, by simp [h4, h2]⟩
theorem zgx {fx : Addr → Prop} {env : DEnv} {σ : St} {bs : List Nat} : ∀ a, fx a ∨ own (frzs env bs) σ a → lim fx env σ bs a:=by
 rintro a (z | ⟨i, d, h1, h2⟩)
 ·exact .inl z
 ·obtain ⟨h3, h4⟩:=zyf h1
  exact .inr ⟨i, d, h4, h3, h2⟩
theorem zyg {env : DEnv} {σ : St} {i : Nat} {d : PyData} {v : V} : ∀ a, own (env.set i (.pl d)) (σ.set i (some v)) a → own env σ a:=by
 rintro a ⟨j, e, h1, h2⟩
 rcases zbj h1 with ⟨_, z⟩ | ⟨ne, h1⟩
 ·cases z
 ·rcases zbj h2 with ⟨z, _⟩ | ⟨_, h2⟩
  ·exact absurd z ne
  ·exact ⟨j, e, h1, h2⟩
theorem EnvOk.setPl {fx : Addr → Prop} {H0 : Hp} {env : DEnv} {σ : St} {H : Hp} (h : EnvOk fx H0 env σ H) (i : Nat) {d : PyData} {v : V} (r : Rp (Offs (fun a=>fx a ∨ own env σ a) H) d v) : EnvOk fx H0 (env.set i (.pl d)) (σ.set i (some v)) H:=by
 have so : Same (Offs (fun a=>fx a ∨ own env σ a) H) (Offs (fun a=>fx a ∨ own (env.set i (.pl d)) (σ.set i (some v)) a) H):=Offs.sub fun b z=>z.imp (fun y=>y) (zyg b)
 have kept : ∀ {j : Nat}, j ≠ i → (σ.set i (some v))[j]? = σ[j]?:=fun {j} n=>List.getElem?_set_ne fun z=>n z.symm
 refine ⟨by rw [List.length_set, List.length_set]; exact h.len, fun j e hj=>?_, fun j e hj=>?_, fun j k d1 d2 a h1 h2 h3 h4=>?_, h.base, h.fxs⟩
 ·rcases zbj hj with ⟨rfl, z⟩ | ⟨ne, hj'⟩
  ·cases z
   have hl : j < env.length:=by have:=(List.getElem?_eq_some_iff.mp hj).1; rwa [List.length_set] at this
   exact ⟨v, by rw [List.getElem?_set_self (by rw [← h.len]; exact hl)], Rp.same so _ r⟩
  ·obtain ⟨u, h1, h2⟩:=h.pl j e hj'
   exact ⟨u, by rw [kept ne]; exact h1, Rp.same so _ h2⟩
 ·rcases zbj hj with ⟨_, z⟩ | ⟨ne, hj'⟩
  ·cases z
  ·obtain ⟨a, h1, h2, h3, h4⟩:=h.ac j e hj'
   exact ⟨a, by rw [kept ne]; exact h1, h2, h3, h4.same so fun o z=>z⟩
 ·rcases zbj h1 with ⟨_, z⟩ | ⟨n1, h1⟩
  ·cases z
  rcases zbj h2 with ⟨_, z⟩ | ⟨n2, h2⟩
  ·cases z
  rw [kept n1] at h3
  rw [kept n2] at h4
  exact h.inj j k d1 d2 a h1 h2 h3 h4
theorem EnvOk.setAc {fx : Addr → Prop} {H0 : Hp} {env : DEnv} {σ : St} {H : Hp} {a : Addr} (h : EnvOk (fun b=>fx b ∨ b = a) H0 env σ H) (i : Nat) {d : PyData} (r : zgi (Offs (fun b=>(fx b ∨ own env σ b) ∨ b = a) H) H a d) (h0 : H0 a = none) (hf : ¬ fx a) :
  EnvOk fx H0 (env.set i (.ac d)) (σ.set i (some (.ref a))) H:=by
 have kept : ∀ {j : Nat}, j ≠ i → (σ.set i (some (V.ref a)))[j]? = σ[j]?:=fun {j} n=>List.getElem?_set_ne fun z=>n z.symm
 have sub : ∀ b, fx b ∨ own (env.set i (.ac d)) (σ.set i (some (.ref a))) b → (fx b ∨ b = a) ∨ own env σ b:=by
  rintro b (z | ⟨j, e, h1, h2⟩)
  ·exact .inl (.inl z)
  ·rcases zbj h1 with ⟨rfl, z⟩ | ⟨ne, h1⟩
   ·have hl : j < env.length:=by have:=(List.getElem?_eq_some_iff.mp ‹(env.set j (.ac d))[j]? = _›).1; rwa [List.length_set] at this
    rw [List.getElem?_set_self (by rw [← h.len]; exact hl)] at h2
    cases h2
    exact .inl (.inr rfl)
   ·rw [kept ne] at h2
    exact .inr ⟨j, e, h1, h2⟩
 have so : Same (Offs (fun b=>(fx b ∨ b = a) ∨ own env σ b) H) (Offs (fun b=>fx b ∨ own (env.set i (.ac d)) (σ.set i (some (.ref a))) b) H):=Offs.sub sub
 have so2 : Same (Offs (fun b=>(fx b ∨ own env σ b) ∨ b = a) H) (Offs (fun b=>fx b ∨ own (env.set i (.ac d)) (σ.set i (some (.ref a))) b) H):=Offs.sub fun b z=>by
  rcases sub b z with (y | y) | y
  ·exact .inl (.inl y)
  ·exact .inr y
  ·exact .inl (.inr y)
 refine ⟨by rw [List.length_set, List.length_set]; exact h.len, fun j e hj=>?_, fun j e hj=>?_, fun j k d1 d2 b h1 h2 h3 h4=>?_, h.base, fun b z=>h.fxs b (.inl z)⟩
 ·rcases zbj hj with ⟨_, z⟩ | ⟨ne, hj'⟩
  ·cases z
  ·obtain ⟨u, h1, h2⟩:=h.pl j e hj'
   exact ⟨u, by rw [kept ne]; exact h1, Rp.same so _ h2⟩
 ·rcases zbj hj with ⟨rfl, z⟩ | ⟨ne, hj'⟩
  ·cases z
   have hl : j < env.length:=by have:=(List.getElem?_eq_some_iff.mp hj).1; rwa [List.length_set] at this
   exact ⟨a, by rw [List.getElem?_set_self (by rw [← h.len]; exact hl)], h0, hf, r.same so2 fun o z=>z⟩
  ·obtain ⟨b, h1, h2, h3, h4⟩:=h.ac j e hj'
   exact ⟨b, by rw [kept ne]; exact h1, h2, fun z=>h3 (.inl z), h4.same so fun o z=>z⟩
 ·rcases zbj h1 with ⟨e1, z1⟩ | ⟨n1, h1'⟩ <;> rcases zbj h2 with ⟨e2, z2⟩ | ⟨n2, h2'⟩
  ·rw [e1, e2]
  ·subst e1
   have hl : j < env.length:=by have:=(List.getElem?_eq_some_iff.mp h1).1; rwa [List.length_set] at this
   rw [List.getElem?_set_self (by rw [← h.len]; exact hl)] at h3
   rw [kept n2] at h4
   cases h3
   obtain ⟨b, g1, g2, g3, g4⟩:=h.ac k d2 h2'
   rw [h4] at g1
   cases g1
   exact absurd (.inr rfl) g3
  ·subst e2
   have hl : k < env.length:=by have:=(List.getElem?_eq_some_iff.mp h2).1; rwa [List.length_set] at this
   rw [List.getElem?_set_self (by rw [← h.len]; exact hl)] at h4
   rw [kept n1] at h3
   cases h4
   obtain ⟨b, g1, g2, g3, g4⟩:=h.ac j d1 h1'
   rw [h3] at g1
   cases g1
   exact absurd (.inr rfl) g3
  ·rw [kept n1] at h3
   rw [kept n2] at h4
   exact h.inj j k d1 d2 b h1' h2' h3 h4
noncomputable def slOf (r : Val) : Sl:=if r.fr = true then .ac r.d else .pl r.d
noncomputable def putV (env : DEnv) (i : Nat) (r : Val) : DEnv:=(frzs env r.bs).set i (slOf r)
theorem EnvOk.put {fx : Addr → Prop} {H0 : Hp} {env : DEnv} {σ : St} {H H' : Hp} (h : EnvOk fx H0 env σ H) (s : Same H H') {r : Val} {v : V} (hv : ValOk (lim fx env σ r.bs) H H' r v) (i : Nat) : EnvOk fx H0 (putV env i r) (σ.set i (some v)) H':=by
 unfold putV slOf
 cases e : r.fr with
 | false =>
  rw [if_neg Bool.false_ne_true]
  exact ((h.up s).frzs r.bs).setPl i (Rp.same (Offs.sub zgx) _ hv.rp)
 | true =>
  rw [if_pos rfl]
  obtain ⟨a, rfl, ha, hacc⟩:=hv.fr e
  have nfx : ¬ fx a:=zdy h.fxs ha
  have g : EnvOk (fun b=>fx b ∨ b = a) H0 env σ H':=h.grow s (fun b o eo n z=>z.elim n fun y=>by rw [y, ha] at eo; cases eo) fun b z=>by
   rcases z with z | z
   ·obtain ⟨o, eo⟩:=h.fxs b z; exact ⟨o, s b o eo⟩
   ·rw [z]; exact hacc.ex
  refine (g.frzs r.bs).setAc i (hacc.same (Offs.sub fun b z=>?_) fun o z=>z) (h.base.free ha) nfx
  rcases z with z | z
  ·exact .inl (zgx b z)
  ·exact .inr z
noncomputable def sNil : SF:=fun env=>some (.nx env)
noncomputable def sSeq (f g : SF) : SF:=fun env=>(f env).bind fun o=>match o with
 | .nx env'=>g env'
 | o=>some o
theorem zdp : SS tNext sNil:=by
 intro fx H0 env σ H D h o e q
 cases e
 exact q σ H h
theorem zam {t u : TS} {f g : SF} (h1 : SS t f) (h2 : SS u g) : SS (tSeq t u) (sSeq f g):=by
 intro fx H0 env σ H D h o e q
 unfold sSeq at e
 obtain ⟨o1, e1, e⟩:=Option.bind_eq_some_iff.mp e
 refine h1 fx H0 env σ H _ h o1 e1 ?_
 cases o1 with
 | nx env'=>exact fun σ' H' h'=>h2 fx H0 env' σ' H' D h' o e q
 | bk env'=>cases e; exact q
 | ct env'=>cases e; exact q
 | rt d fr=>cases e; exact q
noncomputable def zyh : SF:=fun _=>none
theorem zabu : SS tNever zyh:=by
 intro fx H0 env σ H D h o e q
 cases e
noncomputable def zjq (f : EF) : SF:=fun env=>(f env).map fun _=>.nx env
theorem zlp {te : TE} {f : EF} (h1 : SE te f) : SS (tDrop te) (zjq f):=by
 intro fx H0 env σ H D h o e q
 unfold zjq at e
 obtain ⟨r, er, rfl⟩:=Option.map_eq_some_iff.mp e
 exact h1 fx H0 env σ H h r er _ fun v H' s _=>q σ H' (h.up s)
noncomputable def sRet (f : EF) : SF:=fun env=>(f env).map fun r=>.rt r.d r.fr
theorem zca {te : TE} {f : EF} (h1 : SE te f) : SS (tRet te) (sRet f):=by
 intro fx H0 env σ H D h o e q
 unfold sRet at e
 obtain ⟨r, er, rfl⟩:=Option.map_eq_some_iff.mp e
 refine h1 fx H0 env σ H h r er _ fun v H' s hv=>q v H' (h.base.trans s) ⟨Rp.same (Offs.sub fun b z=>.inl z) _ hv.rp, fun z=>?_⟩
 obtain ⟨a, g1, g2, g3⟩:=hv.fr z
 exact ⟨a, g1, h.base.free g2, g3.same (Offs.sub fun b y=>y.imp .inl id) fun o z=>z⟩
noncomputable def znk (i : Nat) : SF:=fun env=>match env[i]? with
 | some (.pl d)=>some (.rt d false)
 | some (.ac d)=>some (.rt d true)
 | _=>none
theorem zht {i : Nat} : SS (tRet (tVar i)) (znk i):=by
 intro fx H0 env σ H D h o e q
 unfold znk at e
 cases ei : env[i]? with
 | none=>rw [ei] at e; cases e
 | some sl =>
  rw [ei] at e
  cases sl with
  | no=>cases e
  | pl d =>
   cases e
   obtain ⟨v, h1, h2⟩:=h.pl i d ei
   exact ⟨v, h1, q v H h.base ⟨Rp.same (Offs.sub fun b z=>.inl z) _ h2, fun z=>by cases z⟩⟩
  | ac d =>
   cases e
   obtain ⟨a, h1, h2, h3, h4⟩:=h.ac i d ei
   refine ⟨_, h1, q _ H h.base ⟨h4.rp (Offs.sub fun b z=>.inl z) fun o eo=>by rw [Offs.get h3]; exact eo, fun _=>⟨a, rfl, h2, h4.same (Offs.sub fun b z=>?_) fun o z=>z⟩⟩⟩
   rcases z with z | z
   ·exact .inl z
   ·rw [z]; exact .inr ⟨i, d, ei, h1⟩
noncomputable def sIf (c : TF) (f g : SF) : SF:=fun env=>(c env).bind fun b=>if b = true then f env else g env
theorem zgd {tc : TT} {t u : TS} {c : TF} {f g : SF} (hc : ST tc c) (h1 : SS t f) (h2 : SS u g) : SS (tIfS tc t u) (sIf c f g):=by
 intro fx H0 env σ H D h o e q
 unfold sIf at e
 obtain ⟨b, eb, e⟩:=Option.bind_eq_some_iff.mp e
 refine hc fx H0 env σ H h b eb _ fun H' s=>?_
 cases b with
 | true=>exact iteT (h1 fx H0 env σ H' D (h.up s) o e q)
 | false=>exact iteF (h2 fx H0 env σ H' D (h.up s) o e q)
noncomputable def sSet (i : Nat) (f : EF) : SF:=fun env=>(f env).map fun r=>.nx (putV env i r)
theorem zbd {te : TE} {f : EF} {i : Nat} (h1 : SE te f) : SS (tAsg te (gName i)) (sSet i f):=by
 intro fx H0 env σ H D h o e q
 unfold sSet at e
 obtain ⟨r, er, rfl⟩:=Option.map_eq_some_iff.mp e
 exact h1 fx H0 env σ H h r er _ fun v H' s hv=>q _ H' (h.put s hv i)
noncomputable abbrev GT:=PyData → DEnv → Option DEnv
noncomputable def SG (g : TG) (f : GT) : Prop:=∀ (fx : Addr → Prop) (H0 : Hp) (env : DEnv) (σ : St) (H : Hp) (d : PyData) (v : V), EnvOk fx H0 env σ H → Rp (Offs (fun a=>fx a ∨ own env σ a) H) d v → ∀ env', f d env = some env' → ∀ Q : St → Hp → Prop,
 (∀ σ', EnvOk fx H0 env' σ' H → Q σ' H) → g v σ H Q
noncomputable abbrev GTs:=List PyData → DEnv → Option DEnv
noncomputable def SGs (g : TGs) (f : GTs) : Prop:=∀ (fx : Addr → Prop) (H0 : Hp) (env : DEnv) (σ : St) (H : Hp) (ds : List PyData) (vs : List V), EnvOk fx H0 env σ H → Rps (Offs (fun a=>fx a ∨ own env σ a) H) ds vs → ∀ env', f ds env = some env' → ∀ Q : St → Hp → Prop,
 (∀ σ', EnvOk fx H0 env' σ' H → Q σ' H) → g vs σ H Q
noncomputable def gN (i : Nat) : GT:=fun d env=>some (env.set i (.pl d))
theorem zbz {i : Nat} : SG (gName i) (gN i):=by
 intro fx H0 env σ H d v h r env' e Q q
 cases e
 exact q _ (h.setPl i r)
noncomputable def zjr : GTs:=fun ds env=>match ds with | []=>some env | _=>none
noncomputable def zcf (i : Nat) (g : GTs) : GTs:=fun ds env=>match ds with | d :: r=>g r (env.set i (.pl d)) | []=>none
theorem zlq : SGs gNil zjr:=by
 intro fx H0 env σ H ds vs h r env' e Q q
 cases ds with
 | nil=>cases e; unfold Rps at r; exact ⟨r, q _ h⟩
 | cons _ _=>cases e
theorem zem {i : Nat} {t : TGs} {g : GTs} (h1 : SGs t g) : SGs (gCons (gName i) t) (zcf i g):=by
 intro fx H0 env σ H ds vs h r env' e Q q
 cases ds with
 | nil=>cases e
 | cons d ds =>
  unfold Rps at r
  obtain ⟨v, ws, rfl, r1, r2⟩:=r
  refine ⟨v, ws, rfl, h1 fx H0 (env.set i (.pl d)) _ H ds ws (h.setPl i r1) (Rps.same (Offs.sub fun b z=>z.imp (fun y=>y) (zyg b)) _ r2) env' e Q q⟩
noncomputable def gT (n : Nat) (g : GTs) : GT:=fun d env=>match d with | .tuple ds=>if ds.length = n then g ds env else none | _=>none
theorem zqr {K : PySem.W.Frag} {n : Nat} {t : TGs} {g : GTs} (h1 : SGs t g) : SG (gTup K n t) (gT n g):=by
 intro fx H0 env σ H d v h r env' e Q q
 unfold gT at e
 cases d with
 | tuple ds =>
  have e : (if ds.length = n then g ds env else none) = some env':=e
  split at e
  ·rename_i hn
   obtain ⟨a, xs, rfl, ha, rs⟩:=zci r
   exact ⟨a, xs, rfl, SqT.of (zce ha), by rw [← rs.length]; exact hn, h1 fx H0 env σ H ds xs h rs env' e Q q⟩
  ·cases e
 | _=>cases e
theorem EnvOk.mut {fx : Addr → Prop} {H0 : Hp} {env : DEnv} {σ : St} {H : Hp} (h : EnvOk fx H0 env σ H) {i : Nat} {d d' : PyData} {a : Addr} {o : HO} (e : env[i]? = some (.ac d)) (ea : σ[i]? = some (some (.ref a)))
  (r : zgi (Offs (fun b=>fx b ∨ own env σ b) H) (upd H a o) a d') : EnvOk fx H0 (env.set i (.ac d')) σ (upd H a o):=by
 have hl : i < env.length:=(List.getElem?_eq_some_iff.mp e).1
 have oa : own env σ a:=⟨i, d, e, ea⟩
 have ow : ∀ b, own (env.set i (.ac d')) σ b ↔ own env σ b:=by
  intro b
  constructor
  ·rintro ⟨j, d1, h1, h2⟩
   rcases zbj h1 with ⟨rfl, z⟩ | ⟨ne, h1⟩
   ·exact ⟨j, d, e, h2⟩
   ·exact ⟨j, d1, h1, h2⟩
  ·rintro ⟨j, d1, h1, h2⟩
   by_cases hj : j = i
   ·subst hj; exact ⟨j, d', by rw [List.getElem?_set_self hl], h2⟩
   ·exact ⟨j, d1, by rw [List.getElem?_set_ne fun z=>hj z.symm]; exact h1, h2⟩
 have so : Same (Offs (fun b=>fx b ∨ own env σ b) H) (Offs (fun b=>fx b ∨ own (env.set i (.ac d')) σ b) (upd H a o)):=by
  have : Same (Offs (fun b=>fx b ∨ own env σ b) (upd H a o)) (Offs (fun b=>fx b ∨ own (env.set i (.ac d')) σ b) (upd H a o)):=Offs.sub fun b z=>z.imp (fun y=>y) (ow b).mp
  rw [Offs.upd (.inr oa)] at this
  exact this
 obtain ⟨a', g1, g2, g3, g4⟩:=h.ac i d e
 rw [ea] at g1
 cases g1
 refine ⟨by rw [List.length_set]; exact h.len, fun j d1 hj=>?_, fun j d1 hj=>?_, fun j k d1 d2 b h1 h2 h3 h4=>?_, fun b u eb=>by rw [zbf (zbm eb g2)]; exact h.base b u eb, fun b z=>?_⟩
 ·rcases zbj hj with ⟨_, z⟩ | ⟨ne, hj'⟩
  ·cases z
  ·obtain ⟨u, h1, h2⟩:=h.pl j d1 hj'
   exact ⟨u, h1, Rp.same so _ h2⟩
 ·rcases zbj hj with ⟨rfl, z⟩ | ⟨ne, hj'⟩
  ·cases z
   exact ⟨a, ea, g2, g3, r.same so fun o z=>z⟩
  ·obtain ⟨b, h1, h2, h3, h4⟩:=h.ac j d1 hj'
   refine ⟨b, h1, h2, h3, h4.same so fun o' z=>?_⟩
   rw [zbf fun y=>ne (h.inj j i d1 d a hj' e (by rw [← y]; exact h1) ea)]
   exact z
 ·have f : ∀ {j : Nat} {d1 : PyData}, (env.set i (.ac d'))[j]? = some (.ac d1) → ∃ d2, env[j]? = some (.ac d2):=fun {j d1} hj=>by
   rcases zbj hj with ⟨rfl, z⟩ | ⟨ne, hj'⟩
   ·exact ⟨d, e⟩
   ·exact ⟨d1, hj'⟩
  obtain ⟨e1, h1⟩:=f h1
  obtain ⟨e2, h2⟩:=f h2
  exact h.inj j k e1 e2 b h1 h2 h3 h4
 ·obtain ⟨u, eu⟩:=h.fxs b z
  exact ⟨u, by rw [zbf fun y=>g3 (by rw [← y]; exact z)]; exact eu⟩
noncomputable def sApp (i : Nat) (f : EF) : SF:=fun env=>match env[i]? with
 | some (.ac (.list ds))=>(f env).bind fun r=>if ds.length < 100000 ∧ i ∉ r.bs then some (.nx ((frzs env r.bs).set i (.ac (.list (ds ++ [r.d]))))) else none
 | _=>none
theorem zla {env : DEnv} {i : Nat} {d : PyData} : ∀ {bs : List Nat}, i ∉ bs → env[i]? = some (.ac d) → (frzs env bs)[i]? = some (.ac d):=by
 intro bs
 induction bs generalizing env with
 | nil=>intro _ e; exact e
 | cons j bs ih =>
  intro hn e
  have hj : i ≠ j:=fun z=>hn (by simp [z])
  refine ih (fun z=>hn (List.mem_cons_of_mem _ z)) ?_
  unfold frz1
  split
  ·rw [List.getElem?_set_ne fun z=>hj z.symm]; exact e
  ·exact e
theorem znx {K : PySem.W.Frag} {i : Nat} {te : TE} {f : EF} (h1 : SE te f) : SS (tDrop (tBM K "list" zlh (tVar i) (tCons te tNil))) (sApp i f):=by
 intro fx H0 env σ H D h o e q
 unfold sApp at e
 split at e
 ·rename_i ds ei
  obtain ⟨r, er, e⟩:=Option.bind_eq_some_iff.mp e
  split at e
  ·rename_i hl
   cases e
   obtain ⟨a, g1, g2, g3, g4⟩:=h.ac i _ ei
   obtain ⟨xs, hx, rx⟩:=g4
   refine ⟨_, g1, .inl ⟨rfl, _, SqL.of hx⟩, h1 fx H0 env σ H h r er _ fun v H' s hv=>?_⟩
   have h':=(h.up s).frzs r.bs
   have ei':=zla hl.2 ei
   have hx':=s _ _ hx
   have rx' : Rps (Offs (fun b=>fx b ∨ own (frzs env r.bs) σ b) H') ds xs:=by
    obtain ⟨a', z1, _, _, z4⟩:=h'.ac i _ ei'
    rw [g1] at z1
    cases z1
    obtain ⟨ys, y1, y2⟩:=z4
    rw [hx'] at y1
    cases y1
    exact y2
   refine ⟨a, xs, v, rfl, rfl, hx', zkd (by rw [← rx.length]; exact hl.1), ?_⟩
   refine q σ _ (h'.mut ei' g1 ⟨_, zav, rx'.append (zde (Rp.same (Offs.sub zgx) _ hv.rp) zdf)⟩)
  ·cases e
 ·cases e
noncomputable def sPut (i : Nat) (fk fv : EF) : SF:=fun env=>match env[i]? with
 | some (.ac (.dict kvs))=>(fv env).bind fun r=>(fk env).bind fun k=>(keyD k.d).bind fun _=>if kvs.length < 100000 ∧ i ∉ r.bs then some (.nx ((frzs env r.bs).set i (.ac (.dict (zhp kvs k.d r.d))))) else none
 | _=>none
theorem zahy {i : Nat} {tk tv : TE} {fk fv : EF} (h1 : SE tk fk) (h2 : SE tv fv) : SS (sDPut (tVar i) tk tv) (sPut i fk fv):=by
 intro fx H0 env σ H D h o e q
 unfold sPut at e
 split at e
 ·rename_i kvs ei
  obtain ⟨r, er, e⟩:=Option.bind_eq_some_iff.mp e
  obtain ⟨k, ek, e⟩:=Option.bind_eq_some_iff.mp e
  obtain ⟨kk, ekk, e⟩:=Option.bind_eq_some_iff.mp e
  split at e
  ·rename_i hl
   cases e
   obtain ⟨a, g1, g2, g3, g4⟩:=h.ac i _ ei
   obtain ⟨ps, hx, rx⟩:=g4
   refine h2 fx H0 env σ H h r er _ fun v H' s hv=>⟨_, g1, h1 fx H0 env σ H' (h.up s) k ek _ fun u H2 s2 hk=>?_⟩
   have t2:=s.trans s2
   have h':=(h.up t2).frzs r.bs
   have ei':=zla hl.2 ei
   have hx':=t2 _ _ hx
   have rx' : Rpd (Offs (fun b=>fx b ∨ own (frzs env r.bs) σ b) H2) kvs ps:=by
    obtain ⟨a', z1, _, _, z4⟩:=h'.ac i _ ei'
    rw [g1] at z1
    cases z1
    obtain ⟨ys, y1, y2⟩:=z4
    rw [hx'] at y1
    cases y1
    exact y2
   rw [ztf hk.rp ekk]
   refine ⟨a, _, rfl, DPut.k hx' (zkd (by rw [← rx.length]; exact hl.1)), ?_⟩
   refine q σ _ (h'.mut ei' g1 ⟨_, zav, rx'.put ekk (Rp.same (Offs.sub zgx) _ (hv.later (Same.refl _) s2 fun _ z=>z).rp)⟩)
  ·cases e
 ·cases e
noncomputable def sUpd (i : Nat) (f : EF) : SF:=fun env=>match env[i]? with
 | some (.ac (.dict kvs))=>(f env).bind fun r=>match r.d with
  | .dict more=>if kvs.length + more.length ≤ 100000 ∧ i ∉ r.bs then some (.nx ((frzs env r.bs).set i (.ac (.dict (zgc kvs more))))) else none
  | _=>none
 | _=>none
theorem zadj {K : PySem.W.Frag} {i : Nat} {te : TE} {f : EF} (h1 : SE te f) : SS (tDrop (tBM K "dict" zxp (tVar i) (tCons te tNil))) (sUpd i f):=by
 intro fx H0 env σ H D h o e q
 unfold sUpd at e
 split at e
 ·rename_i kvs ei
  obtain ⟨⟨rd, rfr, rbs⟩, er, e⟩:=Option.bind_eq_some_iff.mp e
  cases rd with
  | dict more =>
   have e : (if kvs.length + more.length ≤ 100000 ∧ i ∉ rbs then some (Out.nx ((frzs env rbs).set i (.ac (.dict (zgc kvs more))))) else none) = some o:=e
   split at e
   ·rename_i hl
    cases e
    obtain ⟨a, g1, g2, g3, g4⟩:=h.ac i _ ei
    obtain ⟨ps, hx, rx⟩:=g4
    refine ⟨_, g1, .inr (.inr (.inl ⟨rfl, .inl ⟨_, hx⟩⟩)), h1 fx H0 env σ H h _ er _ fun v H' s hv=>?_⟩
    have h':=(h.up s).frzs rbs
    have ei':=zla hl.2 ei
    have hx':=s _ _ hx
    have rx' : Rpd (Offs (fun b=>fx b ∨ own (frzs env rbs) σ b) H') kvs ps:=by
     obtain ⟨a', z1, _, _, z4⟩:=h'.ac i _ ei'
     rw [g1] at z1
     cases z1
     obtain ⟨ys, y1, y2⟩:=z4
     rw [hx'] at y1
     cases y1
     exact y2
    obtain ⟨b, qs, rfl, hb, rb⟩:=zhn (Rp.same (Offs.sub zgx) _ hv.rp)
    have hab : a ≠ b:=fun z=>by
     subst z
     exact (Offs.of hb).1 (.inr ⟨i, _, ei', g1⟩)
    refine ⟨a, b, ps, qs, rfl, rfl, hab, hx', zce hb, zfn (by rw [← rx.length, ← rb.length]; exact hl.1), ?_⟩
    exact q σ _ (h'.mut ei' g1 ⟨_, zav, rx'.merge rb⟩)
   ·cases e
  | _=>cases e
 ·cases e
end L2
namespace L2
open PySem PySem.Spec PyProof.Rows
theorem EnvOk.rebase {fx : Addr → Prop} {H0 : Hp} {env : DEnv} {σ : St} {H : Hp} (h : EnvOk fx H0 env σ H) : EnvOk fx (Offs (own env σ) H) env σ H:=by
 refine ⟨h.len, h.pl, fun i d e=>?_, h.inj, Offs.same _ _, h.fxs⟩
 obtain ⟨a, h1, h2, h3, h4⟩:=h.ac i d e
 exact ⟨a, h1, Offs.out ⟨i, d, e, h1⟩, h3, h4⟩
theorem EnvOk.floor {fx : Addr → Prop} {H0 : Hp} {env : DEnv} {σ : St} {H : Hp} (h : EnvOk fx H0 env σ H) : Same H0 (Offs (own env σ) H):=fun b o e=>by
 rw [Offs.get]
 ·exact h.base b o e
 ·rintro ⟨i, d, h1, h2⟩
  obtain ⟨a, g1, g2, _⟩:=h.ac i d h1
  rw [h2] at g1
  cases g1
  rw [g2] at e
  cases e
theorem EnvOk.unbase {fx : Addr → Prop} {H0 F : Hp} {env : DEnv} {σ : St} {H : Hp} (h : EnvOk fx F env σ H) (s : Same H0 F) : EnvOk fx H0 env σ H:=by
 refine ⟨h.len, h.pl, fun i d e=>?_, h.inj, s.trans h.base, h.fxs⟩
 obtain ⟨a, h1, h2, h3, h4⟩:=h.ac i d e
 exact ⟨a, h1, s.free h2, h3, h4⟩
theorem zpd.unbase {fx : Addr → Prop} {H0 F : Hp} {d : PyData} {fr : Bool} {v : V} {H : Hp} (h : zpd fx F d fr v H) (s : Same H0 F) : zpd fx H0 d fr v H :=
 ⟨h.1, fun e=>let ⟨a, h1, h2, h3⟩:=h.2 e; ⟨a, h1, s.free h2, h3⟩⟩
theorem EnvOk.seen {fx : Addr → Prop} {env env' : DEnv} {σ σ' : St} {H H' : Hp} (h : EnvOk fx (Offs (own env σ) H) env' σ' H') : Same (Offs (fun b=>fx b ∨ own env σ b) H) (Offs (fun b=>fx b ∨ own env' σ' b) H'):=fun b o e=>by
 obtain ⟨h1, h2⟩:=Offs.of e
 have hF : Offs (own env σ) H b = some o:=by rw [Offs.get fun z=>h1 (.inr z)]; exact h2
 rw [Offs.get]
 ·exact h.base b o hF
 ·rintro (z | ⟨i, d, g1, g2⟩)
  ·exact h1 (.inl z)
  ·obtain ⟨a, k1, k2, _⟩:=h.ac i d g1
   rw [g2] at k1
   cases k1
   rw [k2] at hF
   cases hF
theorem EnvOk.all {fx : Addr → Prop} {H0 : Hp} {env : DEnv} {σ : St} {H : Hp} (h : EnvOk fx H0 env σ H) : ∀ b, fx b ∨ own env σ b → ∃ o, H b = some o:=fun b z=>h.lims [] b (zafb b z)
noncomputable def Yl (A0 : Addr → Prop) (H1 : Hp) (J : It) (ds : List PyData) : Prop:=∀ (A : Addr → Prop) (H' : Hp), (∀ b, A b → ∃ o, H' b = some o) → Same (Offs A0 H1) (Offs A H') →
 (∀ i d, ds[i]? = some d → J.go i H' ∧ ∀ x H'', J.yld i H' x H'' → Same H' H'' ∧ Rp (Offs A H'') d x) ∧ J.stop ds.length H'
noncomputable abbrev IF':=DEnv → Option (List PyData × List Nat)
noncomputable def SI (wi : TI) (f : IF') : Prop:=∀ (fx : Addr → Prop) (H0 : Hp) (env : DEnv) (σ : St) (H : Hp), EnvOk fx H0 env σ H → ∀ ds bs, f env = some (ds, bs) → ∀ R : It → Hp → Prop,
 (∀ J H1, Same H H1 → Yl (fun b=>fx b ∨ own (frzs env bs) σ b) H1 J ds → R J H1) → wi σ H R
noncomputable def iSeq (K : PySem.W.Frag) (te : TE) : TI:=fun σ H R=>te σ H fun x H1=>∃ a, x = .ref a ∧ ((∃ xs, SqL K H1 a xs) ∧ R (Itl K a) H1 ∨ (∃ xs, SqT K H1 a xs) ∧ R (Itt K a) H1)
theorem zahz {X : Cx} {tg l : Expr} {tl : TE} (hl : PE X l tl) : PI X tg l (iSeq X.K tl):=by
 intro pins s σ H R I h
 refine thn (hl pins s σ H _ I h) fun v s1 ⟨x, H1, I1, r1, q1⟩=>?_
 obtain ⟨a, e, q⟩:=q1
 subst e
 cases r1
 rcases q with ⟨⟨xs, hq⟩, q⟩ | ⟨⟨xs, hq⟩, q⟩
 ·obtain ⟨its, rv, p, hz⟩:=I1.list hq
  refine wpAny_pyIter_list p.isList ?_
  refine ⟨s1.heap.objs.size, [s1.heap.objs.size], _, _, H1, rfl, I1.kept (t':=s1.toks) fun b o e=>Heap.get?_push_of_some _ e, zpt a _, ⟨_, Heap.get?_push_size _ rfl, rfl, rfl⟩, fun b hb=>?_, q⟩
  have e : b = s1.heap.objs.size:=by simpa using hb
  subst e
  exact I1.fpOk (Nat.le_refl _) (I1.hok.fresh (Nat.le_refl _))
 ·obtain ⟨its, rv, p, hz⟩:=I1.tuple hq
  refine wpAny_pyIter_tuple (show s1.heap.IsTuple a its.toArray from p) ?_
  refine ⟨s1.heap.objs.size, [s1.heap.objs.size], _, _, H1, rfl, I1.kept (t':=s1.toks) fun b o e=>Heap.get?_push_of_some _ e, zvu a _, ⟨_, Heap.get?_push_size _ rfl, rfl, rfl⟩, fun b hb=>?_, q⟩
  have e : b = s1.heap.objs.size:=by simpa using hb
  subst e
  exact I1.fpOk (Nat.le_refl _) (I1.hok.fresh (Nat.le_refl _))
theorem zafi {X : Cx} {K : PySem.W.Frag} (hK : X.K = K) {tg l : Expr} {tl : TE} (hl : PE X l tl) : PI X tg l (iSeq K tl):=by subst hK; exact zahz hl
noncomputable def zaq (f : EF) : IF':=fun env=>(f env).bind fun r=>(ziy r.d).map fun ds=>(ds, r.bs)
theorem zafj {K : PySem.W.Frag} {A0 : Addr → Prop} {H1 : Hp} {a : Addr} {ds : List PyData} {xs : List V} (h : Offs A0 H1 a = some (.lst xs)) (r : Rps (Offs A0 H1) ds xs) : Yl A0 H1 (Itl K a) ds:=by
 intro A H' hA s
 have ha:=zce (s _ _ h)
 have r':=Rps.same s _ r
 refine ⟨fun i d e=>?_, ⟨xs, SqL.of ha, by rw [r.length]; exact Nat.le_refl _⟩⟩
 obtain ⟨v, hv, rv⟩:=r'.get2 e
 refine ⟨⟨xs, v, SqL.of ha, hv⟩, fun x H'' y=>?_⟩
 obtain ⟨rfl, y⟩:=y
 have:=y xs (SqL.of ha)
 rw [hv] at this
 cases this
 exact ⟨Same.refl _, rv⟩
theorem zaia {K : PySem.W.Frag} {A0 : Addr → Prop} {H1 : Hp} {a : Addr} {ds : List PyData} {xs : List V} (h : Offs A0 H1 a = some (.tup xs)) (r : Rps (Offs A0 H1) ds xs) : Yl A0 H1 (Itt K a) ds:=by
 intro A H' hA s
 have ha:=zce (s _ _ h)
 have r':=Rps.same s _ r
 refine ⟨fun i d e=>?_, ⟨xs, SqT.of ha, by rw [r.length]; exact Nat.le_refl _⟩⟩
 obtain ⟨v, hv, rv⟩:=r'.get2 e
 refine ⟨⟨xs, v, SqT.of ha, hv⟩, fun x H'' y=>?_⟩
 obtain ⟨rfl, y⟩:=y
 have:=y xs (SqT.of ha)
 rw [hv] at this
 cases this
 exact ⟨Same.refl _, rv⟩
theorem zcp {K : PySem.W.Frag} {te : TE} {f : EF} (h1 : SE te f) : SI (iSeq K te) (zaq f):=by
 intro fx H0 env σ H h ds bs e R q
 unfold zaq at e
 obtain ⟨⟨d, fr, bs'⟩, er, e⟩:=Option.bind_eq_some_iff.mp e
 obtain ⟨es, he, e⟩:=Option.map_eq_some_iff.mp e
 cases e
 refine h1 fx H0 env σ H h _ er _ fun v H1 s hv=>?_
 have rp:=Rp.same (Offs.sub (zgx (bs:=bs'))) _ hv.rp
 cases d with
 | list ds =>
  cases he
  obtain ⟨a, xs, rfl, ha, r⟩:=zcv rp
  exact ⟨a, rfl, .inl ⟨⟨xs, SqL.of (zce ha)⟩, q _ H1 s (zafj ha r)⟩⟩
 | tuple ds =>
  cases he
  obtain ⟨a, xs, rfl, ha, r⟩:=zci rp
  exact ⟨a, rfl, .inr ⟨⟨xs, SqT.of (zce ha)⟩, q _ H1 s (zaia ha r)⟩⟩
 | _=>cases he
noncomputable def ztj (ds : List PyData) : List PyData:=ds.zipIdx.map fun p=>.tuple [.int p.2, p.1]
noncomputable def zuz (f : AF) : IF':=fun env=>(f env).bind fun rs=>match rs with
 | [r]=>match r.d with
  | .list ds=>some (ztj ds, r.bs)
  | _=>none
 | _=>none
noncomputable def zlr (lo : Int) (n : Nat) : List PyData:=(List.range n).map fun (k : Nat)=>.int (lo + (k : Int))
theorem zabv {A0 : Addr → Prop} {H1 : Hp} {lo : Int} {n : Nat} : Yl A0 H1 (Itr lo n) (zlr lo n):=by
 intro A H' hA s
 have hl : (zlr lo n).length = n:=by unfold zlr; simp
 refine ⟨fun i d e=>?_, by rw [hl]; exact Nat.le_refl _⟩
 unfold zlr at e
 rw [List.getElem?_map] at e
 by_cases hi : i < n
 ·rw [List.getElem?_range hi] at e
  cases e
  exact ⟨hi, fun x H'' ⟨e1, e2⟩=>by subst e1; subst e2; exact ⟨Same.refl _, zah⟩⟩
 ·rw [List.getElem?_eq_none (by simpa using hi)] at e
  cases e
noncomputable def zfo (f : AF) : IF':=fun env=>(f env).bind fun rs=>match rs with
 | [⟨.int j, _, _⟩]=>if -(2 ^ 62) ≤ j ∧ j < 2 ^ 62 then some (zlr 0 j.toNat, []) else none
 | _=>none
theorem zls {ta : TA} {f : AF} (h1 : SA ta f) : SI (iRng1 ta) (zfo f):=by
 intro fx H0 env σ H h ds bs e R q
 unfold zfo at e
 obtain ⟨rs, er, e⟩:=Option.bind_eq_some_iff.mp e
 split at e
 ·split at e
  ·rename_i hj
   cases e
   refine h1 fx H0 env σ H h _ er _ fun vs H1 s hv=>?_
   cases hv with
   | cons hv t =>
    cases t
    cases zdo hv.rp
    exact ⟨_, rfl, hj.1, hj.2, q _ H1 s zabv⟩
  ·cases e
 ·cases e
noncomputable def forL (g : GT) (body : SF) : List PyData → DEnv → Option Out
 | [], env=>some (.nx env)
 | d :: ds, env=>(g d env).bind fun e1=>(body e1).bind fun o=>match o with
  | .nx e2=>forL g body ds e2
  | .ct e2=>forL g body ds e2
  | .bk e2=>some (.nx e2)
  | .rt d fr=>some (.rt d fr)
noncomputable def sFor (f : IF') (g : GT) (body : SF) : SF:=fun env=>(f env).bind fun z=>forL g body z.1 (frzs env z.2)
theorem zfp {wi : TI} {g : TG} {tb : TS} {f : IF'} {gf : GT} {body : SF} (h1 : SI wi f) (h2 : SG g gf) (h3 : SS tb body) : SS (tFor wi g tb) (sFor f gf body):=by
 intro fx H0 env σ H D h o e q
 unfold sFor at e
 obtain ⟨⟨ds, bs⟩, er, e⟩:=Option.bind_eq_some_iff.mp e
 refine h1 fx H0 env σ H h ds bs er _ fun J H1 s yl=>?_
 have hE:=(h.up s).frzs bs
 have fl:=hE.floor
 refine ⟨fun i m σ' H'=>m = ds.length - i ∧ i ≤ ds.length ∧ ∃ env', forL gf body (ds.drop i) env' = some o ∧ EnvOk fx (Offs (own (frzs env bs) σ) H1) env' σ' H', ⟨ds.length, rfl, Nat.zero_le _, _, e, hE.rebase⟩, ?_⟩
 rintro i m σ' H' ⟨rfl, hi, env', e', h'⟩
 obtain ⟨yi, ys⟩:=yl _ H' h'.all h'.seen
 by_cases hlt : i < ds.length
 ·obtain ⟨yg, yy⟩:=yi i ds[i] (List.getElem?_eq_getElem hlt)
  refine .inr ⟨yg, fun σ'' H''=>i + 1 ≤ ds.length ∧ ∃ env'', forL gf body (ds.drop (i + 1)) env'' = some o ∧ EnvOk fx (Offs (own (frzs env bs) σ) H1) env'' σ'' H'', ?_, ?_⟩
  ·rintro σ'' H'' ⟨hle, env'', e'', h''⟩
   exact ⟨ds.length - (i + 1), by omega, rfl, hle, env'', e'', h''⟩
  ·intro x H'' hy
   obtain ⟨sy, ry⟩:=yy x H'' hy
   rw [List.drop_eq_getElem_cons hlt] at e'
   obtain ⟨e1, ee1, e'⟩:=Option.bind_eq_some_iff.mp e'
   obtain ⟨o1, eo1, e'⟩:=Option.bind_eq_some_iff.mp e'
   refine h2 fx _ env' σ' H'' _ x (h'.up sy) ry e1 ee1 _ fun σ2 h2'=>h3 fx _ e1 σ2 H'' _ h2' o1 eo1 ?_
   cases o1 with
   | nx e2=>exact fun σ3 H3 hh=>⟨hlt, e2, e', hh⟩
   | ct e2=>exact fun σ3 H3 hh=>⟨hlt, e2, e', hh⟩
   | bk e2=>cases e'; exact fun σ3 H3 hh=>q σ3 H3 (hh.unbase fl)
   | rt d fr=>cases e'; exact fun v H3 sh rt=>q v H3 (fl.trans sh) (rt.unbase fl)
 ·have hi' : i = ds.length:=by omega
  subst hi'
  rw [List.drop_length] at e'
  cases e'
  exact .inl ⟨ys, q σ' H' (h'.unbase fl)⟩
noncomputable def zhu (c : TF) (body : SF) : Nat → DEnv → Option Out
 | 0, _=>none
 | n + 1, env=>(c env).bind fun b=>if b = true then (body env).bind fun o=>match o with
  | .nx e2=>zhu c body n e2
  | .ct e2=>zhu c body n e2
  | .bk e2=>some (.nx e2)
  | .rt d fr=>some (.rt d fr)
  else some (.nx env)
theorem zabw {tc : TT} {tb : TS} {c : TF} {body : SF} (n : Nat) (h1 : ST tc c) (h2 : SS tb body) : SS (tWhile tc tb) (zhu c body n):=by
 intro fx H0 env σ H D h o e q
 refine ⟨fun m σ' H'=>∃ env', zhu c body m env' = some o ∧ EnvOk fx H0 env' σ' H', ⟨n, env, e, h⟩, ?_⟩
 rintro m σ' H' ⟨env', e', h'⟩
 cases m with
 | zero=>cases e'
 | succ m =>
  obtain ⟨b, eb, e'⟩:=Option.bind_eq_some_iff.mp e'
  refine h1 fx H0 env' σ' H' h' b eb _ fun H1 s1=>?_
  cases b with
  | false=>cases e'; exact iteF (q σ' H1 (h'.up s1))
  | true =>
   have e' : ((body env').bind fun o=>match o with
    | .nx e2=>zhu c body m e2
    | .ct e2=>zhu c body m e2
    | .bk e2=>some (.nx e2)
    | .rt d fr=>some (.rt d fr)) = some o:=e'
   obtain ⟨o1, eo1, e'⟩:=Option.bind_eq_some_iff.mp e'
   refine iteT ⟨fun σ'' H''=>∃ env'', zhu c body m env'' = some o ∧ EnvOk fx H0 env'' σ'' H'', fun σ'' H'' hh=>⟨m, Nat.lt_succ_self _, hh⟩, ?_⟩
   refine h2 fx H0 env' σ' H1 _ (h'.up s1) o1 eo1 ?_
   cases o1 with
   | nx e2=>exact fun σ3 H3 hh=>⟨e2, e', hh⟩
   | ct e2=>exact fun σ3 H3 hh=>⟨e2, e', hh⟩
   | bk e2=>cases e'; exact fun σ3 H3 hh=>q σ3 H3 hh
   | rt d fr=>cases e'; exact fun v H3 sh rt=>q v H3 sh rt
noncomputable def zlt (n : Nat) (ds : List PyData) : DEnv:=ds.map .pl ++ List.replicate (n - ds.length) .no
noncomputable def fnD (n : Nat) (f : SF) : GF:=fun ds=>match f (zlt n ds) with
 | some (.rt d fr)=>some (d, fr)
 | some (.nx _)=>some (.none, false)
 | _=>none
theorem zqs {ds : List PyData} {n i : Nat} {sl : Sl} (e : (zlt n ds)[i]? = some sl) : (∃ d, ds[i]? = some d ∧ sl = .pl d) ∨ sl = .no:=by
 unfold zlt at e
 by_cases hi : i < ds.length
 ·rw [List.getElem?_append_left (by simpa using hi), List.getElem?_map, List.getElem?_eq_getElem hi] at e
  cases e
  exact .inl ⟨_, List.getElem?_eq_getElem hi, rfl⟩
 ·rw [List.getElem?_append_right (by simpa using hi), List.getElem?_replicate] at e
  split at e
  ·cases e; exact .inr rfl
  ·cases e
theorem zqt {fx : Addr → Prop} {H : Hp} {N : List Str} {ds : List PyData} {vs : List V} (hf : ∀ b, fx b → ∃ o, H b = some o) (r : Rps (Offs fx H) ds vs) : EnvOk fx H (zlt N.length ds) (zkw N vs) H:=by
 have no : ∀ (i : Nat) (d : PyData), (zlt N.length ds)[i]? ≠ some (Sl.ac d):=fun i d e=>by
  rcases zqs e with ⟨d', _, z⟩ | z <;> cases z
 refine ⟨?_, fun i d e=>?_, fun i d e=>absurd e (no i d), fun i j d e a h1=>absurd h1 (no i d), Same.refl _, hf⟩
 ·unfold zlt zkw
  rw [List.length_append, List.length_append, List.length_map, List.length_map, List.length_replicate, List.length_replicate, r.length]
 ·rcases zqs e with ⟨d', hd, z⟩ | z
  ·cases z
   obtain ⟨v, hv, rv⟩:=r.get2 hd
   refine ⟨v, ?_, Rp.same (Offs.sub fun b z=>?_) _ rv⟩
   ·unfold zkw
    have hi : i < vs.length:=(List.getElem?_eq_some_iff.mp hv).1
    rw [List.getElem?_append_left (by simpa using hi), List.getElem?_map, hv]; rfl
   ·rcases z with z | ⟨j, d', z, _⟩
    ·exact z
    ·exact absurd z (no j d')
  ·cases z
theorem fn_d {N : List Str} {n : Nat} {f : SF} {t : TS} (hs : SS t f) {vs : List V} {H : Hp} {Q : VK} {E : XK} (h : spD n (fnD N.length f) vs H Q E) : t { nx:=fun _ H'=>Q .non H', rt:=Q } (zkw N vs) H:=by
 obtain ⟨fx, ds, d, fr, hn, hf, r, g, k⟩:=h
 unfold fnD at g
 split at g
 ·rename_i d' fr' eo
  cases g
  exact hs fx H _ _ H _ (zqt hf r) _ eo fun v H' s rt=>k v H' s rt
 ·rename_i e' eo
  cases g
  exact hs fx H _ _ H _ (zqt hf r) _ eo fun σ H' hE=>k .non H' hE.base ⟨zff, fun z=>by cases z⟩
 ·cases g
theorem zcn {n : Nat} {g : GF} {vs : List V} {H : Hp} {Q : VK} {E : XK} (h : spD n g vs H Q E) : vs.length = n:=by
 obtain ⟨fx, ds, d, fr, hn, hf, r, _⟩:=h
 rw [← r.length]; exact hn
end L2
namespace L2
open PySem PySem.Spec PyProof.Rows
noncomputable def zafk : Sl → Sl
 | .ac d=>.pl d
 | s=>s
noncomputable def envB (own : List Str) (fr : List Nat) (env : DEnv) : DEnv:=own.map (fun _=>Sl.no) ++ fr.map (fun j=>zafk (env.getD j .no))
noncomputable def isAc : Option Sl → Bool
 | some (.ac _)=>true
 | _=>false
noncomputable def capA (fr : List Nat) (env : DEnv) : List Nat:=fr.filter fun j=>isAc env[j]?
theorem zva {own : List Str} {fr : List Nat} {env : DEnv} {i : Nat} {d : PyData} (e : (envB own fr env)[i]? = some (.pl d)) : ∃ j k, i = own.length + k ∧ fr[k]? = some j ∧ (env[j]? = some (.pl d) ∨ env[j]? = some (.ac d)):=by
 unfold envB at e
 by_cases hi : i < own.length
 ·rw [List.getElem?_append_left (by simpa using hi), List.getElem?_map, List.getElem?_eq_getElem hi] at e
  cases e
 ·rw [List.getElem?_append_right (by simpa using hi), List.length_map, List.getElem?_map] at e
  cases ej : fr[i - own.length]? with
  | none=>rw [ej] at e; cases e
  | some j =>
   rw [ej] at e
   refine ⟨j, i - own.length, by omega, ej, ?_⟩
   have e : zafk (env.getD j .no) = .pl d:=Option.some.inj e
   rw [List.getD_eq_getElem?_getD] at e
   cases ev : env[j]? with
   | none=>rw [ev] at e; cases e
   | some s =>
    rw [ev] at e
    cases s with
    | no=>cases e
    | pl d'=>cases e; exact .inl rfl
    | ac d'=>cases e; exact .inr rfl
theorem zkh {own : List Str} {fr : List Nat} {env : DEnv} {i : Nat} {d : PyData} : (envB own fr env)[i]? ≠ some (.ac d):=by
 intro e
 unfold envB at e
 by_cases hi : i < own.length
 ·rw [List.getElem?_append_left (by simpa using hi), List.getElem?_map, List.getElem?_eq_getElem hi] at e
  cases e
 ·rw [List.getElem?_append_right (by simpa using hi), List.length_map, List.getElem?_map] at e
  cases ej : fr[i - own.length]? with
  | none=>rw [ej] at e; cases e
  | some j =>
   rw [ej] at e
   have e : zafk (env.getD j .no) = .ac d:=Option.some.inj e
   cases ev : env.getD j .no with
   | no=>rw [ev] at e; cases e
   | pl d'=>rw [ev] at e; cases e
   | ac d'=>rw [ev] at e; cases e
theorem zyi {own : List Str} {fr : List Nat} {σ : St} {k j : Nat} {v : V} (hk : fr[k]? = some j) (hv : σ[j]? = some (some v)) : (tau own fr σ)[own.length + k]? = some (some v):=by
 unfold tau
 rw [List.getElem?_append_right (by simp), List.length_map, Nat.add_sub_cancel_left, List.getElem?_map, hk]
 show some (σ.getD j none) = _
 rw [List.getD_eq_getElem?_getD, hv]; rfl
theorem zyj {fx : Addr → Prop} {H0 : Hp} {env : DEnv} {σ : St} {H H1 : Hp} {p : Addr} (h : EnvOk fx H0 env σ H) (s : Same H H1) (hp : H1 p = none) (own : List Str) (fr : List Nat) (bs : List Nat) :
  EnvOk (fun b=>lim fx env σ (bs ++ capA fr env) b ∨ b = p) H1 (envB own fr env) (tau own fr σ) (upd H1 p (.lst [])):=by
 have h1:=h.up s
 have sp : Same H1 (upd H1 p (.lst [])):=Same.new hp
 have so : Same (Offs (fun b=>fx b ∨ L2.own env σ b) H1) (Offs (fun b=>(lim fx env σ (bs ++ capA fr env) b ∨ b = p) ∨ L2.own (envB own fr env) (tau own fr σ) b) (upd H1 p (.lst []))):=Offs.mono sp fun b o e n z=>by
  rcases z with (z | z) | ⟨i, d, z, _⟩
  ·exact n (zll b z)
  ·rw [z, hp] at e; cases e
  ·exact absurd z zkh
 refine ⟨?_, fun i d e=>?_, fun i d e=>absurd e zkh, fun i j d e a z=>absurd z zkh, sp, fun b z=>?_⟩
 ·unfold envB tau; simp
 ·obtain ⟨j, k, rfl, hk, hj⟩:=zva e
  rcases hj with hj | hj
  ·obtain ⟨v, h2, h3⟩:=h1.pl j d hj
   exact ⟨v, zyi hk h2, Rp.same so _ h3⟩
  ·obtain ⟨a, h2, h3, h4, h5⟩:=h1.ac j d hj
   refine ⟨_, zyi hk h2, h5.rp so fun o eo=>?_⟩
   rw [Offs.get]
   ·exact sp _ _ eo
   ·rintro ((z | ⟨i', d', z1, z2, z3⟩) | ⟨i', d', z, _⟩)
    ·rcases z with z | ⟨i', d', z1, z2, z3⟩
     ·exact h4 z
     ·have e2:=h1.inj i' j d' d a z2 hj z3 h2
      subst e2
      refine z1 (List.mem_append_right _ (List.mem_filter.mpr ⟨List.mem_of_getElem? hk, ?_⟩))
      rw [hj]; rfl
    ·rw [hp] at eo; cases eo
    ·exact absurd z zkh
 ·rcases z with z | z
  ·obtain ⟨o, e⟩:=h1.lims _ b z; exact ⟨o, sp b o e⟩
  ·rw [z]; exact ⟨_, zav⟩
theorem EnvOk.weaken {fx : Addr → Prop} {H0 : Hp} {env e1 : DEnv} {σ : St} {H : Hp} (h : EnvOk fx H0 e1 σ H) (hl : env.length = e1.length) (hp : ∀ (i : Nat) (d : PyData), env[i]? = some (.pl d) → e1[i]? = some (.pl d)) (ha : ∀ (i : Nat) (d : PyData), env[i]? ≠ some (.ac d)) : EnvOk fx H0 env σ H:=by
 refine ⟨hl.trans h.len, fun i d e=>?_, fun i d e=>absurd e (ha i d), fun i j d e a z=>absurd z (ha i d), h.base, h.fxs⟩
 obtain ⟨v, h1, h2⟩:=h.pl i d (hp i d e)
 exact ⟨v, h1, Rp.same (Offs.sub fun b z=>z.imp (fun y=>y) fun ⟨j, d', z, _⟩=>absurd z (ha j d')) _ h2⟩
theorem EnvOk.updFx {fx : Addr → Prop} {H0 : Hp} {env : DEnv} {σ : St} {H : Hp} {p : Addr} {o : HO} (h : EnvOk fx H0 env σ H) (hp : fx p) (h0 : H0 p = none) : EnvOk fx H0 env σ (upd H p o):=by
 have so : Offs (fun b=>fx b ∨ own env σ b) (upd H p o) = Offs (fun b=>fx b ∨ own env σ b) H:=Offs.upd (.inl hp)
 refine ⟨h.len, fun i d e=>?_, fun i d e=>?_, h.inj, fun b u e=>by rw [zbf (zbm e h0)]; exact h.base b u e, fun b z=>?_⟩
 ·rw [so]; exact h.pl i d e
 ·obtain ⟨a, h1, h2, h3, h4⟩:=h.ac i d e
  rw [so]
  exact ⟨a, h1, h2, h3, h4.same (Same.refl _) fun u z=>by rw [zbf fun y=>h3 (by rw [y]; exact hp)]; exact z⟩
 ·by_cases e : b = p
  ·rw [e]; exact ⟨_, zav⟩
  ·obtain ⟨u, hu⟩:=h.fxs b z
   exact ⟨u, by rw [zbf e]; exact hu⟩
noncomputable def GX (n : Nat) (g : GT) : Prop:=∀ d env e1, g d env = some e1 → e1.length = env.length ∧ ∀ i, n ≤ i → e1[i]? = env[i]?
noncomputable def GXs (n : Nat) (g : GTs) : Prop:=∀ ds env e1, g ds env = some e1 → e1.length = env.length ∧ ∀ i, n ≤ i → e1[i]? = env[i]?
theorem zgy {n i : Nat} (h : i < n) : GX n (gN i):=by
 intro d env e1 e
 cases e
 exact ⟨List.length_set, fun j hj=>List.getElem?_set_ne (by omega)⟩
theorem zyk {n : Nat} : GXs n zjr:=by
 intro ds env e1 e
 cases ds with
 | nil=>cases e; exact ⟨rfl, fun _ _=>rfl⟩
 | cons _ _=>cases e
theorem zlb {n i : Nat} {g : GTs} (h : i < n) (hg : GXs n g) : GXs n (zcf i g):=by
 intro ds env e1 e
 cases ds with
 | nil=>cases e
 | cons d ds =>
  obtain ⟨h1, h2⟩:=hg ds _ e1 e
  rw [List.length_set] at h1
  exact ⟨h1, fun j hj=>(h2 j hj).trans (List.getElem?_set_ne (by omega))⟩
theorem zadk {n m : Nat} {g : GTs} (hg : GXs n g) : GX n (gT m g):=by
 intro d env e1 e
 unfold gT at e
 cases d with
 | tuple ds =>
  have e : (if ds.length = m then g ds env else none) = some e1:=e
  split at e
  ·exact hg ds env e1 e
  ·cases e
 | _=>cases e
noncomputable def zfd (g : GT) (t : TF) (e : EF) (env : DEnv) : List PyData → Option (List PyData)
 | []=>some []
 | d :: ds=>(g d env).bind fun e1=>(t e1).bind fun b=>if b = true then (e e1).bind fun r=>(zfd g t e env ds).map fun rs=>r.d :: rs else zfd g t e env ds
noncomputable def zcw (own : List Str) (fr : List Nat) (fi : IF') (g : GT) (t : TF) (e : EF) : EF:=fun env=>(fi env).bind fun z=>if z.1.length < 100000 then
 (zfd g t e (envB own fr env) z.1).map fun rs=>⟨.list rs, true, if zdw rs = true then [] else z.2 ++ capA fr env⟩ else none
theorem zhv {H H' : Hp} {ds : List PyData} {vs : List V} (f : zdw ds = true) (h : Rps H ds vs) : Rps H' ds vs:=by
 replace h:=zcl.mp h
 induction h with
 | nil=>exact zdf
 | cons h _ ih =>
  unfold zdw at f
  rw [List.all_cons, Bool.and_eq_true] at f
  exact zde (ztd f.1 h) (ih f.2)
theorem zfq {own : List Str} {fr : List Nat} {wi : TI} {g : TG} {tt : TT} {te : TE} {fi : IF'} {gf : GT} {t : TF} {e : EF} (h1 : SI wi fi) (h2 : SG g gf) (hx : GX own.length gf) (h3 : ST tt t) (h4 : SE te e) :
  SE (tComp1 wi g tt te own fr) (zcw own fr fi gf t e):=by
 intro fx H0 env σ H h rr hr Q q
 unfold zcw at hr
 obtain ⟨⟨ds, bs⟩, ei, hr⟩:=Option.bind_eq_some_iff.mp hr
 split at hr
 ·rename_i hlen
  have hlen : ds.length < 100000:=hlen
  obtain ⟨rs, ers, rfl⟩:=Option.map_eq_some_iff.mp hr
  refine h1 fx H0 env σ H h ds bs ei _ fun J H1 s yl=>fun p hp=>?_
  have hB:=zyj h s hp own fr bs
  generalize hA : (fun b=>lim fx env σ (bs ++ capA fr env) b) = A
  have hA' : ∀ b, lim fx env σ (bs ++ capA fr env) b ↔ A b:=fun b=>by rw [← hA]
  have eA : (fun b=>lim fx env σ (bs ++ capA fr env) b ∨ b = p) = fun b=>A b ∨ b = p:=by rw [← hA]
  rw [eA] at hB
  have nA : ¬ A p:=fun z=>by
   obtain ⟨o, eo⟩:=(h.up s).lims _ p ((hA' p).mpr z)
   rw [hp] at eo; cases eo
  have seen : ∀ {σ' : St} {H' : Hp}, EnvOk (fun b=>A b ∨ b = p) H1 (envB own fr env) σ' H' → Same (Offs (fun b=>fx b ∨ L2.own (frzs env bs) σ b) H1) (Offs (fun b=>A b ∨ b = p) H'):=fun {σ' H'} hE=>Offs.mono hE.base fun b o eo n z=>by
   rcases z with z | z
   ·rcases (hA' b).mpr z with z | ⟨i, d, z1, z2, z3⟩
    ·exact n (.inl z)
    ·exact n (.inr ⟨i, d, zla (fun y=>z1 (List.mem_append_left _ y)) z2, z3⟩)
   ·rw [z, hp] at eo; cases eo
  refine ⟨fun i m σ' H'=>m = ds.length - i ∧ i ≤ ds.length ∧ ∃ vs done rest, H' p = some (.lst vs) ∧ Rps (Offs (fun b=>A b ∨ b = p) H') done vs ∧ done.length ≤ i ∧ zfd gf t e (envB own fr env) (ds.drop i) = some rest ∧ done ++ rest = rs ∧ EnvOk (fun b=>A b ∨ b = p) H1 (envB own fr env) σ' H',
   ⟨ds.length, rfl, Nat.zero_le _, [], [], rs, zav, zdf, Nat.zero_le _, ers, rfl, hB⟩, ?_⟩
  rintro i m σ' H' ⟨rfl, hi, vs, done, rest, ep, rd, dl, ec, edr, hE⟩
  obtain ⟨yi, ys⟩:=yl _ H' hE.fxs (seen hE)
  by_cases hlt : i < ds.length
  ·obtain ⟨yg, yy⟩:=yi i ds[i] (List.getElem?_eq_getElem hlt)
   refine .inr ⟨yg, fun σ'' H''=>i + 1 ≤ ds.length ∧ ∃ vs done rest, H'' p = some (.lst vs) ∧ Rps (Offs (fun b=>A b ∨ b = p) H'') done vs ∧ done.length ≤ i + 1 ∧ zfd gf t e (envB own fr env) (ds.drop (i + 1)) = some rest ∧ done ++ rest = rs ∧ EnvOk (fun b=>A b ∨ b = p) H1 (envB own fr env) σ'' H'', ?_, ?_⟩
   ·rintro σ'' H'' ⟨hle, hh⟩
    exact ⟨ds.length - (i + 1), by omega, rfl, hle, hh⟩
   ·intro x H'' hy
    obtain ⟨sy, ry⟩:=yy x H'' hy
    rw [List.drop_eq_getElem_cons hlt] at ec
    obtain ⟨e1, ee1, ec⟩:=Option.bind_eq_some_iff.mp ec
    obtain ⟨b, eb, ec⟩:=Option.bind_eq_some_iff.mp ec
    have ry' : Rp (Offs (fun a=>(A a ∨ a = p) ∨ L2.own (envB own fr env) σ' a) H'') ds[i] x:=Rp.same (Offs.sub fun b z=>z.elim (fun y=>y) fun ⟨j, d', z, _⟩=>absurd z zkh) _ ry
    refine h2 _ H1 (envB own fr env) σ' H'' _ x (hE.up sy) ry' e1 ee1 _ fun σ2 hE2=>?_
    refine h3 _ H1 e1 σ2 H'' hE2 b eb _ fun H3 s3=>?_
    have hE3:=hE2.up s3
    obtain ⟨gl, gk⟩:=hx _ _ _ ee1
    have back : ∀ {H4 : Hp}, EnvOk (fun b=>A b ∨ b = p) H1 e1 σ2 H4 → EnvOk (fun b=>A b ∨ b = p) H1 (envB own fr env) σ2 H4:=fun {H4} hh=>hh.weaken gl.symm (fun j d' ej=>by
     by_cases hj : own.length ≤ j
     ·rw [gk j hj]; exact ej
     ·obtain ⟨_, k, rfl, _⟩:=zva ej; omega) fun j d'=>zkh
    cases b with
    | false =>
     have ec : zfd gf t e (envB own fr env) (ds.drop (i + 1)) = some rest:=ec
     exact iteF ⟨hlt, vs, done, rest, s3 _ _ (sy _ _ ep), Rps.same (Offs.grow (sy.trans s3)) _ rd, Nat.le_succ_of_le dl, ec, edr, back hE3⟩
    | true =>
     have ec : ((e e1).bind fun r=>(zfd gf t e (envB own fr env) (ds.drop (i + 1))).map fun rs=>r.d :: rs) = some rest:=ec
     obtain ⟨r, er, ec⟩:=Option.bind_eq_some_iff.mp ec
     obtain ⟨rest', er', rfl⟩:=Option.map_eq_some_iff.mp ec
     refine iteT (h4 _ H1 e1 σ2 H3 hE3 r er _ fun v H4 s4 hv=>?_)
     have t4:=(sy.trans s3).trans s4
     refine ⟨vs, t4 _ _ ep, zkd (by rw [← rd.length]; omega), hlt, vs ++ [v], done ++ [r.d], rest', zav, ?_, by rw [List.length_append]; simp; omega, er', by rw [← edr]; simp, (back (hE3.up s4)).updFx (.inr rfl) hp⟩
     rw [Offs.upd (.inr rfl)]
     exact (Rps.same (Offs.grow t4) _ rd).append (zde (Rp.same (Offs.sub fun b z=>.inl z) _ hv.rp) zdf)
  ·have hi' : i = ds.length:=by omega
   subst hi'
   rw [List.drop_length] at ec
   cases ec
   rw [List.append_nil] at edr
   subst edr
   refine .inl ⟨ys, q _ H' (s.trans hE.base) ⟨?_, fun _=>⟨p, rfl, s.free hp, ?_⟩⟩⟩
   ·show Rp (Offs (lim fx env σ (if zdw done = true then [] else bs ++ capA fr env)) H') (.list done) (.ref p)
    have nl : ∀ cs, ¬ lim fx env σ cs p:=fun cs z=>by
     obtain ⟨o, eo⟩:=(h.up s).lims _ p z
     rw [hp] at eo; cases eo
    refine zdx (by rw [Offs.get (nl _)]; exact ep) ?_
    split
    ·rename_i f; exact zhv f rd
    ·exact Rps.same (Offs.sub fun b z=>.inl ((hA' b).mp z)) _ rd
   ·show zgi (Offs (fun b=>lim fx env σ (if zdw done = true then [] else bs ++ capA fr env) b ∨ b = p) H') H' p (.list done)
    refine ⟨vs, ep, ?_⟩
    split
    ·rename_i f; exact zhv f rd
    ·exact Rps.same (Offs.sub fun b z=>z.imp (hA' b).mp id) _ rd
 ·cases hr
end L2
namespace L2
open PySem PySem.Spec PyProof.Rows
section
variable {X : Cx} {K : PySem.W.Frag}
theorem zyl (hK : X.K = K) {a : Expr} {ta : TE} (ha : PE X a ta) (he : ∀ whole, isTrue a X.env whole = (do let v ← whole; standAt a.pos; holding [v] (truthy v))) :
  PT X a (fun σ H Q=>ta σ H fun x H'=>∃ k, TruV K x H' k ∧ Q k H'):=by subst hK; exact zaav ha he
theorem ztk (hK : X.K = K) : CallR X (.type "tuple") (fun xs H Q=>∃ p ys, xs = [.ref p] ∧ ((SqL K H p ys ∧ ∀ l, H l = none → Q (.ref l) (upd H l (.tup ys))) ∨ (SqT K H p ys ∧ Q (.ref p) H))):=by subst hK; exact zot
theorem zkr (hK : X.K = K) (hu : X.A.units + 64 < cLine) : OpR X (compareOp .Eq) (fun x y H Q=>rEq x y H Q ∨ rEqD K false x y H Q):=by subst hK; exact zais.or (zahv hu)
theorem zks (hK : X.K = K) (hu : X.A.units + 64 < cLine) : OpR X (compareOp .NotEq) (fun x y H Q=>rNe x y H Q ∨ rEqD K true x y H Q):=by subst hK; exact zait.or (zahw hu)
noncomputable def zhk : TF:=fun _=>some true
theorem zqu : ST tAll zhk:=by
 intro fx H0 env σ H hE b hb Q q
 cases hb
 exact q H (Same.refl _)
noncomputable def eNeg (a : EF) : EF:=fun env=>(a env).bind fun x=>match x.d with | .int i=>some ⟨.int (-i), false, []⟩ | _=>none
theorem zny {te : TE} {f : EF} (h1 : SE te f) : SE (tUn (rU fun i=>.int (-i)) te) (eNeg f):=by
 intro fx H0 env σ H h rr hr Q q
 unfold eNeg at hr
 obtain ⟨⟨d, fr, bs⟩, ex, hr⟩:=Option.bind_eq_some_iff.mp hr
 cases d with
 | int i =>
  cases hr
  exact h1 fx H0 env σ H h _ ex _ fun v H1 s1 v1=>⟨i, zdo v1.rp, q _ H1 s1 ⟨zah, fun z=>by cases z⟩⟩
 | _=>cases hr
end
end L2
namespace PySem
open Sem (wp)
theorem zym : typeLookup (.type "list") "keys" = pure none:=by rw [typeLookup_type, builtinLookup_eq_fast]; kernel_rfl
theorem znl {prog : Program} {w : World} {A : Around} {E : Value → Shared → Prop} {s : Shared} {a : Addr} {o : Obj} {xs : Array Value} {k : Nat} {u : Tok} {Q : Value → Shared → Prop}
  (hx : s.heap.get? a = some o) (hc : o.cls = .type "list") (hdat : o.data = .seq xs k) (hd : o.dict = none) (hA : A.handled = none)
  (h : ∀ h' tk e, Heap.NewExcOf s.heap h' e "AttributeError" → E (.ref e) { s with heap:=h', toks:=tk }) :
  wpAny (model prog w) A (getAttrBy (.ref a) (.str "keys" u) false) Q E s:=by
 obtain ⟨c, dct, dat, sl⟩:=o
 simp only at hc hdat hd
 subst hc hdat hd
 obtain ⟨hp, g, d, tk, os⟩:=s
 have hT : ∀ tk', (⟨hp, g, d, tk', os⟩ : Shared).TypeIs (.ref a) "list":=fun _=>⟨_, hx, rfl⟩
 have f1:=sub_AttributeError
 have f3:=F.slot_list_getattribute.lookup
 have f4:=F.slot_list_getattribute.bind (.ref a)
 have f5:=am_list_getattr_none
 unfold getAttrBy
 repeat (any_goals (first | assumption | exact hT _ | ((with_reducible show wpAny _ _ (call (Value.builtin "list.__getattribute__") _ _) _ _ _); refine call_meets F.slot_list_getattribute (hT _) am_entry_list_getattribute (F.args_list_getattribute_2 _ _) (meets_getattribute_miss_list a xs k sl "keys" _ zym (by decide) (by size_fits)) ⟨hx, hA, fun h' tk' e hx'=>?_⟩) | wp_step))
 obtain ⟨t', u', he⟩:=hx'.there
 show wpAny _ _ (getattributeRaised _ _ _ _ _ _ _) _ _ _
 unfold getattributeRaised
 repeat (any_goals (first | assumption | wp_step))
 exact h _ _ _ hx'.of
theorem zpe {prog : Program} {w : World} {A : Around} {E : Value → Shared → Prop} {s : Shared} {a : Addr} {o : Obj} {xs : Array Value} {k : Nat} {Q : Option Value → Shared → Prop}
  (hx : s.heap.get? a = some o) (hc : o.cls = .type "list") (hdat : o.data = .seq xs k) (hd : o.dict = none) (hA : A.handled = none)
  (h : ∀ h' tk, (∀ b o, s.heap.get? b = some o → h'.get? b = some o) → Q none { s with heap:=h', toks:=tk }) :
  wpAny (model prog w) A (getAttr? (.ref a) "keys") Q E s:=by
 unfold getAttr? getAttrBy?
 refine wpAny_bind (wpAny_mkText (wpAny_bind (wpAny_attempt (znl (s:={ s with toks:=s.toks + 1 }) hx hc hdat hd hA fun h' tk e x=>?_))))
 obtain ⟨ob, vs, he, hcl, _, _⟩:=x.there
 show wpAny _ _ (do if ← isInstance (.ref e) (.type "AttributeError") then pure none else throw (.ref e)) _ _ _
 refine wpAny_bind (wpAny_isInstance (T:="AttributeError") ⟨ob, he, hcl⟩ sub_AttributeError ?_)
 exact wpAny_pure (h h' tk x.keeps)
theorem zdq : plainId "dict.update.loop" = true:=by decide +kernel
theorem zhw : entryFor table "dict.update.loop" = some Builtin.«dict.update.loop»:=entryFor_of_fast (by kernel_rfl)
end PySem
namespace L2
open PySem PySem.Spec PyProof.Rows
theorem zkt {α β : Type} {F : α → β → Prop} : ∀ {l : List α} {r : List β} {i : Nat} {x : α}, Paired F l r → l[i]? = some x → ∃ y, r[i]? = some y ∧ F x y
 | _, _, _, _, .nil, e=>by simp at e
 | _, _, 0, _, .cons h _, e=>by simp at e; subst e; exact ⟨_, rfl, h⟩
 | _, _, i + 1, x, .cons _ t, e=>by
  obtain ⟨y, h1, h2⟩:=zkt (i:=i) (x:=x) t (by simpa using e)
  exact ⟨y, by simpa using h1, h2⟩
theorem zwa (kvs : List (Key × Value)) (k : Key) (v : Value) : (stored kvs k v).length ≤ kvs.length + 1:=by
 unfold stored
 split
 ·rw [List.length_map]; omega
 ·rw [List.length_append]; simp
noncomputable def _root_.PySem.Heap.IsList0 (h : Heap) (l : Addr) (items : Array Value) : Prop:=∃ o, h.get? l = some o ∧ o.cls = .type "list" ∧ ∃ n, o.data = .seq items n ∧ o.dict = none
noncomputable def zabx (ps : List (Key × Value)) (kvs : List (Key × Value)) : List (Key × Value):=ps.foldl (fun acc p=>stored acc p.1 p.2) kvs
theorem zyn {prog : Program} {w : World} {A : Around} {R : Result → Shared → Prop} {d it l : Addr} {h0 : Heap} {items : List Value} {ps : List (Key × Value)} (hA : A.in1.handled = none)
  (pr : Paired (fun (v : Value) (p : Key × Value)=>∃ t kv, v = .ref t ∧ IsTup h0 t #[kv, p.2] ∧ znh p.1 kv = true) items ps) (hl : h0.IsList l items.toArray) (hd : h0.get? d = none) (hi : h0.get? it = none) (hdi : d ≠ it) (hz : items.length ≤ sizeLine) :
  ∀ (k i : Nat) (s : Shared) (kvs : List (Key × Value)) (tk : Tok), items.length - i = k → i ≤ items.length → s.heap.IsListIter it l i → s.heap.DictOf (zbr prog w) d kvs → (∀ b o, h0.get? b = some o → s.heap.get? b = some o) → kvs.length ≤ i →
  (∀ h' tk', h'.DictOf (zbr prog w) d (zabx (ps.drop i) kvs) → (∀ b o, h0.get? b = some o → h'.get? b = some o) → R (.ok (.ret .none)) { s with heap:=h', toks:=tk' }) →
  codeAny (model prog w) A (.builtin "dict.update.loop" ⟨[.ref d, .ref it, .int i tk, .none], []⟩) R s:=by
 have hlen:=pr.length
 have keepL : ∀ {h : Heap}, (∀ b o, h0.get? b = some o → h.get? b = some o) → h.IsList l items.toArray:=fun {h} kp=>Heap.IsList.at hl fun o e=>kp _ o e
 intro k
 induction k with
 | zero =>
  intro i s kvs tk hk hile hit hdo kp hkl hR
  have hin : i = items.length:=by omega
  subst hin
  refine codeAny_builtin zhw ?_
  rw [Around.under_plainId zdq _]
  show wpAny _ A.in1 (pyNext (.ref it) >>= _) _ _ s
  refine wpAny_bind (wpAny_pyNext_list_end hA hit (keepL kp) (by simp) fun h' eb=>?_)
  show wpAny _ _ (Builtin.Dict.addKeywords d [] >>= _) _ _ _
  refine wpAny_bind (wpAny_pure (wpAny_pure ?_))
  refine hR h' s.toks ?_ fun b o e=>eb b o (fun z=>by rw [z, hi] at e; cases e) (kp b o e)
  rw [List.drop_of_length_le (by omega)]
  exact hdo.extBut eb hdi
 | succ k ih =>
  intro i s kvs tk hk hile hit hdo kp hkl hR
  have hlt : i < items.length:=by omega
  obtain ⟨p, hp, t, kv, ev, ht, hkey⟩ : ∃ p, ps[i]? = some p ∧ ∃ t kv, items[i] = .ref t ∧ IsTup h0 t #[kv, p.2] ∧ znh p.1 kv = true:=by
   have:=pr
   obtain ⟨p, h1, h2⟩:=zkt pr (List.getElem?_eq_getElem hlt)
   exact ⟨p, h1, h2⟩
  refine codeAny_builtin zhw ?_
  rw [Around.under_plainId zdq _]
  show wpAny _ A.in1 (pyNext (.ref it) >>= _) _ _ s
  refine wpAny_bind (wpAny_pyNext_list_item hit (keepL kp) (x:=.ref t) (by rw [← ev]; simp [hlt]) fun h1 hit1 sb1=>?_)
  have kp1 : ∀ b o, h0.get? b = some o → h1.get? b = some o:=fun b o e=>(sb1.2 b (fun z=>by rw [z, hi] at e; cases e)).trans (kp b o e)
  have hd1 : h1.DictOf (zbr prog w) d kvs:=hdo.sameBut sb1 hdi
  obtain ⟨ot, g1, g2, n3, g3⟩:=ht
  refine wpAny_bind (wpAny_holding (wpAny_bind (wpAny_tryCatch ?_)))
  unfold Builtin.Dict.pairItems
  refine wpAny_bind (wpAny_typeOf (T:="tuple") ⟨ot, kp1 _ _ g1, g2⟩ ?_)
  rw [if_pos (by decide)]
  refine wpAny_bind (wpAny_seqItems (kp1 _ _ g1) g3 (wpAny_pure ?_))
  show wpAny _ _ (holding [kv, p.2] (dictSet d kv p.2)) _ _ _
  refine wpAny_holding (wpAny_dictSet_pairs (knd:=zbr prog w) (k:=p.1) hkey hd1 (fun h2 hd2 sb2=>?_) (by omega))
  have hit2 : h2.IsListIter it l (i + 1):=by obtain ⟨o, q1, q2, q3⟩:=hit1; exact ⟨o, (sb2.2 _ (Ne.symm hdi)).trans q1, q2, q3⟩
  refine wpAny_pure ⟨plainId_quiet zdq _, ?_⟩
  have kp2 : ∀ b o, h0.get? b = some o → h2.get? b = some o:=fun b o e=>(sb2.2 b (fun z=>by rw [z, hd] at e; cases e)).trans (kp1 b o e)
  refine ih (i + 1) { s with heap:=h2, toks:=s.toks + 1 } (stored kvs p.1 p.2) _ (by omega) hlt hit2 hd2 kp2 ?_ fun h' tk' hd' kp'=>?_
  ·have:=zwa kvs p.1 p.2; omega
  ·refine hR h' tk' ?_ kp'
   have e : ps.drop i = p :: ps.drop (i + 1):=by
    obtain ⟨hh, e⟩:=List.getElem?_eq_some_iff.mp hp
    rw [← e]; exact List.drop_eq_getElem_cons hh
   rw [e]
   exact hd'
theorem znm {prog : Program} {w : World} {A : Around} {E : Value → Shared → Prop} {s : Shared} {l : Addr} {items : List Value} {ps : List (Key × Value)} {Q : Value → Shared → Prop} (hA : A.handled = none)
  (pr : Paired (fun (v : Value) (p : Key × Value)=>∃ t kv, v = .ref t ∧ IsTup s.heap t #[kv, p.2] ∧ znh p.1 kv = true) items ps) (hl : Heap.IsList0 s.heap l items.toArray) (hz : items.length ≤ sizeLine)
  (h : ∀ h' tk, h'.DictOf (zbr prog w) s.heap.objs.size (zabx ps []) → (∀ b o, s.heap.get? b = some o → h'.get? b = some o) → Q (.ref s.heap.objs.size) { s with heap:=h', toks:=tk }) :
  wpAny (model prog w) A (call (.type "dict") [.ref l]) Q E s:=by
 refine callType_codes (Q₁:=fun obj s₁=>obj = .ref s.heap.objs.size ∧ s₁ = { s with heap:=s.heap.push { cls:=.type "dict", data:=.dict #[] } }) F.kt_called_dict (F.kt_typeCall_dict_1 _) F.entry_dict_init (kt_code_dict_new _ ⟨rfl, rfl⟩) ?_
 rintro obj s₁ ⟨rfl, rfl⟩
 have hnew : (s.heap.push { cls:=.type "dict", data:=.dict #[] }).DictOf (zbr prog w) s.heap.objs.size []:=Heap.DictOf.new s.heap
 obtain ⟨ol, g1, g2, n3, g3, g4⟩:=id hl
 have hl' : (s.heap.push { cls:=.type "dict", data:=.dict #[] }).get? l = some ol:=Heap.get?_push_of_some _ g1
 refine ⟨hnew.typeIs, F.args_dict_init_2 _ _, ?_⟩
 unfold Builtin.«dict.__init__»
 refine wpAny_bind ?_
 unfold Builtin.Dict.selfAndRest
 refine wpAny_bind (wpAny_notOrdered_dict hnew.typeIs ?_)
 show wpAny _ _ (pure (s.heap.objs.size, [Value.ref l])) _ _ _
 refine wpAny_pure ?_
 show wpAny _ _ (Builtin.Dict.updateFrom "dict.__init__" s.heap.objs.size (.ref l) [] .none) _ _ _
 unfold Builtin.Dict.updateFrom
 refine wpAny_bind (wpAny_typeOf (T:="list") ⟨ol, hl', g2⟩ ?_)
 rw [if_pos (by decide)]
 refine wpAny_bind (zpe (s:={ s with heap:=s.heap.push { cls:=.type "dict", data:=.dict #[] } }) hl' g2 g3 g4 hA fun h1 tk1 kp1=>?_)
 rw [if_pos (by rfl)]
 refine wpAny_bind (wpAny_rule ?_)
 have k1 : ∀ b o, s.heap.get? b = some o → h1.get? b = some o:=fun b o e=>kp1 b o (Heap.get?_push_of_some _ e)
 have hd1 : h1.DictOf (zbr prog w) s.heap.objs.size []:=by
  obtain ⟨o, es, ep, q1, q2⟩:=hnew
  exact ⟨o, es, ep, kp1 _ _ q1, q2⟩
 refine wpAny_bind (wpAny_pyIter_list (items:=items.toArray) ⟨ol, k1 _ _ g1, g2, n3, g3⟩ ?_)
 refine wpAny_pure ⟨plainId_quiet zdq _, ?_⟩
 have hsz : s.heap.objs.size < h1.objs.size:=by obtain ⟨o, es, ep, q1, q2⟩:=hd1; exact Heap.lt_size q1
 refine zyn (h0:=s.heap) (by exact hA) pr ⟨ol, g1, g2, n3, g3⟩ (Heap.get?_none_of_le (Nat.le_refl _)) (Heap.get?_none_of_le (Nat.le_of_lt hsz)) (Nat.ne_of_lt hsz) hz items.length 0 _ [] _ rfl (Nat.zero_le _) ⟨_, Heap.get?_push_size _ rfl, rfl, rfl⟩ (hd1.push _) (fun b o e=>Heap.get?_push_of_some _ (k1 b o e)) (Nat.zero_le _) fun h' tk' hd' kp'=>?_
 exact ⟨rfl, h h' tk' hd' kp'⟩
end L2
namespace L2
open PySem PySem.Spec PyProof.Rows
noncomputable def zaib : List V → Hp → VK → Prop:=fun xs H Q=>∃ p rows kvs, xs = [.ref p] ∧ H p = some (.lst rows) ∧ Paired (fun (v : V) (kv : Key × V)=>∃ t, v = .ref t ∧ H t = some (.tup [kV kv.1, kv.2])) rows kvs ∧ ∀ d, H d = none → Q (.ref d) (upd H d (.dK (zfz [] kvs)))
theorem zyo : ∀ {more : List (Key × V)} {ms : List (Key × Value)} {kvs : List (Key × V)} {vs : List (Key × Value)}, KV kvs vs → KV more ms → KV (zfz kvs more) (zabx ms vs)
 | _, _, _, _, h, .nil=>h
 | p :: r, q :: s, kvs, vs, h, .cons e t=>by
  obtain ⟨e1, e2⟩:=e
  show KV (zfz (putK kvs p.1 p.2) r) (zabx s (stored vs q.1 q.2))
  rw [← e1]
  exact zyo (h.put p.1 e2) t
theorem zyp {X : Cx} {pins : List (Addr × Obj)} {σ : St} {H : Hp} {s : Shared} (I : Inv X pins σ H s) : ∀ {rows : List V} {kvs : List (Key × V)} {its : List Value}, Paired (fun (v : V) (kv : Key × V)=>∃ t, v = .ref t ∧ H t = some (.tup [kV kv.1, kv.2])) rows kvs → Vals rows its →
  ∃ ms : List (Key × Value), KV kvs ms ∧ Paired (fun (v : Value) (p : Key × Value)=>∃ t kv, v = .ref t ∧ IsTup s.heap t #[kv, p.2] ∧ znh p.1 kv = true) its ms
 | _, _, _, .nil, .nil=>⟨[], .nil, .nil⟩
 | v :: rows, kv :: kvs, u :: its, .cons h t, .cons r rr=>by
  obtain ⟨ms, h1, h2⟩:=zyp I t rr
  obtain ⟨a, rfl, ha⟩:=h
  cases (show u = Value.ref a from r)
  obtain ⟨_, its', rv, ht⟩:=(show zdn X.prog X.w H s.heap a (.tup [kV kv.1, kv.2]) from I.hok a _ ha)
  obtain ⟨k', v', rfl, rk, rv'⟩:=zaeg rv
  exact ⟨(kv.1, v') :: ms, .cons ⟨rfl, rv'⟩ h1, .cons ⟨a, k', rfl, ht, zsx (P:=X.prog) (w:=X.w) rk⟩ h2⟩
theorem zwb {X : Cx} (hc : X.calm = true) : CallR X (.type "dict") zaib:=by
 intro pins s σ H xs us Q I r h
 obtain ⟨p, rows, kvs, rfl, hp, pr, q⟩:=h
 obtain ⟨u, rfl, ru⟩:=zsu r
 cases ru
 obtain ⟨hz, its, n, rv, hg⟩:=(show zdn X.prog X.w H s.heap p (.lst rows) from I.hok p _ hp)
 obtain ⟨ms, h1, h2⟩:=zyp I pr rv
 refine znm (I.ok.hd hc) h2 ⟨_, hg, rfl, n, rfl, rfl⟩ (by rw [← rv.length]; exact hz) fun h' tk hd kp=>?_
 refine ⟨.ref s.heap.objs.size, _, I.laid (t':=tk) kp (Nat.le_refl _) ?_, rfl, q _ (I.hok.fresh (Nat.le_refl _))⟩
 refine zuq ?_ ?_ (zyo .nil h1) hd
 ·refine Nat.le_trans (zez kvs []) ?_
  rw [List.length_nil, Nat.zero_add, ← pr.length]; exact hz
 ·have:=I.big
  exact beq_eq_false_iff_ne.mpr (Nat.ne_of_gt this)
noncomputable def znz : List PyData → Option (List (PyData × PyData))
 | []=>some []
 | .tuple [k, v] :: r=>(keyD k).bind fun _=>(znz r).map fun ps=>(k, v) :: ps
 | _=>none
noncomputable def ztl : GF
 | [.list rows]=>(znz rows).map fun ps=>(.dict (zgc [] ps), true)
 | _=>none
theorem zqv {A : Addr → Prop} {H : Hp} : ∀ {rows : List PyData} {vs : List V} {ps : List (PyData × PyData)}, Rps (Offs A H) rows vs → znz rows = some ps →
  ∃ kvs : List (Key × V), Rpd (Offs A H) ps kvs ∧ Paired (fun (v : V) (kv : Key × V)=>∃ t, v = .ref t ∧ H t = some (.tup [kV kv.1, kv.2])) vs kvs
 | [], vs, ps, h, e=>by unfold Rps at h; cases e; subst h; exact ⟨[], zho, .nil⟩
 | d :: rows, vs, ps, h, e=>by
  unfold Rps at h
  obtain ⟨v, ws, rfl, h1, h2⟩:=h
  unfold znz at e
  split at e
  ·rename_i heq; cases heq
  ·rename_i k d' r heq
   cases heq
   obtain ⟨kk, ek, e⟩:=Option.bind_eq_some_iff.mp e
   obtain ⟨ps', ep, rfl⟩:=Option.map_eq_some_iff.mp e
   obtain ⟨kvs, g1, g2⟩:=zqv h2 ep
   obtain ⟨a, xs, rfl, ha, r⟩:=zci h1
   obtain ⟨x, y, rfl, r1, r2⟩:=rps2 r
   rw [ztf r1 ek] at ha
   exact ⟨(kk, y) :: kvs, zgv ek r2 g1, .cons ⟨a, rfl, zce ha⟩ g2⟩
  ·cases e
theorem zafl : SC zaib ztl:=by
 intro A H vs ds hA rv d fr e Q q
 unfold ztl at e
 split at e
 ·obtain ⟨ps, he, e⟩:=Option.map_eq_some_iff.mp e
  cases e
  obtain ⟨v, rfl, r1⟩:=rps1 rv
  obtain ⟨p, xs, rfl, h1, r⟩:=zcv r1
  obtain ⟨kvs, g1, g2⟩:=zqv r he
  refine ⟨p, xs, kvs, rfl, zce h1, g2, fun d hd=>?_⟩
  have m : ∀ {B : Addr → Prop}, (∀ b, B b → A b ∨ b = d) → Rpd (Offs B (upd H d (.dK (zfz [] kvs)))) (zgc [] ps) (zfz [] kvs):=fun {B} hB=>Rpd.merge zho (Rpd.same (Offs.mono (Same.new hd) fun b o eo n z=>(hB b z).elim n fun y=>by rw [y, hd] at eo; cases eo) _ g1)
  exact q _ _ (Same.new hd) (zgh (by rw [Offs.get (zdy hA hd)]; exact zav) (m fun b z=>.inl z)) fun _=>⟨d, rfl, hd, ⟨_, zav, m fun b z=>z⟩⟩
 ·cases e
noncomputable def zfr (i j : Nat) (f : EF) : SF:=fun env=>match env[i]?, env[j]? with
 | some (.ac (.list ds)), some (.ac (.list es))=>(f env).bind fun r=>match r.d with
  | .int k=>if 0 ≤ k ∧ k < 100000 ∧ ds.length < 100000 ∧ i ≠ j then (es[k.toNat]?).bind fun d=>some (.nx ((env.set j (.ac (.list (es.eraseIdx k.toNat)))).set i (.ac (.list (ds ++ [d]))))) else none
  | _=>none
 | _, _=>none
theorem Rps.erase {H : Hp} {ds : List PyData} {vs : List V} (h : Rps H ds vs) (n : Nat) : Rps H (ds.eraseIdx n) (vs.eraseIdx n):=by
 induction n generalizing ds vs with
 | zero =>
  cases ds with
  | nil=>unfold Rps at h; subst h; exact zdf
  | cons d ds=>unfold Rps at h; obtain ⟨v, ws, rfl, h1, h2⟩:=h; exact h2
 | succ n ih =>
  cases ds with
  | nil=>unfold Rps at h; subst h; exact zdf
  | cons d ds=>unfold Rps at h; obtain ⟨v, ws, rfl, h1, h2⟩:=h; exact zde h1 (ih h2)
theorem zqw {K : PySem.W.Frag} {i j : Nat} {te : TE} {f : EF} (h1 : SE te f) : SS (tDrop (tBM K "list" zlh (tVar i) (tCons (tBM K "list" zade (tVar j) (tCons te tNil)) tNil))) (zfr i j f):=by
 intro fx H0 env σ H D h o e q
 unfold zfr at e
 split at e
 ·rename_i ds es ei ej
  obtain ⟨⟨rd, rfr, rbs⟩, er, e⟩:=Option.bind_eq_some_iff.mp e
  cases rd with
  | int k =>
   have e : (if 0 ≤ k ∧ k < 100000 ∧ ds.length < 100000 ∧ i ≠ j then (es[k.toNat]?).bind fun d=>some (Out.nx ((env.set j (.ac (.list (es.eraseIdx k.toNat)))).set i (.ac (.list (ds ++ [d]))))) else none) = some o:=e
   split at e
   ·rename_i hl
    obtain ⟨d, ed, e⟩:=Option.bind_eq_some_iff.mp e
    cases e
    obtain ⟨a, g1, g2, g3, g4⟩:=h.ac i _ ei
    obtain ⟨xs, hx, rx⟩:=g4
    obtain ⟨b, k1, k2, k3, k4⟩:=h.ac j _ ej
    obtain ⟨ys, hy, ry⟩:=k4
    have hab : a ≠ b:=fun z=>hl.2.2.2 (h.inj i j _ _ a ei ej g1 (by rw [z]; exact k1))
    refine ⟨_, g1, .inl ⟨rfl, _, SqL.of hx⟩, _, k1, .inl ⟨rfl, _, SqL.of hy⟩, h1 fx H0 env σ H h _ er _ fun v H' s hv=>?_⟩
    cases zdo hv.rp
    have h':=h.up s
    have hy':=s _ _ hy
    have hx':=s _ _ hx
    have ry' : Rps (Offs (fun b=>fx b ∨ own env σ b) H') es ys:=Rps.same (Offs.grow s) _ ry
    have rx' : Rps (Offs (fun b=>fx b ∨ own env σ b) H') ds xs:=Rps.same (Offs.grow s) _ rx
    obtain ⟨u, hu, ru⟩:=ry'.get2 ed
    have hlt : k.toNat < ys.length:=(List.getElem?_eq_some_iff.mp hu).1
    have hsq : seqIndex? k ys.length = some k.toNat:=seqIndex_of hl.1 (by omega)
    refine ⟨b, ys, k, k.toNat, u, rfl, rfl, hy', by omega, by omega, hsq, hu, ?_⟩
    have h2:=h'.mut ej k1 (d':=.list (es.eraseIdx k.toNat)) (o:=.lst (ys.eraseIdx k.toNat)) ⟨_, zav, ry'.erase _⟩
    have ei2 : (env.set j (.ac (.list (es.eraseIdx k.toNat))))[i]? = some (.ac (.list ds)):=by rw [List.getElem?_set_ne (Ne.symm hl.2.2.2)]; exact ei
    have hx2 : (upd H' b (.lst (ys.eraseIdx k.toNat))) a = some (.lst xs):=by rw [zbf hab]; exact hx'
    obtain ⟨a', z1, _, _, z4⟩:=h2.ac i _ ei2
    rw [g1] at z1
    cases z1
    obtain ⟨zs, y1, y2⟩:=z4
    rw [hx2] at y1
    cases y1
    have ow : Same (Offs (fun b=>fx b ∨ own env σ b) H') (Offs (fun c=>fx c ∨ own (env.set j (.ac (.list (es.eraseIdx k.toNat)))) σ c) (upd H' b (.lst (ys.eraseIdx k.toNat)))):=by
     have t : Same (Offs (fun b=>fx b ∨ own env σ b) (upd H' b (.lst (ys.eraseIdx k.toNat)))) (Offs (fun c=>fx c ∨ own (env.set j (.ac (.list (es.eraseIdx k.toNat)))) σ c) (upd H' b (.lst (ys.eraseIdx k.toNat)))):=Offs.sub fun c z=>z.imp (fun y=>y) fun ⟨m, d1, w1, w2⟩=>by
      rcases zbj w1 with ⟨rfl, _⟩ | ⟨_, w1⟩
      ·exact ⟨m, _, ej, w2⟩
      ·exact ⟨m, d1, w1, w2⟩
     rw [Offs.upd (.inr ⟨j, _, ej, k1⟩)] at t
     exact t
    refine ⟨a, xs, u, rfl, rfl, hx2, zkd (by rw [← rx.length]; exact hl.2.2.1), ?_⟩
    exact q σ _ (h2.mut ei2 g1 ⟨_, zav, y2.append (zde (Rp.same ow _ ru) zdf)⟩)
   ·cases e
  | _=>cases e
 ·cases e
end L2
namespace L2
open PySem PySem.Spec PyProof.Rows
noncomputable def zan (i : Nat) (b : EF) : EF:=fun env=>match env[i]? with
 | some (.pl (.dict kvs))=>(b env).bind fun y=>(keyD y.d).bind fun k=>(ziv kvs k).bind fun d=>some ⟨d, false, []⟩
 | some (.ac (.dict kvs))=>(b env).bind fun y=>(keyD y.d).bind fun k=>(ziv kvs k).bind fun d=>some ⟨d, false, []⟩
 | _=>none
theorem zbt {i : Nat} {ty : TE} {fb : EF} (hb : SE ty fb) : SE (tDGet (tVar i) ty) (zan i fb):=by
 intro fx H0 env σ H h rr hr Q q
 unfold zan at hr
 have key : ∀ (a : Addr) (ps : List (Key × V)) (kvs : List (PyData × PyData)), σ[i]? = some (some (.ref a)) → H a = some (.dK ps) → Rpd (Offs (fun b=>fx b ∨ own env σ b) H) kvs ps → ((fb env).bind fun y=>(keyD y.d).bind fun k=>(ziv kvs k).bind fun d=>some (⟨d, false, []⟩ : Val)) = some rr → tDGet (tVar i) ty σ H Q:=by
  intro a ps kvs hs ha r hr
  obtain ⟨y, ey, hr⟩:=Option.bind_eq_some_iff.mp hr
  obtain ⟨k, ek, hr⟩:=Option.bind_eq_some_iff.mp hr
  obtain ⟨d, ed, hr⟩:=Option.bind_eq_some_iff.mp hr
  cases hr
  refine ⟨_, hs, hb fx H0 env σ H h _ ey _ fun u H2 s2 v2=>?_⟩
  have g:=(Rpd.same (Offs.grow s2) _ r).get (j:=k)
  rw [ed] at g
  obtain ⟨w, e1, e2⟩:=g
  rw [ztf v2.rp ek]
  have dg:=DGet.k (k:=k) (s2 _ _ ha)
  rw [e1] at dg
  exact ⟨a, w, rfl, dg, q w H2 s2 ⟨Rp.same (Offs.sub zll) _ e2, fun z=>by cases z⟩⟩
 split at hr
 ·rename_i kvs ei
  obtain ⟨v, h1, h2⟩:=h.pl i _ ei
  obtain ⟨a, ps, rfl, ha, r⟩:=zhn h2
  exact key a ps kvs h1 (zce ha) r hr
 ·rename_i kvs ei
  obtain ⟨a, h1, h2, h3, ps, ha, r⟩:=h.ac i _ ei
  exact key a ps kvs h1 ha r hr
 ·cases hr
noncomputable def eIxV (i : Nat) (b : EF) : EF:=fun env=>match env[i]? with
 | some (.ac (.list ds))=>(b env).bind fun y=>match y.d with
  | .int k=>(atI ds k).map fun d=>⟨d, false, []⟩
  | _=>none
 | _=>eOp ixD (eVar i) b env
theorem zfs {K : PySem.W.Frag} {i : Nat} {tb : TE} {fb : EF} (hb : SE tb fb) : SE (tOp (rIxU K) (tVar i) tb) (eIxV i fb):=by
 intro fx H0 env σ H h rr hr Q q
 unfold eIxV at hr
 split at hr
 ·rename_i ds ei
  obtain ⟨⟨dy, fy, bys⟩, ey, hr⟩:=Option.bind_eq_some_iff.mp hr
  cases dy with
  | int k =>
   obtain ⟨d, ed, rfl⟩:=Option.map_eq_some_iff.mp hr
   obtain ⟨a, h1, h2, h3, xs, ha, r⟩:=h.ac i _ ei
   refine ⟨_, h1, hb fx H0 env σ H h _ ey _ fun u H2 s2 v2=>?_⟩
   cases zdo v2.rp
   obtain ⟨v, hv, rv⟩:=(Rps.same (Offs.grow s2) _ r).atI ed
   exact ⟨xs, v, .inl (SqL.of (s2 _ _ ha)), hv, q _ H2 s2 ⟨Rp.same (Offs.sub zll) _ rv, fun z=>by cases z⟩⟩
  | _=>cases hr
 ·exact zba zaff (zac i) hb fx H0 env σ H h rr hr Q q
end L2
namespace Bc
open PySem L2
noncomputable def zgk : SF:=(sRet (zcw ["name", "elders"] [] (zaq (eVar 0)) (gT 2 (zcf 0 (zcf 1 zjr))) zhk (eVar 0)))
noncomputable def zcs : GF:=fnD 1 zgk
noncomputable def zdr : SF:=(sSeq (sSet 2 (zaw 1 zcs (zad (eVar 0) aNil)))
  (sFor (zaq (eVar 1)) (gN 3)
  (sIf (zar (eOp (inD true) (eVar 3) (eVar 2))) zyh sNil)))
noncomputable def zbb : GF:=fnD 4 zdr
noncomputable def zoa : SF:=(sSeq (sSet 1 zabo)
  (sSeq (sFor (zaq (eVar 0)) (gT 2 (zcf 2 (zcf 3 zjr)))
  (sSeq (sSet 4 (eD1 (eVar 2) (eC (.bool true))))
  (sSeq (sFor (zaq (eVar 3)) (gN 5)
  (sUpd 4 (zan 1 (eVar 5))))
  (sPut 1 (eVar 2) (eVar 4)))))
  (znk 1)))
noncomputable def zbw : GF:=fnD 6 zoa
noncomputable def zadl : SF:=(sSeq (zjq (zaw 2 zbb (zad (eVar 0) (zad (eLst (zad (eVar 1) (zad (eVar 2) aNil))) aNil))))
  (sSeq (sSet 3 (zaw 1 zbw (zad (eVar 0) aNil)))
  (sSeq (sIf (zar (eDIn true (eVar 2) (zan 3 (eVar 1)))) (sRet (eC .none)) sNil)
  (sSeq (sSet 4 (eCB ztl (zad (eVar 0) aNil)))
  (sSeq (sSet 5 (eLst (zad (eVar 1) aNil)))
  (sSeq (zhu (zar (eOp neD (eIxV 5 (eNeg (eC (.int 1)))) (eVar 2))) (sSeq (sSet 6 (zcw ["elder"] [2, 3] (zaq (zan 4 (eIxV 5 (eNeg (eC (.int 1)))))) (gN 0) (zar (eDIn false (eVar 1) (zan 2 (eVar 0)))) (eVar 0)))
  (sApp 5 (eIxV 6 (eC (.int 0))))) 1000)
  (znk 5)))))))
noncomputable def zku : GF:=fnD 7 zadl
noncomputable def zlu : SF:=(sSeq (sSet 2 (eC (.str "abcdefghijklmnopqrstuvwxyz")))
  (sSeq (sSet 3 (eOp ixD (eTup (zad (eC (.int 1)) (zad (eC (.int 3)) (zad (eC (.int 5)) (zad (eC (.int 7)) (zad (eC (.int 9)) (zad (eC (.int 11)) (zad (eC (.int 15)) (zad (eC (.int 17)) aNil))))))))) (eOp modD (eOp zfc (eVar 1) (eC (.int 3))) (eC (.int 8)))))
  (sSeq (sSet 4 (eOp modD (eOp zfc (eVar 1) (eC (.int 24))) (eC (.int 26))))
  (sSeq (sSet 5 (eOp mulD (eIxV 2 (eOp modD (eOp zfc (eVar 1) (eC (.int 624))) (eC (.int 26)))) (eOp modD (eOp zfc (eVar 1) (eC (.int 16224))) (eC (.int 8)))))
  (sSeq (sSet 6 (eOp modD (eOp zfc (eVar 1) (eC (.int 129792))) (eOp addD (eCB lenD (zad (eVar 5) aNil)) (eC (.int 1)))))
  (sSeq (sSet 7 (eLst aNil))
  (sSeq (sFor (zfo (zad (eVar 0) aNil)) (gN 8)
  (sSeq (sSet 9 (eIxV 2 (eOp modD (eOp addD (eVar 4) (eOp mulD (eVar 3) (eVar 8))) (eC (.int 26)))))
  (sIf (zar (eOp eqD (eOp modD (eVar 1) (eC (.int 3))) (eC (.int 0)))) (sApp 7 (eOp addD (eOp addD (eSl (eVar 5) ziw (zet (eVar 6))) (eVar 9)) (eSl (eVar 5) (zet (eVar 6)) ziw))) (sIf (zar (eOp eqD (eOp modD (eVar 1) (eC (.int 3))) (eC (.int 1)))) (sApp 7 (eOp addD (eSl (eVar 5) ziw (zet (eOp modD (eOp mulD (eVar 8) (eVar 3)) (eOp addD (eCB lenD (zad (eVar 5) aNil)) (eC (.int 1)))))) (eVar 9))) (sApp 7 (eOp mulD (eIxV 2 (eOp modD (eOp addD (eVar 4) (eOp zfc (eVar 8) (eC (.int 8)))) (eC (.int 26)))) (eOp addD (eC (.int 1)) (eOp modD (eOp mulD (eVar 8) (eVar 3)) (eC (.int 8))))))))))
  (znk 7))))))))
noncomputable def zdz : GF:=fnD 10 zlu
noncomputable def zqx : SF:=(sSeq (sSet 2 (eLst aNil))
  (sSeq (sFor (zuz (zad (eVar 1) aNil)) (gT 2 (zcf 3 (zcf 4 zjr)))
  (sSeq (sSet 5 (eSl (eVar 1) ziw (zet (eVar 3))))
  (sSeq (sSet 6 (eOp zfc (eIxV 0 (eVar 3)) (eC (.int 5))))
  (sSeq (sSet 7 (eLst aNil))
  (sSeq (sFor (zfo (zad (eCB minD (zad (eOp modD (eIxV 0 (eVar 3)) (eC (.int 5))) (zad (eVar 3) aNil))) aNil)) (gN 8)
  (sSeq (sSet 9 (eOp modD (eVar 6) (eCB lenD (zad (eVar 5) aNil))))
  (sSeq (sSet 6 (eOp zfc (eVar 6) (eCB lenD (zad (eVar 5) aNil))))
  (zfr 7 5 (eVar 9)))))
  (sApp 2 (eTup (zad (eVar 4) (zad (eVar 7) aNil)))))))))
  (znk 2)))
noncomputable def zhx : GF:=fnD 10 zqx
end Bc
namespace Bc
open PySem L2
theorem zbx {α : Type} {enc out : α → PyData} {g : GT} {t : TF} {e : EF} {env : DEnv} (p : α → Bool) : ∀ {l : List α}, (∀ x ∈ l, ∃ e1, g (enc x) env = some e1 ∧ t e1 = some (p x) ∧ (p x = true → ∃ r, e e1 = some r ∧ r.d = out x)) →
  zfd g t e env (l.map enc) = some ((l.filter p).map out)
 | [], _=>rfl
 | x :: l, h=>by
  obtain ⟨e1, h1, h2, h3⟩:=h x List.mem_cons_self
  have ih:=zbx (l:=l) p fun y hy=>h y (List.mem_cons_of_mem _ hy)
  rw [List.map_cons]
  unfold zfd
  rw [h1, Option.bind_some, h2, Option.bind_some]
  cases hp : p x with
  | false =>
   rw [if_neg Bool.false_ne_true, ih, List.filter_cons, hp]; rfl
  | true =>
   obtain ⟨r, h4, h5⟩:=h3 hp
   rw [if_pos rfl, h4, Option.bind_some, ih, List.filter_cons, hp]
   simp [h5]
theorem zhy {α : Type} {enc out : α → PyData} {g : GT} {t : TF} {e : EF} {env : DEnv} {l : List α} (h : ∀ x ∈ l, ∃ e1, g (enc x) env = some e1 ∧ t e1 = some true ∧ ∃ r, e e1 = some r ∧ r.d = out x) : zfd g t e env (l.map enc) = some (l.map out):=by
 have q:=zbx (enc:=enc) (out:=out) (g:=g) (t:=t) (e:=e) (env:=env) (fun _=>true) (l:=l) fun x hx=>let ⟨e1, h1, h2, h3⟩:=h x hx; ⟨e1, h1, h2, fun _=>h3⟩
 rw [q]
 congr 2
 exact List.filter_eq_self.mpr fun _ _=>rfl
theorem zvb {α : Type} {enc : α → PyData} {g : GT} {body : SF} (I : List α → DEnv → Prop) (all : List α) : ∀ (l pre : List α) (env : DEnv), pre ++ l = all → I pre env →
  (∀ pre x post env, pre ++ x :: post = all → I pre env → ∃ e1 e2, g (enc x) env = some e1 ∧ (body e1 = some (.nx e2) ∨ body e1 = some (.ct e2)) ∧ I (pre ++ [x]) e2) → ∃ env', forL g body (l.map enc) env = some (.nx env') ∧ I all env'
 | [], pre, env, hall, h0, hs=>by
  rw [List.append_nil] at hall
  subst hall
  exact ⟨env, rfl, h0⟩
 | x :: l, pre, env, hall, h0, hs=>by
  obtain ⟨e1, e2, h1, h2, h3⟩:=hs pre x l env hall h0
  obtain ⟨env', h4, h5⟩:=zvb I all l (pre ++ [x]) e2 (by rw [← hall]; simp) h3 hs
  refine ⟨env', ?_, h5⟩
  rw [List.map_cons]
  unfold forL
  rw [h1, Option.bind_some]
  rcases h2 with h2 | h2 <;> rw [h2, Option.bind_some] <;> exact h4
theorem zcq {α : Type} {enc : α → PyData} {g : GT} {body : SF} {l : List α} {env : DEnv} (I : List α → DEnv → Prop) (h0 : I [] env) (hs : ∀ pre x post env, pre ++ x :: post = l → I pre env → ∃ e1 e2, g (enc x) env = some e1 ∧ (body e1 = some (.nx e2) ∨ body e1 = some (.ct e2)) ∧ I (pre ++ [x]) e2) :
  ∃ env', forL g body (l.map enc) env = some (.nx env') ∧ I l env':=zvb I l l [] env rfl h0 hs
theorem zafm {t : TS} {F : SF} (hs : SS t F) {env : DEnv} {σ : St} {H1 : Hp} {Q : VK} {nx : St → Hp → Prop} (hE : EnvOk (fun _=>False) H1 env σ H1) (e : F env = some (.rt (.bool true) false)) (k : ∀ H', Q (.bl true) H') : t { nx:=nx, rt:=Q } σ H1:=by
 refine hs _ H1 env σ H1 _ hE _ e fun v H s rt=>?_
 rw [show v = .bl true from zlk rt.1]
 exact k H
noncomputable def zbv (cs : List Int) : PyData:=.list (cs.map .int)
theorem zvc {H : Hp} : ∀ (cs : List Int), Rps H (cs.map .int) (cs.map .int)
 | []=>zdf
 | c :: cs=>zde zah (zvc cs)
noncomputable def envL (n : Nat) (cs : List Int) : DEnv:=.no :: .pl (zbv cs) :: List.replicate n .no
theorem zafn {H1 : Hp} {a pc : Addr} {cs : List Int} {n : Nat} (e : H1 pc = some (.lst (cs.map .int))) : EnvOk (fun _=>False) H1 (envL n cs) (some (.ref a) :: some (.ref pc) :: List.replicate n none) H1:=by
 have no : ∀ (i : Nat) (d : PyData), (envL n cs)[i]? ≠ some (Sl.ac d):=fun i d=>by
  unfold envL
  cases i with
  | zero=>simp
  | succ i=>cases i with
   | zero=>simp
   | succ i=>simp [List.getElem?_replicate]
 refine ⟨by unfold envL; simp, fun i d h=>?_, fun i d h=>absurd h (no i d), fun i j d e a h=>absurd h (no i d), Same.refl _, fun b z=>z.elim⟩
 unfold envL at h
 cases i with
 | zero=>simp at h
 | succ i=>cases i with
  | zero =>
   simp at h
   subst h
   refine ⟨.ref pc, rfl, zdx ?_ (zvc cs)⟩
   rw [Offs.get]
   ·exact e
   ·rintro (z | ⟨j, d', z, _⟩)
    ·exact z
    ·exact no j d' z
  | succ i=>simp [List.getElem?_replicate] at h
theorem zak {f g : SF} {env e1 : DEnv} {o : Option Out} (h : f env = some (.nx e1)) (k : g e1 = o) : sSeq f g env = o:=by unfold sSeq; rw [h]; exact k
theorem zadm {f g : SF} {env : DEnv} {d : PyData} {fr : Bool} (h : f env = some (.rt d fr)) : sSeq f g env = some (.rt d fr):=by unfold sSeq; rw [h]; rfl
theorem for_list {f : EF} {g : GT} {b : SF} {env : DEnv} {ds : List PyData} {fr : Bool} {bs : List Nat} {o : Option Out} (h : f env = some ⟨.list ds, fr, bs⟩) (k : forL g b ds (frzs env bs) = o) : sFor (zaq f) g b env = o:=by
 unfold sFor zaq; rw [h]; exact k
theorem ziz {f : IF'} {g : GT} {b : SF} {env : DEnv} {ds : List PyData} {bs : List Nat} {o : Option Out} (h : f env = some (ds, bs)) (k : forL g b ds (frzs env bs) = o) : sFor f g b env = o:=by
 unfold sFor; rw [h]; exact k
theorem if_t {c : TF} {f g : SF} {env : DEnv} {o : Option Out} (h : c env = some true) (k : f env = o) : sIf c f g env = o:=by unfold sIf; rw [h]; exact k
theorem if_f {c : TF} {f g : SF} {env : DEnv} {o : Option Out} (h : c env = some false) (k : g env = o) : sIf c f g env = o:=by unfold sIf; rw [h]; exact k
theorem zbq {i : Nat} {f : EF} {env : DEnv} {r : Val} (h : f env = some r) : sSet i f env = some (.nx (putV env i r)):=by unfold sSet; rw [h]; rfl
theorem zlv {f : EF} {env : DEnv} {r : Val} (h : f env = some r) : zjq f env = some (.nx env):=by unfold zjq; rw [h]; rfl
theorem zlw {f : EF} {env : DEnv} {d : PyData} {fr : Bool} {bs : List Nat} (h : f env = some ⟨d, fr, bs⟩) : sRet f env = some (.rt d fr):=by unfold sRet; rw [h]; rfl
theorem zay {n : Nat} {g : GF} {f : AF} {env : DEnv} {rs : List Val} {d : PyData} {fr : Bool} (h : f env = some rs) (hn : rs.length = n) (k : g (zje rs) = some (d, fr)) : zaw n g f env = some ⟨d, fr, bsOf d (bss rs)⟩:=by
 unfold zaw; rw [h, Option.bind_some, if_pos hn, k]; rfl
theorem zft {own : List Str} {fr : List Nat} {fi : IF'} {g : GT} {t : TF} {e : EF} {env : DEnv} {ds : List PyData} {bs : List Nat} {rs : List PyData} (h : fi env = some (ds, bs)) (hl : ds.length < 100000) (k : zfd g t e (envB own fr env) ds = some rs) :
  zcw own fr fi g t e env = some ⟨.list rs, true, if zdw rs = true then [] else bs ++ capA fr env⟩:=by
 unfold zcw; rw [h, Option.bind_some, if_pos hl, k]; rfl
theorem zgz {n : Nat} {f : SF} {ds : List PyData} {env : DEnv} {d : PyData} {fr : Bool} (h : zlt n ds = env) (e : f env = some (.rt d fr)) : fnD n f ds = some (d, fr):=by
 unfold fnD; rw [h, e]
theorem zyq (n : Bool) : neD (.bool n) (.bool n) = some (.bool false, false):=by cases n <;> rfl
end Bc
namespace Bc
open PySem L2
noncomputable def zaa (xs : List Str) : PyData:=.list (xs.map .str)
noncomputable def rowD (p : Str × List Str) : PyData:=.tuple [.str p.1, zaa p.2]
noncomputable def webD (W : Web) : PyData:=.list (W.map rowD)
theorem zim (xs : List Str) : zdw (xs.map .str) = true:=by
 unfold zdw
 rw [List.all_map]
 exact List.all_eq_true.mpr fun _ _=>rfl
theorem zaby (xs : List Str) (x : Str) : ((xs.map PyData.str).any fun e=>PyData.eqv e (.str x)) = decide (x ∈ xs):=by
 rw [List.any_map, Bool.eq_iff_iff, List.any_eq_true, decide_eq_true_iff]
 constructor
 ·rintro ⟨y, hy, h⟩
  have : y = x:=by simpa [PyData.eqv] using h
  rw [← this]; exact hy
 ·exact fun h=>⟨x, h, by simp [PyData.eqv]⟩
theorem zyr (b : Bool) (xs : List Str) (x : Str) : inD b (.str x) (zaa xs) = some (.bool (if b then !decide (x ∈ xs) else decide (x ∈ xs)), false):=by
 unfold inD zaa
 simp only [ziy]
 rw [if_pos ⟨rfl, zim xs⟩, zaby]
theorem zin {W : Web} (hl : W.length < 100000) : zcs [webD W] = some (zaa (nm W), true):=by
 have c : zfd (gT 2 (zcf 0 (zcf 1 zjr))) zhk (eVar 0) [.no, .no] (W.map rowD) = some (W.map fun p=>PyData.str p.1):=zhy fun p _=>⟨[.pl (.str p.1), .pl (zaa p.2)], rfl, rfl, ⟨.str p.1, false, []⟩, rfl, rfl⟩
 have e : zgk [.pl (webD W)] = some (.rt (zaa (nm W)) true):=by
  unfold zgk sRet zcw zaq
  simp only [eVar, List.getElem?_cons_zero, Option.bind_some, webD, ziy, Option.map_some, List.length_map]
  rw [if_pos hl]
  show Option.map _ (Option.map _ (zfd _ _ _ [.no, .no] _)) = _
  rw [c]
  unfold zaa nm
  simp
 show (match zgk [.pl (webD W)] with | some (.rt d fr)=>some (d, fr) | some (.nx _)=>some (.none, false) | _=>none) = _
 rw [e]
theorem zds {W : Web} (hl : W.length < 100000) {ns : List Str} (h : ∀ n ∈ ns, n ∈ nm W) : zbb [webD W, zaa ns] = some (.none, false):=by
 have l : ∃ env', forL (gN 3) (sIf (zar (eOp (inD true) (eVar 3) (eVar 2))) zyh sNil) (ns.map .str) [.pl (webD W), .pl (zaa ns), .ac (zaa (nm W)), .no] = some (.nx env') ∧ True:=by
  refine zcq (fun _ env=>∃ s, env = [.pl (webD W), .pl (zaa ns), .ac (zaa (nm W)), s]) ⟨_, rfl⟩ ?_ |>.imp fun _ q=>⟨q.1, trivial⟩
  rintro pre x post env hx ⟨s, rfl⟩
  have hm:=h x (by rw [← hx]; simp)
  refine ⟨_, [.pl (webD W), .pl (zaa ns), .ac (zaa (nm W)), .pl (.str x)], rfl, .inl ?_, _, rfl⟩
  simp [sIf, zar, eOp, eVar, sNil, zyr, hm, bsOf, zdv]
 obtain ⟨env', l, _⟩:=l
 have e : zdr [.pl (webD W), .pl (zaa ns), .no, .no] = some (.nx env'):=by
  unfold zdr sSeq sSet zaw sFor zaq
  simp only [zad, aNil, eVar, List.getElem?_cons_zero, List.getElem?_cons_succ, Option.bind_some, Option.map_some, zje, List.map_cons, List.map_nil, List.length_cons, List.length_nil, zin hl, if_true]
  simp [putV, frzs, bsOf, zaa, zdv, bss, slOf, ziy]
  exact l
 show (match zdr [.pl (webD W), .pl (zaa ns), .no, .no] with | some (.rt d fr)=>some (d, fr) | some (.nx _)=>some (.none, false) | _=>none) = _
 rw [e]
end Bc
namespace Bc
open PySem L2
noncomputable def insS (ks : List Str) (k : Str) : List Str:=if k ∈ ks then ks else ks ++ [k]
noncomputable def upL (acc : List (Str × List Str)) (e : Str) : List Str:=(acc.lookup e).getD []
noncomputable def zhz (acc : List (Str × List Str)) (p : Str × List Str) : List (Str × List Str):=acc ++ [(p.1, p.2.foldl (fun ks e=>(upL acc e).foldl insS ks) [p.1])]
noncomputable def ups (W : Web) : List (Str × List Str):=W.foldl zhz []
noncomputable def up (W : Web) (n : Str) : List Str:=upL (ups W) n
theorem zio (W : Web) (p : Str × List Str) : ups (W ++ [p]) = zhz (ups W) p:=by unfold ups; rw [List.foldl_append]; rfl
theorem zabz {ks : List Str} {k x : Str} : x ∈ insS ks k ↔ x ∈ ks ∨ x = k:=by
 unfold insS
 split
 ·rename_i h
  exact ⟨.inl, fun z=>z.elim id fun e=>e ▸ h⟩
 ·simp
theorem zia {x : Str} : ∀ {ms ks : List Str}, x ∈ ms.foldl insS ks ↔ x ∈ ks ∨ x ∈ ms
 | [], ks=>by simp
 | m :: ms, ks=>by
  rw [List.foldl_cons, zia, zabz]
  simp [or_assoc]
theorem zafo {ks : List Str} {k : Str} (h : ks.Nodup) : (insS ks k).Nodup:=by
 unfold insS
 split
 ·exact h
 ·rename_i hk; exact zsz h hk
theorem zpf : ∀ {ms ks : List Str}, ks.Nodup → (ms.foldl insS ks).Nodup
 | [], _, h=>h
 | _ :: ms, _, h=>zpf (ms:=ms) (zafo h)
theorem zlx {acc : List (Str × List Str)} {x : Str} : ∀ {es ks : List Str}, x ∈ es.foldl (fun ks e=>(upL acc e).foldl insS ks) ks ↔ x ∈ ks ∨ ∃ e ∈ es, x ∈ upL acc e
 | [], ks=>by simp
 | e :: es, ks=>by
  rw [List.foldl_cons, zlx, zia]
  simp [or_assoc]
theorem zys {acc : List (Str × List Str)} : ∀ {es ks : List Str}, ks.Nodup → (es.foldl (fun ks e=>(upL acc e).foldl insS ks) ks).Nodup
 | [], _, h=>h
 | _ :: es, _, h=>zys (es:=es) (zpf h)
theorem zfe {l : List (Str × List Str)} {n : Str} {p : Str × List Str} : (l ++ [p]).lookup n = (l.lookup n).or (if n == p.1 then some p.2 else none):=by
 induction l with
 | nil =>
  obtain ⟨a, b⟩:=p
  show List.lookup n [(a, b)] = _
  rw [List.lookup_cons]
  cases n == a <;> rfl
 | cons q l ih =>
  obtain ⟨a, b⟩:=q
  rw [List.cons_append, List.lookup_cons, List.lookup_cons]
  cases n == a with
  | true=>rfl
  | false=>exact ih
theorem zki {α : Type} {P : List α → Prop} (h0 : P []) (hs : ∀ l x, P l → P (l ++ [x])) : ∀ l, P l:=by
 intro l
 have : ∀ n (l : List α), l.length = n → P l:=by
  intro n
  induction n with
  | zero=>intro l e; rw [List.length_eq_zero_iff.mp e]; exact h0
  | succ n ih =>
   intro l e
   have hne : l ≠ []:=fun z=>by rw [z] at e; cases e
   rw [← List.dropLast_concat_getLast hne]
   exact hs _ _ (ih _ (by rw [List.length_dropLast, e]; rfl))
 exact this _ l rfl
theorem zha : ∀ (W : Web), (ups W).map (·.1) = nm W:=by
 refine zki rfl fun W p ih=>?_
 rw [zio]
 unfold zhz nm
 rw [List.map_append, List.map_append, ih]
 rfl
theorem zeu (W : Web) (p : Str × List Str) : nm (W ++ [p]) = nm W ++ [p.1]:=by unfold nm; rw [List.map_append]; rfl
theorem zgl {W : Web} {p : Str × List Str} (h : WebOk (W ++ [p])) : WebOk W ∧ p.1 ∉ nm W ∧ (∀ e ∈ p.2, e ∈ nm W) ∧ p.2.length ≤ 4:=by
 have hp : (W ++ [p])[W.length]? = some p:=by simp
 refine ⟨⟨?_, fun i n es e=>?_, fun q hq=>h.few q (List.mem_append_left _ hq), ?_⟩, ?_, fun e he=>?_, h.few p (by simp)⟩
 ·have:=h.nd; rw [zeu] at this; exact (List.nodup_append.mp this).1
 ·have hi : i < W.length:=(List.getElem?_eq_some_iff.mp e).1
  have q:=h.el i n es (by rw [List.getElem?_append_left hi]; exact e)
  rw [List.take_append_of_le_length (by omega)] at q
  exact q
 ·have:=h.len; simp at this; omega
 ·have:=h.nd
  rw [zeu] at this
  intro hm
  exact (List.nodup_append.mp this).2.2 p.1 hm p.1 (by simp) rfl
 ·have q:=h.el W.length p.1 p.2 hp e he
  rw [List.take_append_of_le_length (Nat.le_refl _), List.take_length] at q
  exact q
theorem zhb {l : List (Str × List Str)} {n : Str} (h : n ∈ l.map (·.1)) : ∃ ks, l.lookup n = some ks ∧ (n, ks) ∈ l:=by
 induction l with
 | nil=>simp at h
 | cons q l ih =>
  obtain ⟨a, b⟩:=q
  rw [List.lookup_cons]
  cases e : n == a with
  | true=>rw [eq_of_beq e]; exact ⟨b, rfl, List.mem_cons_self⟩
  | false =>
   have hn : n ≠ a:=beq_eq_false_iff_ne.mp e
   rcases List.mem_cons.mp h with z | z
   ·exact absurd z hn
   ·obtain ⟨ks, h1, h2⟩:=ih z
    exact ⟨ks, h1, List.mem_cons_of_mem _ h2⟩
theorem zjf {W : Web} {p : Str × List Str} {m : Str} (h : m ∈ nm W) : up (W ++ [p]) m = up W m:=by
 unfold up upL
 rw [zio]
 unfold zhz
 obtain ⟨ks, e, _⟩:=zhb (l:=ups W) (n:=m) (by rw [zha]; exact h)
 rw [zfe, e]
 rfl
theorem zly {l : List (Str × List Str)} {n : Str} (h : n ∉ l.map (·.1)) : l.lookup n = none:=by
 induction l with
 | nil=>rfl
 | cons q l ih =>
  obtain ⟨a, b⟩:=q
  rw [List.lookup_cons]
  have h1 : n ≠ a:=fun z=>h (by simp [z])
  rw [beq_eq_false_iff_ne.mpr h1]
  exact ih fun z=>h (List.mem_cons_of_mem _ z)
theorem zyt {W : Web} {p : Str × List Str} (h : p.1 ∉ nm W) : up (W ++ [p]) p.1 = p.2.foldl (fun ks e=>(upL (ups W) e).foldl insS ks) [p.1]:=by
 unfold up upL
 rw [zio]
 unfold zhz
 rw [zfe, zly (by rw [zha]; exact h)]
 simp [upL]
theorem zadn {W : Web} {n : Str} {es : List Str} (h : (n, es) ∈ W) : n ∈ nm W:=List.mem_map.mpr ⟨_, h, rfl⟩
theorem zvd {W : Web} (h : WebOk W) {n : Str} {es : List Str} (hm : (n, es) ∈ W) : ∀ e ∈ es, e ∈ nm W:=fun e he=>by
 obtain ⟨i, hi, e'⟩:=List.getElem_of_mem hm
 have q:=h.el i n es (by rw [List.getElem?_eq_getElem hi, e']) e he
 obtain ⟨p, h1, h2⟩:=List.mem_map.mp q
 exact List.mem_map.mpr ⟨p, List.mem_of_mem_take h1, h2⟩
theorem zado {x : Str} : ∀ {W : Web}, WebOk W → ∀ {n : Str} {es : List Str}, (n, es) ∈ W → (x ∈ up W n ↔ x = n ∨ ∃ e ∈ es, x ∈ up W e):=by
 intro W
 refine zki (P:=fun W=>WebOk W → ∀ {n : Str} {es : List Str}, (n, es) ∈ W → (x ∈ up W n ↔ x = n ∨ ∃ e ∈ es, x ∈ up W e)) (fun _ n es h=>nomatch h) (fun W p ih h n es hm=>?_) W
 obtain ⟨hW, hp, hel, _⟩:=zgl h
 rcases List.mem_append.mp hm with hm | hm
 ·rw [zjf (zadn hm), ih hW hm]
  have : (∃ e ∈ es, x ∈ up W e) ↔ ∃ e ∈ es, x ∈ up (W ++ [p]) e:=by
   constructor
   ·rintro ⟨e, he, hx⟩; exact ⟨e, he, by rw [zjf (zvd hW hm e he)]; exact hx⟩
   ·rintro ⟨e, he, hx⟩; exact ⟨e, he, by rw [zjf (zvd hW hm e he)] at hx; exact hx⟩
  rw [this]
 ·have e : (n, es) = p:=by simpa using hm
  subst e
  rw [zyt hp, zlx]
  have : (∃ e ∈ es, x ∈ upL (ups W) e) ↔ ∃ e ∈ es, x ∈ up (W ++ [(n, es)]) e:=by
   constructor
   ·rintro ⟨e, he, hx⟩; exact ⟨e, he, by rw [zjf (hel e he)]; exact hx⟩
   ·rintro ⟨e, he, hx⟩; exact ⟨e, he, by rw [zjf (hel e he)] at hx; exact hx⟩
  rw [this]
  simp
theorem zlz {W : Web} (h : WebOk W) {n : Str} (hn : n ∈ nm W) : n ∈ up W n:=by
 obtain ⟨⟨m, es⟩, h1, h2⟩:=List.mem_map.mp hn
 cases h2
 exact (zado h h1).mpr (.inl rfl)
theorem zma : ∀ {W : Web}, WebOk W → ∀ {n x : Str}, x ∈ up W n → x ∈ nm W:=by
 intro W
 refine zki (P:=fun W=>WebOk W → ∀ {n x : Str}, x ∈ up W n → x ∈ nm W) (fun _ n x h=>by simp [up, ups, upL] at h) (fun W p ih h n x hx=>?_) W
 obtain ⟨hW, hp, hel, _⟩:=zgl h
 rw [zeu]
 by_cases hn : n ∈ nm W
 ·rw [zjf hn] at hx
  exact List.mem_append_left _ (ih hW hx)
 ·by_cases e : n = p.1
  ·rw [e, zyt hp, zlx] at hx
   rcases hx with hx | ⟨e', _, hx⟩
   ·exact List.mem_append_right _ (by simpa using hx)
   ·exact List.mem_append_left _ (ih hW hx)
  ·unfold up upL at hx
   rw [zio] at hx
   unfold zhz at hx
   rw [zfe, zly (by rw [zha]; exact hn), beq_eq_false_iff_ne.mpr e] at hx
   simp at hx
theorem zajf : ∀ {W : Web} {n : Str}, (up W n).Nodup:=by
 intro W
 refine zki (P:=fun W=>∀ {n : Str}, (up W n).Nodup) (fun {n}=>by simp [up, ups, upL]) (fun W p ih n=>?_) W
 unfold up upL
 rw [zio]
 unfold zhz
 rw [zfe]
 cases e : (ups W).lookup n with
 | some ks =>
  have q:=ih (n:=n)
  unfold up upL at q
  rw [e] at q
  exact q
 | none =>
  show ((if n == p.1 then some _ else none).getD []).Nodup
  split
  ·exact zys (by simp)
  ·exact List.nodup_nil
theorem zyu {W : Web} (h : WebOk W) (n : Str) : (up W n).length ≤ 12:=by
 have:=zjk _ (nm W) (zajf (W:=W) (n:=n)) fun x hx=>zma h hx
 have:=zhh h
 omega
noncomputable def dS (f : List Str → PyData) (l : List (Str × List Str)) : List (PyData × PyData):=l.map fun p=>(.str p.1, f p.2)
theorem zge (f : List Str → PyData) (n : Str) : ∀ l : List (Str × List Str), ziv (dS f l) (Sum.inr n) = (l.lookup n).map f
 | []=>rfl
 | (a, b) :: l=>by
  have ih:=zge f n l
  show (if keyD (.str a) = some (Sum.inr n) then some (f b) else ziv (dS f l) (Sum.inr n)) = _
  rw [List.lookup_cons]
  by_cases e : a = n
  ·subst e; rw [if_pos (show keyD (.str a) = some (Sum.inr a) from rfl), beq_self_eq_true]; rfl
  ·rw [if_neg (show ¬ keyD (.str a) = some (Sum.inr n) from fun z=>e (Sum.inr.inj (Option.some.inj z))), beq_eq_false_iff_ne.mpr (Ne.symm e)]
   exact ih
theorem ztm (f : List Str → PyData) {l : List (Str × List Str)} {n : Str} {ks : List Str} (h : n ∉ l.map (·.1)) : zhp (dS f l) (.str n) (f ks) = dS f (l ++ [(n, ks)]):=by
 unfold zhp dS
 rw [if_neg, List.map_append]
 ·rfl
 ·intro z
  rw [List.any_map, List.any_eq_true] at z
  obtain ⟨p, hp, e⟩:=z
  have e:=of_decide_eq_true e
  exact h (List.mem_map.mpr ⟨p, hp, Sum.inr.inj (Option.some.inj e)⟩)
noncomputable def zev (ks : List Str) : List (PyData × PyData):=ks.map fun k=>(.str k, .bool true)
noncomputable def zat (ks : List Str) : PyData:=.dict (zev ks)
theorem zqy (x : Str) : ∀ ks : List Str, zte (zev ks) (Sum.inr x) = decide (x ∈ ks)
 | []=>by simp [zev, zte, ziv]
 | k :: ks=>by
  have ih:=zqy x ks
  unfold zte at ih ⊢
  show (if keyD (.str k) = some (Sum.inr x) then some (PyData.bool true) else ziv (zev ks) (Sum.inr x)).isSome = _
  by_cases e : k = x
  ·subst e; rw [if_pos (show keyD (.str k) = some (Sum.inr k) from rfl)]; simp
  ·rw [if_neg (show ¬ keyD (.str k) = some (Sum.inr x) from fun z=>e (Sum.inr.inj (Option.some.inj z))), ih]
   have : ¬ x = k:=fun z=>e z.symm
   simp [this]
theorem zyv (ks : List Str) (k : Str) : zhp (zev ks) (.str k) (.bool true) = zev (insS ks k):=by
 have ha : ((zev ks).any fun kv=>decide (keyD kv.1 = keyD (.str k))) = decide (k ∈ ks):=by
  unfold zev
  rw [List.any_map, Bool.eq_iff_iff, List.any_eq_true, decide_eq_true_iff]
  constructor
  ·rintro ⟨y, hy, h⟩
   have h:=of_decide_eq_true h
   have : y = k:=Sum.inr.inj (Option.some.inj h)
   rw [← this]; exact hy
  ·exact fun h=>⟨k, h, decide_eq_true rfl⟩
 unfold zhp insS
 rw [ha]
 by_cases hk : k ∈ ks
 ·rw [if_pos (decide_eq_true hk), if_pos hk]
  unfold zev
  rw [List.map_map]
  refine List.map_congr_left fun y _=>?_
  show (if keyD (PyData.str y) = keyD (.str k) then (PyData.str y, PyData.bool true) else (PyData.str y, PyData.bool true)) = _
  split <;> rfl
 ·rw [if_neg (by simpa using hk), if_neg hk]
  unfold zev
  rw [List.map_append]; rfl
theorem zhc : ∀ (ms ks : List Str), zgc (zev ks) (zev ms) = zev (ms.foldl insS ks)
 | [], _=>rfl
 | m :: ms, ks=>by
  show zgc (zhp (zev ks) (.str m) (.bool true)) (zev ms) = _
  rw [zyv, zhc ms]; rfl
theorem zaca {α : Type} {pre post : List α} {x : α} {l : List α} (h : pre ++ x :: post = l) : l = (pre ++ [x]) ++ post:=by rw [← h]; simp
theorem zyw : ∀ {post W : Web}, WebOk (W ++ post) → WebOk W:=by
 intro post
 refine zki (P:=fun post=>∀ {W : Web}, WebOk (W ++ post) → WebOk W) (fun {W} h=>by rwa [List.append_nil] at h) (fun post p ih W h=>?_) post
 rw [← List.append_assoc] at h
 exact ih (zgl h).1
theorem zgm {W : Web} (h : WebOk W) : zbw [webD W] = some (.dict (dS zat (ups W)), true):=by
 have inner : ∀ (V : Web) (p : Str × List Str) (es pre : List Str) (s5 : Sl), WebOk (V ++ [p]) → pre ++ es = p.2 →
   ∃ s5', forL (gN 5) (sUpd 4 (zan 1 (eVar 5))) (es.map .str) [.pl (webD W), .ac (.dict (dS zat (ups V))), .pl (.str p.1), .pl (zaa p.2), .ac (zat (pre.foldl (fun ks e=>(upL (ups V) e).foldl insS ks) [p.1])), s5] =
    some (.nx [.pl (webD W), .ac (.dict (dS zat (ups V))), .pl (.str p.1), .pl (zaa p.2), .ac (zat (p.2.foldl (fun ks e=>(upL (ups V) e).foldl insS ks) [p.1])), s5']):=by
  intro V p es
  induction es with
  | nil=>intro pre s5 _ e; rw [List.append_nil] at e; subst e; exact ⟨s5, rfl⟩
  | cons e es ih =>
   intro pre s5 hV hp
   obtain ⟨hV', hn, hel, hfew⟩:=zgl hV
   have he : e ∈ nm V:=hel e (by rw [← hp]; simp)
   obtain ⟨ks, lk, _⟩:=zhb (l:=ups V) (n:=e) (by rw [zha]; exact he)
   have eup : upL (ups V) e = ks:=by unfold upL; rw [lk]; rfl
   have l1 : ks.length ≤ 12:=by rw [← eup]; exact zyu hV' e
   have sub : ∀ x ∈ pre.foldl (fun ks e=>(upL (ups V) e).foldl insS ks) [p.1], x ∈ nm (V ++ [p]):=fun x hx=>by
    rw [zeu]
    rcases zlx.mp hx with z | ⟨e', _, z⟩
    ·exact List.mem_append_right _ (by simpa using z)
    ·exact List.mem_append_left _ (zma hV' z)
   have l2 : (pre.foldl (fun ks e=>(upL (ups V) e).foldl insS ks) [p.1]).length ≤ 12:=by
    have:=zjk _ _ (zys (acc:=ups V) (es:=pre) (ks:=[p.1]) (by simp)) sub
    have:=zhh hV
    omega
   obtain ⟨s5', q⟩:=ih (pre ++ [e]) (.pl (.str e)) hV (by rw [← hp]; simp)
   refine ⟨s5', ?_⟩
   rw [List.map_cons]
   unfold forL
   simp only [gN, Option.bind_some, List.set_cons_succ, List.set_cons_zero]
   have b : sUpd 4 (zan 1 (eVar 5)) [.pl (webD W), .ac (.dict (dS zat (ups V))), .pl (.str p.1), .pl (zaa p.2), .ac (zat (pre.foldl (fun ks e=>(upL (ups V) e).foldl insS ks) [p.1])), .pl (.str e)] =
     some (.nx [.pl (webD W), .ac (.dict (dS zat (ups V))), .pl (.str p.1), .pl (zaa p.2), .ac (zat ((pre ++ [e]).foldl (fun ks e=>(upL (ups V) e).foldl insS ks) [p.1])), .pl (.str e)]):=by
    have lz : (zev (pre.foldl (fun ks e=>(upL (ups V) e).foldl insS ks) [p.1])).length + (zev ks).length ≤ 100000:=by unfold zev; rw [List.length_map, List.length_map]; omega
    simp only [sUpd, zat, zan, eVar, List.getElem?_cons_succ, List.getElem?_cons_zero, Option.bind_some, keyD, zge, lk, Option.map_some]
    rw [if_pos ⟨lz, by simp⟩, zhc]
    simp [frzs, List.foldl_append, eup]
   rw [b, Option.bind_some]
   exact q
 have outer : ∃ env', forL (gT 2 (zcf 2 (zcf 3 zjr))) (sSeq (sSet 4 (eD1 (eVar 2) (eC (.bool true)))) (sSeq (sFor (zaq (eVar 3)) (gN 5) (sUpd 4 (zan 1 (eVar 5)))) (sPut 1 (eVar 2) (eVar 4)))) (W.map rowD) [.pl (webD W), .ac (.dict []), .no, .no, .no, .no] = some (.nx env') ∧
   ∃ s2 s3 s4 s5, env' = [.pl (webD W), .ac (.dict (dS zat (ups W))), s2, s3, s4, s5]:=by
  refine zcq (fun pre env=>∃ s2 s3 s4 s5, env = [.pl (webD W), .ac (.dict (dS zat (ups pre))), s2, s3, s4, s5]) ⟨_, _, _, _, rfl⟩ ?_
  rintro pre p post env hp ⟨s2, s3, s4, s5, rfl⟩
  have hV : WebOk (pre ++ [p]):=zyw (post:=post) (by rw [← zaca hp]; exact h)
  obtain ⟨hV', hn, hel, hfew⟩:=zgl hV
  obtain ⟨s5', q⟩:=inner pre p p.2 [] s5 hV rfl
  refine ⟨[.pl (webD W), .ac (.dict (dS zat (ups pre))), .pl (.str p.1), .pl (zaa p.2), s4, s5], [.pl (webD W), .ac (.dict (dS zat (ups (pre ++ [p])))), .pl (.str p.1), .pl (zaa p.2), .pl (zat (p.2.foldl (fun ks e=>(upL (ups pre) e).foldl insS ks) [p.1])), s5'], rfl, .inl ?_, _, _, _, _, rfl⟩
  have lz : (dS zat (ups pre)).length < 100000:=by
   unfold dS
   rw [List.length_map, ← List.length_map (f:=(·.1)), zha]
   have:=zhh hV'
   omega
  have st : sSet 4 (eD1 (eVar 2) (eC (.bool true))) [.pl (webD W), .ac (.dict (dS zat (ups pre))), .pl (.str p.1), .pl (zaa p.2), s4, s5] = some (.nx [.pl (webD W), .ac (.dict (dS zat (ups pre))), .pl (.str p.1), .pl (zaa p.2), .ac (zat [p.1]), s5]):=by
   simp [sSet, eD1, eVar, eC, keyD, putV, frzs, slOf, zat, zev]
  have pt : sPut 1 (eVar 2) (eVar 4) [.pl (webD W), .ac (.dict (dS zat (ups pre))), .pl (.str p.1), .pl (zaa p.2), .ac (zat (p.2.foldl (fun ks e=>(upL (ups pre) e).foldl insS ks) [p.1])), s5'] =
    some (.nx [.pl (webD W), .ac (.dict (dS zat (ups (pre ++ [p])))), .pl (.str p.1), .pl (zaa p.2), .pl (zat (p.2.foldl (fun ks e=>(upL (ups pre) e).foldl insS ks) [p.1])), s5']):=by
   simp only [sPut, eVar, List.getElem?_cons_succ, List.getElem?_cons_zero, Option.bind_some, keyD]
   rw [if_pos ⟨lz, by simp⟩, ztm zat (by rw [zha]; exact hn), zio]
   simp [frzs, frz1, zhz]
  exact zak st (zak (for_list rfl q) pt)
 obtain ⟨env', hl, s2, s3, s4, s5, rfl⟩:=outer
 exact zgz (env:=[.pl (webD W), .no, .no, .no, .no, .no]) rfl (zak rfl (zak (for_list rfl hl) rfl))
end Bc
namespace Bc
open PySem L2
noncomputable def ltr (i : Int) : Str:=⟨#[97 + i.toNat]⟩
noncomputable def Low (x : Str) : Prop:=∀ c ∈ x.cps.toList, c < 128
theorem zjs {x : Str} (h : Low x) : PyData.strOk x = true:=by
 unfold PyData.strOk
 rw [← Array.all_toList, List.all_eq_true]
 intro c hc
 have:=h c hc
 exact decide_eq_true (by omega)
theorem zlc (a b : Str) : (a ++ b).cps.toList = a.cps.toList ++ b.cps.toList:=by
 show (a.cps ++ b.cps).toList = _
 simp
theorem Low.app {a b : Str} (h1 : Low a) (h2 : Low b) : Low (a ++ b):=fun c hc=>by
 rw [zlc] at hc
 exact (List.mem_append.mp hc).elim (h1 c) (h2 c)
theorem Low.slice {x : Str} (h : Low x) (l u : Option Int) : Low (Txt.slice x l u):=fun c hc=>by
 unfold Txt.slice at hc
 split at hc
 ·exact h c hc
 ·have hc : c ∈ (List.filterMap (x.cps[·]?) (Builtin.Str.strSliceIndices l u 1 x.length)):=by simpa using hc
  obtain ⟨i, _, e⟩:=List.mem_filterMap.mp hc
  exact h c (by
   have:=Array.mem_of_getElem? e
   simpa using this)
theorem Low.ltr {i : Int} (h0 : 0 ≤ i) (h1 : i < 26) : Low (ltr i):=fun c hc=>by
 have : c = 97 + i.toNat:=by simpa [Bc.ltr] using hc
 omega
theorem zqz (c : Nat) : ∀ (n : Nat) (acc : Array Nat), ((List.replicate n #[c]).foldl (· ++ ·) acc).toList = acc.toList ++ List.replicate n c
 | 0, acc=>by simp
 | n + 1, acc=>by
  rw [List.replicate_succ, List.foldl_cons, zqz c n, List.replicate_succ]
  simp
theorem zpg {c : Nat} {n : Int} (h : 0 ≤ n) : (Txt.mul ⟨#[c]⟩ n).cps.toList = List.replicate n.toNat c:=by
 unfold Txt.mul
 split
 ·have : n.toNat = 0:=by omega
  rw [this]; rfl
 ·split
  ·rename_i h1 h2
   have : n = 1:=by
    rcases Bool.or_eq_true_iff.mp h2 with z | z
    ·exact eq_of_beq z
    ·exact absurd z (by simp [Str.length])
   subst this
   rfl
  ·rw [zqz]; rfl
theorem Low.mul {c : Nat} (hc : c < 128) {n : Int} (h : 0 ≤ n) : Low (Txt.mul ⟨#[c]⟩ n):=fun d hd=>by
 rw [zpg h] at hd
 rw [List.eq_of_mem_replicate hd]; exact hc
theorem zyx {c : Nat} {n : Int} (h : 0 ≤ n) : (Txt.mul ⟨#[c]⟩ n).length = n.toNat:=by
 have:=congrArg List.length (zpg (c:=c) h)
 rw [List.length_replicate] at this
 simpa [Str.length] using this
noncomputable def zib (md o st : Int) (stem : Str) (at_ : Int) (k : Nat) : Str :=
 if md = 0 then Txt.slice stem none (some at_) ++ ltr ((o + st * k) % 26) ++ Txt.slice stem (some at_) none
 else if md = 1 then Txt.slice stem none (some (k * st % (stem.length + 1))) ++ ltr ((o + st * k) % 26)
 else Txt.mul (ltr ((o + k / 8) % 26)) (1 + k * st % 8)
theorem zyy {i j : Int} (h0 : 0 ≤ i) (h1 : 0 ≤ j) (h : ltr i = ltr j) : i = j:=by
 unfold ltr at h
 have : #[97 + i.toNat] = #[97 + j.toNat]:=by injection h
 have : 97 + i.toNat = 97 + j.toNat:=by simpa using this
 omega
theorem zra : ∀ st ∈ ([1, 3, 5, 7, 9, 11, 15, 17] : List Nat), ∀ a < 16, ∀ b < 16, st * a % 26 = st * b % 26 → a = b:=by decide +kernel
theorem zve {o st : Int} (hs : st ∈ ([1, 3, 5, 7, 9, 11, 15, 17] : List Int)) {a b : Nat} (ha : a < 16) (hb : b < 16) (h : (o + st * a) % 26 = (o + st * b) % 26) : a = b:=by
 have h2:=Int.emod_add_cancel_left.mp h
 simp only [List.mem_cons, List.mem_nil_iff, or_false] at hs
 rcases hs with rfl | rfl | rfl | rfl | rfl | rfl | rfl | rfl
 ·exact zra 1 (by decide) a ha b hb (by exact_mod_cast h2)
 ·exact zra 3 (by decide) a ha b hb (by exact_mod_cast h2)
 ·exact zra 5 (by decide) a ha b hb (by exact_mod_cast h2)
 ·exact zra 7 (by decide) a ha b hb (by exact_mod_cast h2)
 ·exact zra 9 (by decide) a ha b hb (by exact_mod_cast h2)
 ·exact zra 11 (by decide) a ha b hb (by exact_mod_cast h2)
 ·exact zra 15 (by decide) a ha b hb (by exact_mod_cast h2)
 ·exact zra 17 (by decide) a ha b hb (by exact_mod_cast h2)
theorem zafp {x y : Int} (hx : 0 ≤ x) (hy : 0 ≤ y) (h : 97 + x.toNat = 97 + y.toNat) : x = y:=by omega
theorem zaic {x y : Int} (hx : 0 ≤ x) (hy : 0 ≤ y) (h : (1 + x).toNat = (1 + y).toNat) : x = y:=by omega
theorem zyz {x : Int} (hx : 0 ≤ x) : (1 + x).toNat = x.toNat + 1:=by omega
theorem tab8 : ∀ st ∈ ([1, 3, 5, 7, 9, 11, 15, 17] : List Nat), ∀ a < 16, ∀ b < 16, a / 8 = b / 8 → a * st % 8 = b * st % 8 → a = b:=by decide +kernel
theorem zza {o st : Int} (hs : st ∈ ([1, 3, 5, 7, 9, 11, 15, 17] : List Int)) {a b : Nat} (ha : a < 16) (hb : b < 16) (h : (o + (a : Int) / 8) % 26 = (o + (b : Int) / 8) % 26) (h2 : (a : Int) * st % 8 = b * st % 8) : a = b:=by
 have q1 : a / 8 = b / 8:=by omega
 simp only [List.mem_cons, List.mem_nil_iff, or_false] at hs
 rcases hs with rfl | rfl | rfl | rfl | rfl | rfl | rfl | rfl
 ·exact tab8 1 (by decide) a ha b hb q1 (by exact_mod_cast h2)
 ·exact tab8 3 (by decide) a ha b hb q1 (by exact_mod_cast h2)
 ·exact tab8 5 (by decide) a ha b hb q1 (by exact_mod_cast h2)
 ·exact tab8 7 (by decide) a ha b hb q1 (by exact_mod_cast h2)
 ·exact tab8 9 (by decide) a ha b hb q1 (by exact_mod_cast h2)
 ·exact tab8 11 (by decide) a ha b hb q1 (by exact_mod_cast h2)
 ·exact tab8 15 (by decide) a ha b hb q1 (by exact_mod_cast h2)
 ·exact tab8 17 (by decide) a ha b hb q1 (by exact_mod_cast h2)
theorem zzb {md o st at_ : Int} {stem : Str} (hs : st ∈ ([1, 3, 5, 7, 9, 11, 15, 17] : List Int)) (ho : 0 ≤ o) {a b : Nat} (ha : a < 16) (hb : b < 16) (h : zib md o st stem at_ a = zib md o st stem at_ b) : a = b:=by
 have st0 : 0 ≤ st:=by
  simp only [List.mem_cons, List.mem_nil_iff, or_false] at hs
  rcases hs with rfl | rfl | rfl | rfl | rfl | rfl | rfl | rfl <;> decide
 have n26 : ∀ z : Int, 0 ≤ z % 26:=fun z=>Int.emod_nonneg z (by decide)
 unfold zib at h
 by_cases h0 : md = 0
 ·rw [if_pos h0, if_pos h0] at h
  have q:=congrArg (fun x : Str=>x.cps.toList) h
  simp only [zlc] at q
  have q2:=List.append_cancel_right q
  have q3:=List.append_cancel_left q2
  have q4 : ltr ((o + st * a) % 26) = ltr ((o + st * b) % 26):=by
   unfold ltr at q3 ⊢
   congr 1
   exact Array.toList_inj.mp q3
  exact zve hs ha hb (zyy (n26 _) (n26 _) q4)
 ·rw [if_neg h0, if_neg h0] at h
  by_cases h1 : md = 1
  ·rw [if_pos h1, if_pos h1] at h
   have q:=congrArg (fun x : Str=>x.cps.toList) h
   simp only [zlc] at q
   have q3:=(List.append_inj' q (by simp [ltr])).2
   have q4 : ltr ((o + st * a) % 26) = ltr ((o + st * b) % 26):=by
    unfold ltr at q3 ⊢
    congr 1
    exact Array.toList_inj.mp q3
   exact zve hs ha hb (zyy (n26 _) (n26 _) q4)
  ·rw [if_neg h1, if_neg h1] at h
   have m8 : ∀ z : Int, 0 ≤ z % 8:=fun z=>Int.emod_nonneg z (by decide)
   have q : (Txt.mul (ltr ((o + (a : Int) / 8) % 26)) (1 + a * st % 8)).cps.toList = (Txt.mul (ltr ((o + (b : Int) / 8) % 26)) (1 + b * st % 8)).cps.toList:=by rw [h]
   have ea : ∀ k : Nat, (Txt.mul (ltr ((o + (k : Int) / 8) % 26)) (1 + k * st % 8)).cps.toList = List.replicate (1 + (k : Int) * st % 8).toNat (97 + ((o + (k : Int) / 8) % 26).toNat):=fun k=>zpg (by have:=m8 (k * st); omega)
   rw [ea a, ea b] at q
   have ql:=congrArg List.length q
   rw [List.length_replicate, List.length_replicate] at ql
   have w1:=m8 (a * st)
   have w2:=m8 (b * st)
   have hh : (97 + ((o + (a : Int) / 8) % 26).toNat) = (97 + ((o + (b : Int) / 8) % 26).toNat):=by
    have c1 : (1 + (a : Int) * st % 8).toNat = ((a : Int) * st % 8).toNat + 1:=zyz w1
    have c2 : (1 + (b : Int) * st % 8).toNat = ((b : Int) * st % 8).toNat + 1:=zyz w2
    rw [c1, c2, List.replicate_succ, List.replicate_succ] at q
    exact (List.cons.inj q).1
   have z1:=n26 (o + (a : Int) / 8)
   have z2:=n26 (o + (b : Int) / 8)
   exact zza (o:=o) hs ha hb (zafp z1 z2 hh) (zaic w1 w2 ql)
theorem zmb {α : Type} {f : Nat → α} {n : Nat} (h : ∀ a b, a < n → b < n → f a = f b → a = b) : ((List.range n).map f).Nodup:=by
 rw [List.nodup_iff_pairwise_ne, List.pairwise_map]
 refine List.Pairwise.imp_of_mem ?_ (List.pairwise_lt_range (n:=n))
 intro a b ha hb hab e
 have:=h a b (List.mem_range.mp ha) (List.mem_range.mp hb) e
 omega
theorem zzc {md o st at_ : Int} {stem : Str} (hl : Low stem) (ho : 0 ≤ o) (hst : 0 ≤ st) (k : Nat) : Low (zib md o st stem at_ k):=by
 have n26 : ∀ z : Int, 0 ≤ z % 26 ∧ z % 26 < 26:=fun z=>⟨Int.emod_nonneg z (by decide), Int.emod_lt_of_pos z (by decide)⟩
 unfold zib
 split
 ·exact ((hl.slice _ _).app (Low.ltr (n26 _).1 (n26 _).2)).app (hl.slice _ _)
 ·split
  ·exact (hl.slice _ _).app (Low.ltr (n26 _).1 (n26 _).2)
  ·have:=Int.emod_nonneg ((k : Int) * st) (show (8 : Int) ≠ 0 by decide)
   exact Low.mul (by have:=n26 (o + (k : Int) / 8); omega) (by omega)
end Bc
namespace Bc
open PySem L2
noncomputable abbrev vi (i : Int) : Val:=⟨.int i, false, []⟩
noncomputable abbrev vs (x : Str) : Val:=⟨.str x, false, []⟩
noncomputable abbrev vb (b : Bool) : Val:=⟨.bool b, false, []⟩
section
variable {a b : EF} {env : DEnv} {i j : Int}
theorem zjt (ha : a env = some (vi i)) (hb : b env = some (vi j)) (h : 0 < j) : eOp modD a b env = some (vi (i % j)):=by
 unfold eOp; rw [ha, hb]; simp [modD, intD, h, bsOf, zdv]
theorem zrb (ha : a env = some (vi i)) (hb : b env = some (vi j)) (h : 0 < j) (h2 : j < 1073741824) : eOp zfc a b env = some (vi (i / j)):=by
 unfold eOp; rw [ha, hb]; simp [zfc, intD, h, h2, bsOf, zdv]
theorem zrc (ha : a env = some (vi i)) (hb : b env = some (vi j)) : eOp addD a b env = some (vi (i + j)):=by
 unfold eOp; rw [ha, hb]; simp [addD, bsOf, zdv]
theorem zafq (ha : a env = some (vi i)) (hb : b env = some (vi j)) (h : (-(2 ^ 64) < i ∧ i < 2 ^ 64) ∨ (-(2 ^ 64) < j ∧ j < 2 ^ 64)) : eOp mulD a b env = some (vi (i * j)):=by
 unfold eOp; rw [ha, hb]
 simp only [Option.bind_some, mulD]
 rw [if_pos h]; simp [bsOf, zdv]
theorem zwc (ha : a env = some (vi i)) (hb : b env = some (vi j)) : eOp eqD a b env = some (vb (i == j)):=by
 unfold eOp; rw [ha, hb]; rfl
theorem zzd {x y : Str} (ha : a env = some (vs x)) (hb : b env = some (vs y)) (h : x.length + y.length ≤ 100000) : eOp addD a b env = some (vs (x ++ y)):=by
 unfold eOp; rw [ha, hb]
 simp only [Option.bind_some, addD]
 rw [if_pos h]; simp [bsOf, zdv]
theorem zadp {x : Str} (ha : a env = some (vs x)) (hb : b env = some (vi j)) (h : x.length ≤ 1000 ∧ -1000 ≤ j ∧ j ≤ 1000) : eOp mulD a b env = some (vs (Txt.mul x j)):=by
 unfold eOp; rw [ha, hb]
 simp only [Option.bind_some, mulD]
 rw [if_pos h]; simp [bsOf, zdv]
theorem zafr {x : Str} {l h : PF'} {lo hi : Option Int} (ha : a env = some (vs x)) (hl : l env = some lo) (hh : h env = some hi) (hz : x.length ≤ 100000) : eSl a l h env = some (vs (Txt.slice x lo hi)):=by
 unfold eSl; rw [ha, hl, hh]
 simp only [Option.bind_some, slD]
 rw [if_pos hz]; simp [bsOf, zdv]
theorem zze (ha : a env = some (vi i)) : zet a env = some (some i):=by unfold zet; rw [ha]; rfl
theorem zcg {c : Bool} (ha : a env = some (vb c)) : zar a env = some c:=by unfold zar; rw [ha]; rfl
theorem zhd {r : Val} (ha : a env = some r) : zad a aNil env = some [r]:=by unfold zad aNil; rw [ha]; rfl
theorem zadq {x : Str} (ha : a env = some (vs x)) (hz : x.length ≤ 100000) : eCB lenD (zad a aNil) env = some (vi x.length):=by
 unfold eCB
 rw [zhd ha]
 simp [zje, lenD, hz, bsOf, zdv]
theorem zmc {ds : List PyData} {fr : Bool} {bs : List Nat} (ha : a env = some ⟨.list ds, fr, bs⟩) : eCB lenD (zad a aNil) env = some (vi ds.length):=by
 unfold eCB
 rw [zhd ha]
 simp [zje, lenD, bsOf, zdv]
theorem zafs {k n : Nat} {b : EF} {ds : List PyData} {d : PyData} (he : env[k]? = some (.pl (.list ds))) (hb : b env = some (vi (n : Int))) (hd : ds[n]? = some d) : eIxV k b env = some ⟨d, false, []⟩:=by
 unfold eIxV
 rw [he]
 unfold eOp eVar
 rw [he, hb]
 simp only [Option.bind_some, ixD]
 rw [zlf hd]
 simp [bsOf]
theorem zajg {k n : Nat} {b : EF} {ds : List PyData} {d : PyData} (he : env[k]? = some (.ac (.list ds))) (hb : b env = some (vi (n : Int))) (hd : ds[n]? = some d) : eIxV k b env = some ⟨d, false, []⟩:=by
 unfold eIxV
 rw [he]
 simp only
 rw [hb]
 simp only [Option.bind_some]
 rw [zlf hd]; rfl
end
noncomputable def abc : Str:="abcdefghijklmnopqrstuvwxyz"
theorem zaft : (List.range 26).all (fun i=>abc.cps.toList[i]? == some (97 + i)) = true:=by decide +kernel
theorem zafu : abc.length = 26:=by decide +kernel
theorem zaid {i : Int} (h0 : 0 ≤ i) (h1 : i < 26) : atI abc.cps.toList i = some (97 + i.toNat):=by
 have q:=List.all_eq_true.mp zaft i.toNat (List.mem_range.mpr (by omega))
 have e : ((i.toNat : Nat) : Int) = i:=by omega
 rw [← e]
 have z:=zlf (eq_of_beq q)
 rw [e] at z ⊢
 exact z
theorem zafv {k : Nat} {b : EF} {env : DEnv} {i : Int} (he : env[k]? = some (.pl (.str abc))) (hb : b env = some (vi i)) (h0 : 0 ≤ i) (h1 : i < 26) : eIxV k b env = some (vs (ltr i)):=by
 unfold eIxV
 rw [he]
 unfold eOp eVar
 rw [he, hb]
 simp only [Option.bind_some, ixD]
 rw [if_pos (by rw [zafu]; decide), zaid h0 h1]
 simp [bsOf, zdv, ltr]
theorem zafw {i : Int} (h0 : 0 ≤ i) (h1 : i < 8) : ∃ st : Int, atI [PyData.int 1, .int 3, .int 5, .int 7, .int 9, .int 11, .int 15, .int 17] i = some (.int st) ∧ st ∈ ([1, 3, 5, 7, 9, 11, 15, 17] : List Int):=by
 rcases (show i = 0 ∨ i = 1 ∨ i = 2 ∨ i = 3 ∨ i = 4 ∨ i = 5 ∨ i = 6 ∨ i = 7 by omega) with rfl | rfl | rfl | rfl | rfl | rfl | rfl | rfl
 all_goals exact ⟨_, rfl, by decide⟩
theorem zvf {i : Nat} {f : EF} {env : DEnv} {ds : List PyData} {d : PyData} {fr : Bool} (he : env[i]? = some (.ac (.list ds))) (hf : f env = some ⟨d, fr, []⟩) (hl : ds.length < 100000) : sApp i f env = some (.nx (env.set i (.ac (.list (ds ++ [d]))))):=by
 unfold sApp
 rw [he]
 simp only
 rw [hf]
 simp only [Option.bind_some]
 rw [if_pos ⟨hl, by simp⟩]; rfl
theorem zmd (n : Nat) : zlr 0 n = (List.range n).map (fun (k : Nat)=>PyData.int (k : Int)):=by
 unfold zlr
 refine List.map_congr_left fun k _=>?_
 show PyData.int (0 + (k : Int)) = _
 rw [Int.zero_add]
theorem zph (a b : Str) : (a ++ b).length = a.length + b.length:=by
 have:=congrArg List.length (zlc a b)
 rw [List.length_append] at this
 simpa [Str.length] using this
theorem zrd {m c : Int} (m0 : 0 ≤ m) (m16 : m ≤ 16) (c0 : 0 ≤ c) : ∃ xs : List Str, zdz [.int m, .int c] = some (zaa xs, true) ∧ xs.length = m.toNat ∧ xs.Nodup ∧ (∀ x ∈ xs, Low x) ∧ ∀ x ∈ xs, x.length ≤ 30:=by
 have md : ∀ (z j : Int), 0 < j → 0 ≤ z % j ∧ z % j < j:=fun z j hj=>⟨Int.emod_nonneg z (by omega), Int.emod_lt_of_pos z hj⟩
 have i8:=md (c / 3) 8 (by decide)
 obtain ⟨st, hst, hmem⟩:=zafw i8.1 i8.2
 have st0 : 0 ≤ st ∧ st < 100:=by
  simp only [List.mem_cons, List.mem_nil_iff, or_false] at hmem
  rcases hmem with rfl | rfl | rfl | rfl | rfl | rfl | rfl | rfl <;> decide
 have o26:=md (c / 24) 26 (by decide)
 have j26:=md (c / 624) 26 (by decide)
 have n8:=md (c / 16224) 8 (by decide)
 have lowS : Low (Txt.mul (ltr (c / 624 % 26)) (c / 16224 % 8)):=Low.mul (by omega) n8.1
 have lenS : (Txt.mul (ltr (c / 624 % 26)) (c / 16224 % 8)).length ≤ 7:=by unfold ltr; rw [zyx n8.1]; omega
 have s3 : sSet 3 (eOp ixD (eTup (zad (eC (.int 1)) (zad (eC (.int 3)) (zad (eC (.int 5)) (zad (eC (.int 7)) (zad (eC (.int 9)) (zad (eC (.int 11)) (zad (eC (.int 15)) (zad (eC (.int 17)) aNil))))))))) (eOp modD (eOp zfc (eVar 1) (eC (.int 3))) (eC (.int 8)))) [.pl (.int m), .pl (.int c), .pl (.str abc), .no, .no, .no, .no, .no, .no, .no] = some (.nx [.pl (.int m), .pl (.int c), .pl (.str abc), .pl (.int st), .no, .no, .no, .no, .no, .no]):=by
  refine zbq (r:=vi st) ?_
  unfold eOp
  show ((some (⟨.tuple [PyData.int 1, .int 3, .int 5, .int 7, .int 9, .int 11, .int 15, .int 17], false, []⟩ : Val)).bind fun x=>((some (vi (c / 3 % 8))).bind fun y=>(ixD x.d y.d).bind fun z=>some (⟨z.1, z.2, bsOf z.1 (x.bs ++ y.bs)⟩ : Val))) = _
  simp only [Option.bind_some, ixD]
  rw [hst]; rfl
 have s5 : sSet 5 (eOp mulD (eIxV 2 (eOp modD (eOp zfc (eVar 1) (eC (.int 624))) (eC (.int 26)))) (eOp modD (eOp zfc (eVar 1) (eC (.int 16224))) (eC (.int 8)))) [.pl (.int m), .pl (.int c), .pl (.str abc), .pl (.int st), .pl (.int (c / 24 % 26)), .no, .no, .no, .no, .no] =
   some (.nx [.pl (.int m), .pl (.int c), .pl (.str abc), .pl (.int st), .pl (.int (c / 24 % 26)), .pl (.str (Txt.mul (ltr (c / 624 % 26)) (c / 16224 % 8))), .no, .no, .no, .no]) :=
  zbq (r:=vs _) (zadp (zafv rfl rfl j26.1 j26.2) rfl ⟨by show 1 ≤ 1000; decide, by omega, by omega⟩)
 generalize hO : c / 24 % 26 = o at o26 s5
 generalize Txt.mul (ltr (c / 624 % 26)) (c / 16224 % 8) = stem at lowS lenS s5
 have s6 : ∃ at_ : Int, sSet 6 (eOp modD (eOp zfc (eVar 1) (eC (.int 129792))) (eOp addD (eCB lenD (zad (eVar 5) aNil)) (eC (.int 1)))) [.pl (.int m), .pl (.int c), .pl (.str abc), .pl (.int st), .pl (.int o), .pl (.str stem), .no, .no, .no, .no] = some (.nx [.pl (.int m), .pl (.int c), .pl (.str abc), .pl (.int st), .pl (.int o), .pl (.str stem), .pl (.int at_), .no, .no, .no]) :=
  ⟨_, zbq (r:=vi _) (zjt rfl (zrc (zadq rfl (by omega)) rfl) (by omega))⟩
 obtain ⟨at_, s6⟩:=s6
 have loop : ∃ env', forL (gN 8) (sSeq (sSet 9 (eIxV 2 (eOp modD (eOp addD (eVar 4) (eOp mulD (eVar 3) (eVar 8))) (eC (.int 26)))))
  (sIf (zar (eOp eqD (eOp modD (eVar 1) (eC (.int 3))) (eC (.int 0)))) (sApp 7 (eOp addD (eOp addD (eSl (eVar 5) ziw (zet (eVar 6))) (eVar 9)) (eSl (eVar 5) (zet (eVar 6)) ziw))) (sIf (zar (eOp eqD (eOp modD (eVar 1) (eC (.int 3))) (eC (.int 1)))) (sApp 7 (eOp addD (eSl (eVar 5) ziw (zet (eOp modD (eOp mulD (eVar 8) (eVar 3)) (eOp addD (eCB lenD (zad (eVar 5) aNil)) (eC (.int 1)))))) (eVar 9))) (sApp 7 (eOp mulD (eIxV 2 (eOp modD (eOp addD (eVar 4) (eOp zfc (eVar 8) (eC (.int 8)))) (eC (.int 26)))) (eOp addD (eC (.int 1)) (eOp modD (eOp mulD (eVar 8) (eVar 3)) (eC (.int 8)))))))))
   ((List.range m.toNat).map fun (k : Nat)=>PyData.int (k : Int)) [.pl (.int m), .pl (.int c), .pl (.str abc), .pl (.int st), .pl (.int o), .pl (.str stem), .pl (.int at_), .ac (.list []), .no, .no] = some (.nx env') ∧
   ∃ s8 s9, env' = [.pl (.int m), .pl (.int c), .pl (.str abc), .pl (.int st), .pl (.int o), .pl (.str stem), .pl (.int at_), .ac (zaa ((List.range m.toNat).map (zib (c % 3) o st stem at_))), s8, s9]:=by
  refine zcq (fun pre env=>∃ s8 s9, env = [.pl (.int m), .pl (.int c), .pl (.str abc), .pl (.int st), .pl (.int o), .pl (.str stem), .pl (.int at_), .ac (zaa (pre.map (zib (c % 3) o st stem at_))), s8, s9]) ⟨_, _, rfl⟩ ?_
  rintro pre k post env hk ⟨s8, s9, rfl⟩
  have hkm : k < m.toNat:=List.mem_range.mp (by rw [← hk]; simp)
  have hpl : pre.length < 100:=by
   have:=congrArg List.length hk
   simp at this
   omega
  have b1 : 0 ≤ st * (k : Int):=Int.mul_nonneg st0.1 (by omega)
  have s26:=md (o + st * (k : Int)) 26 (by decide)
  have sl : ∀ a b, (Txt.slice stem a b).length ≤ 7:=fun a b=>Nat.le_trans (Txt.slice_le stem a b) lenS
  have lz : stem.length ≤ 100000:=by omega
  have l1 : (ltr ((o + st * (k : Int)) % 26)).length = 1:=rfl
  refine ⟨_, [.pl (.int m), .pl (.int c), .pl (.str abc), .pl (.int st), .pl (.int o), .pl (.str stem), .pl (.int at_), .ac (zaa ((pre ++ [k]).map (zib (c % 3) o st stem at_))), .pl (.int (k : Int)), .pl (.str (ltr ((o + st * (k : Int)) % 26)))], rfl, .inl ?_, _, _, rfl⟩
  refine zak (zbq (r:=vs _) (zafv rfl (zjt (zrc rfl (zafq rfl rfl (.inl ⟨by omega, by omega⟩))) rfl (by decide)) s26.1 s26.2)) ?_
  have fin : ∀ x : Str, x = zib (c % 3) o st stem at_ k → (PyData.list ((pre.map (zib (c % 3) o st stem at_)).map PyData.str ++ [.str x])) = zaa ((pre ++ [k]).map (zib (c % 3) o st stem at_)):=fun x e=>by
   unfold zaa
   rw [List.map_append, List.map_append, e]; rfl
  have lp : ((pre.map (zib (c % 3) o st stem at_)).map PyData.str).length < 100000:=by rw [List.length_map, List.length_map]; omega
  by_cases h0 : c % 3 = 0
  ·refine if_t (zcg (by rw [zwc (zjt rfl rfl (by decide)) rfl]; rw [h0]; rfl)) ?_
   have z1:=sl none (some at_)
   have z2:=sl (some at_) none
   refine (zvf rfl (zzd (zzd (zafr rfl rfl (zze rfl) lz) rfl (by omega)) (zafr rfl (zze rfl) rfl lz) (by rw [zph]; omega)) lp).trans ?_
   rw [fin _ (by unfold zib; rw [if_pos h0])]; rfl
  ·refine if_f (zcg (by rw [zwc (zjt rfl rfl (by decide)) rfl]; rw [beq_eq_false_iff_ne.mpr h0])) ?_
   by_cases h1 : c % 3 = 1
   ·refine if_t (zcg (by rw [zwc (zjt rfl rfl (by decide)) rfl]; rw [h1]; rfl)) ?_
    have z1:=sl none (some ((k : Int) * st % ((stem.length : Int) + 1)))
    refine (zvf rfl (zzd (zafr rfl rfl (zze (zjt (zafq rfl rfl (.inr ⟨by omega, by omega⟩)) (zrc (zadq rfl lz) rfl) (by omega))) lz) rfl (by omega)) lp).trans ?_
    rw [fin _ (by unfold zib; rw [if_neg h0, if_pos h1])]; rfl
   ·refine if_f (zcg (by rw [zwc (zjt rfl rfl (by decide)) rfl]; rw [beq_eq_false_iff_ne.mpr h1])) ?_
    have t26:=md (o + (k : Int) / 8) 26 (by decide)
    have u8:=md ((k : Int) * st) 8 (by decide)
    refine (zvf rfl (zadp (zafv rfl (zjt (zrc rfl (zrb rfl rfl (by decide) (by decide))) rfl (by decide)) t26.1 t26.2) (zrc rfl (zjt (zafq rfl rfl (.inr ⟨by omega, by omega⟩)) rfl (by decide))) ⟨by show 1 ≤ 1000; decide, by omega, by omega⟩) lp).trans ?_
    rw [fin _ (by unfold zib; rw [if_neg h0, if_neg h1])]; rfl
 obtain ⟨env', hl, s8, s9, rfl⟩:=loop
 refine ⟨(List.range m.toNat).map (zib (c % 3) o st stem at_), ?_, by simp, zmb fun a b ha hb e=>zzb hmem o26.1 (by omega) (by omega) e, fun x hx=>?_, fun x hx=>?_⟩
 ·refine zgz (env:=[.pl (.int m), .pl (.int c), .no, .no, .no, .no, .no, .no, .no, .no]) rfl (zak rfl (zak s3 (zak (e1:=[.pl (.int m), .pl (.int c), .pl (.str abc), .pl (.int st), .pl (.int o), .no, .no, .no, .no, .no]) (by rw [← hO]; rfl) (zak s5 (zak s6 (zak rfl (zak (ziz (ds:=(List.range m.toNat).map fun (k : Nat)=>PyData.int (k : Int)) (bs:=[]) ?_ hl) rfl)))))))
  unfold zfo
  rw [zhd (r:=vi m) rfl]
  simp only [Option.bind_some]
  rw [if_pos ⟨by omega, by omega⟩, zmd]
 ·obtain ⟨j, _, rfl⟩:=List.mem_map.mp hx
  exact zzc lowS o26.1 st0.1 j
 ·obtain ⟨j, _, rfl⟩:=List.mem_map.mp hx
  have sl : ∀ a b, (Txt.slice stem a b).length ≤ 7:=fun a b=>Nat.le_trans (Txt.slice_le stem a b) lenS
  have l1 : ∀ i, (ltr i).length = 1:=fun _=>rfl
  unfold zib
  split
  ·rw [zph, zph, l1]
   have h1:=sl none (some at_); have h2:=sl (some at_) none
   omega
  ·split
   ·rw [zph, l1]
    have h1:=sl none (some ((j : Int) * st % ((stem.length : Int) + 1)))
    omega
   ·have u8:=md ((j : Int) * st) 8 (by decide)
    unfold ltr
    rw [zyx (by omega)]
    omega
theorem ztn {m c : Int} (m0 : 0 ≤ m) (m16 : m ≤ 16) (c0 : 0 ≤ c) : ∃ xs : List Str, zdz [.int m, .int c] = some (zaa xs, true) ∧ xs.length = m.toNat ∧ xs.Nodup ∧ ∀ x ∈ xs, Low x :=
 let ⟨xs, h1, h2, h3, h4, _⟩:=zrd m0 m16 c0
 ⟨xs, h1, h2, h3, h4⟩
end Bc
namespace Bc
open PySem L2
theorem zzf : WebOk []:=⟨List.nodup_nil, fun i n es e=>by simp at e, fun p hp=>by simp at hp, by simp⟩
theorem zre {W : Web} {p : Str × List Str} (h : WebOk W) (hn : p.1 ∉ nm W) (he : ∀ e ∈ p.2, e ∈ nm W) (hf : p.2.length ≤ 4) (hl : W.length < 12) : WebOk (W ++ [p]):=by
 refine ⟨by rw [zeu]; exact zsz h.nd hn, fun i n es e=>?_, fun q hq=>?_, by simp; omega⟩
 ·by_cases hi : i < W.length
  ·rw [List.getElem?_append_left hi] at e
   rw [List.take_append_of_le_length (by omega)]
   exact h.el i n es e
  ·rw [List.getElem?_append_right (by omega)] at e
   have hi2 : i - W.length = 0:=by
    have:=(List.getElem?_eq_some_iff.mp e).1
    simp at this; omega
   rw [hi2] at e
   cases e
   have : i = W.length:=by omega
   subst this
   rw [List.take_append_of_le_length (Nat.le_refl _), List.take_length]
   exact he
 ·rcases List.mem_append.mp hq with hq | hq
  ·exact h.few q hq
  ·rw [List.mem_singleton.mp hq]; exact hf
theorem zafx (ds : List PyData) (k : Nat) (h : k ≤ ds.length) : cutD ds none (some (k : Int)) = ds.take k:=by
 unfold cutD
 have e1 : HT.sIx ds.length 0 none = 0:=rfl
 rw [e1, HT.sIx_nat]
 simp
theorem zacb {α : Type} (enc : α → PyData) (l : List α) : ztj (l.map enc) = (l.zipIdx).map fun (p : α × Nat)=>PyData.tuple [.int (p.2 : Int), enc p.1]:=by
 unfold ztj
 rw [List.zipIdx_map, List.map_map]; rfl
theorem zadr {α : Type} {l : List α} (nd : l.Nodup) {i j : Nat} {hi : i < l.length} {hj : j < l.length} (e : l[i] = l[j]) : i = j:=by
 rcases Nat.lt_trichotomy i j with h | h | h
 ·exact absurd e (List.pairwise_iff_getElem.mp nd i j hi hj h)
 ·exact h
 ·exact absurd e.symm (List.pairwise_iff_getElem.mp nd j i hj hi h)
theorem zkj {α : Type} : ∀ (l : List α) (i : Nat) (h : i < l.length), (l[i] :: l.eraseIdx i).Perm l
 | [], _, h=>by simp at h
 | a :: l, 0, _=>List.Perm.refl _
 | a :: l, i + 1, h=>by
  have hi : i < l.length:=by simpa using h
  have ih:=zkj l i hi
  show (l[i] :: a :: l.eraseIdx i).Perm (a :: l)
  exact (List.Perm.swap a l[i] _).trans (List.Perm.cons a ih)
theorem zme {α β : Type} (f : α → β) : ∀ (l : List α) (i : Nat), (l.map f).eraseIdx i = (l.eraseIdx i).map f
 | [], _=>rfl
 | _ :: _, 0=>rfl
 | a :: l, i + 1=>by
  show f a :: (l.map f).eraseIdx i = f a :: (l.eraseIdx i).map f
  rw [zme f l i]
theorem zrf {A B C : Sl} {kk : Nat} {nn : Sl} {xs : List Str} (hx : xs.length ≤ 12) : ∀ (t : Nat) (ls es : List Str) (rs : Int) (s8 s9 : Sl), (es ++ ls).Perm xs → t + es.length ≤ 4 → t ≤ ls.length →
  ∃ es' s5 s6 s8' s9', forL (gN 8) (sSeq (sSet 9 (eOp modD (eVar 6) (eCB lenD (zad (eVar 5) aNil)))) (sSeq (sSet 6 (eOp zfc (eVar 6) (eCB lenD (zad (eVar 5) aNil)))) (zfr 7 5 (eVar 9)))) ((List.range' es.length t).map fun (k : Nat)=>PyData.int (k : Int)) [A, B, C, .pl (.int (kk : Int)), nn, .ac (zaa ls), .pl (.int rs), .ac (zaa es), s8, s9] =
   some (.nx [A, B, C, .pl (.int (kk : Int)), nn, s5, s6, .ac (zaa es'), s8', s9']) ∧ es'.Nodup = es'.Nodup ∧ (∃ ls', (es' ++ ls').Perm xs) ∧ es'.length = t + es.length
 | 0, ls, es, rs, s8, s9, pm, _, _=>⟨es, _, _, s8, s9, rfl, rfl, ⟨ls, pm⟩, by simp⟩
 | t + 1, ls, es, rs, s8, s9, pm, h4, hl=>by
  have hls : 0 < ls.length:=by omega
  have pl:=pm.length_eq
  rw [List.length_append] at pl
  have a0:=Int.emod_nonneg rs (show ((ls.length : Nat) : Int) ≠ 0 by omega)
  have a1:=Int.emod_lt_of_pos rs (show (0 : Int) < ((ls.length : Nat) : Int) by omega)
  have hk : (rs % ((ls.length : Nat) : Int)).toNat < ls.length:=by omega
  have e9 : ((rs % ((ls.length : Nat) : Int)).toNat : Int) = rs % ((ls.length : Nat) : Int):=by omega
  generalize eA : (rs % ((ls.length : Nat) : Int)).toNat = at_ at hk e9
  have pm2 : ((es ++ [ls[at_]]) ++ ls.eraseIdx at_).Perm xs:=by
   refine List.Perm.trans ?_ pm
   rw [List.append_assoc]
   exact List.Perm.append_left es (zkj ls at_ hk)
  obtain ⟨es', s5, s6, s8', s9', q, _, hp, hlen⟩:=zrf (A:=A) (B:=B) (C:=C) (kk:=kk) (nn:=nn) hx t (ls.eraseIdx at_) (es ++ [ls[at_]]) (rs / ((ls.length : Nat) : Int)) (.pl (.int (es.length : Int))) (.pl (.int (at_ : Int))) pm2 (by simp; omega) (by rw [List.length_eraseIdx_of_lt hk]; omega)
  refine ⟨es', s5, s6, s8', s9', ?_, rfl, hp, by rw [hlen]; simp; omega⟩
  rw [List.range'_succ, List.map_cons]
  unfold forL
  simp only [gN, Option.bind_some, List.set_cons_succ, List.set_cons_zero]
  have st1 : sSet 9 (eOp modD (eVar 6) (eCB lenD (zad (eVar 5) aNil))) [A, B, C, .pl (.int (kk : Int)), nn, .ac (zaa ls), .pl (.int rs), .ac (zaa es), .pl (.int (es.length : Int)), s9] = some (.nx [A, B, C, .pl (.int (kk : Int)), nn, .ac (zaa ls), .pl (.int rs), .ac (zaa es), .pl (.int (es.length : Int)), .pl (.int (at_ : Int))]):=by
   have:=zbq (i:=9) (zjt (a:=eVar 6) (env:=[A, B, C, .pl (.int (kk : Int)), nn, .ac (zaa ls), .pl (.int rs), .ac (zaa es), .pl (.int (es.length : Int)), s9]) rfl (zmc (a:=eVar 5) rfl) (by rw [List.length_map]; omega))
   rw [this, List.length_map, ← e9]; rfl
  have st2 : sSet 6 (eOp zfc (eVar 6) (eCB lenD (zad (eVar 5) aNil))) [A, B, C, .pl (.int (kk : Int)), nn, .ac (zaa ls), .pl (.int rs), .ac (zaa es), .pl (.int (es.length : Int)), .pl (.int (at_ : Int))] = some (.nx [A, B, C, .pl (.int (kk : Int)), nn, .ac (zaa ls), .pl (.int (rs / ((ls.length : Nat) : Int))), .ac (zaa es), .pl (.int (es.length : Int)), .pl (.int (at_ : Int))]):=by
   have:=zbq (i:=6) (zrb (a:=eVar 6) (env:=[A, B, C, .pl (.int (kk : Int)), nn, .ac (zaa ls), .pl (.int rs), .ac (zaa es), .pl (.int (es.length : Int)), .pl (.int (at_ : Int))]) rfl (zmc (a:=eVar 5) rfl) (by rw [List.length_map]; omega) (by rw [List.length_map]; omega))
   rw [this, List.length_map]; rfl
  have st3 : zfr 7 5 (eVar 9) [A, B, C, .pl (.int (kk : Int)), nn, .ac (zaa ls), .pl (.int (rs / ((ls.length : Nat) : Int))), .ac (zaa es), .pl (.int (es.length : Int)), .pl (.int (at_ : Int))] = some (.nx [A, B, C, .pl (.int (kk : Int)), nn, .ac (zaa (ls.eraseIdx at_)), .pl (.int (rs / ((ls.length : Nat) : Int))), .ac (zaa (es ++ [ls[at_]])), .pl (.int (es.length : Int)), .pl (.int (at_ : Int))]):=by
   simp only [zfr, zaa, eVar, List.getElem?_cons_succ, List.getElem?_cons_zero, Option.bind_some]
   rw [if_pos ⟨by omega, by omega, by rw [List.length_map]; omega, by decide⟩, Int.toNat_natCast, List.getElem?_map, List.getElem?_eq_getElem hk]
   simp [zme]
  rw [zak st1 (zak st2 st3), Option.bind_some]
  rw [show (es ++ [ls[at_]]).length = es.length + 1 by simp] at q
  exact q
theorem zzg {cs : List Int} {xs : List Str} (hle : xs.length ≤ cs.length) (h12 : xs.length ≤ 12) (nd : xs.Nodup) : ∃ W, zhx [zbv cs, zaa xs] = some (webD W, true) ∧ nm W = xs ∧ WebOk W:=by
 have loop : ∃ env', forL (gT 2 (zcf 3 (zcf 4 zjr))) (sSeq (sSet 5 (eSl (eVar 1) ziw (zet (eVar 3))))
  (sSeq (sSet 6 (eOp zfc (eIxV 0 (eVar 3)) (eC (.int 5))))
  (sSeq (sSet 7 (eLst aNil))
  (sSeq (sFor (zfo (zad (eCB minD (zad (eOp modD (eIxV 0 (eVar 3)) (eC (.int 5))) (zad (eVar 3) aNil))) aNil)) (gN 8)
  (sSeq (sSet 9 (eOp modD (eVar 6) (eCB lenD (zad (eVar 5) aNil))))
  (sSeq (sSet 6 (eOp zfc (eVar 6) (eCB lenD (zad (eVar 5) aNil))))
  (zfr 7 5 (eVar 9)))))
  (sApp 2 (eTup (zad (eVar 4) (zad (eVar 7) aNil)))))))) ((xs.zipIdx).map fun (p : Str × Nat)=>PyData.tuple [.int (p.2 : Int), .str p.1]) [.pl (zbv cs), .pl (zaa xs), .ac (webD []), .no, .no, .no, .no, .no, .no, .no] = some (.nx env') ∧
   ∃ W s3 s4 s5 s6 s7 s8 s9, env' = [.pl (zbv cs), .pl (zaa xs), .ac (webD W), s3, s4, s5, s6, s7, s8, s9] ∧ nm W = (xs.zipIdx).map (fun p : Str × Nat=>p.1) ∧ WebOk W:=by
  refine zcq (fun pre env=>∃ W s3 s4 s5 s6 s7 s8 s9, env = [.pl (zbv cs), .pl (zaa xs), .ac (webD W), s3, s4, s5, s6, s7, s8, s9] ∧ nm W = pre.map (fun p : Str × Nat=>p.1) ∧ WebOk W) ⟨[], _, _, _, _, _, _, _, rfl, rfl, zzf⟩ ?_
  rintro pre ⟨n, i⟩ post env hp ⟨W, s3, s4, s5, s6, s7, s8, s9, rfl, hnm, ok⟩
  have hz : (xs.zipIdx)[pre.length]? = some (n, i):=by rw [← hp]; simp
  rw [List.getElem?_zipIdx] at hz
  have hi : i = pre.length ∧ xs[pre.length]? = some n:=by
   cases e : xs[pre.length]? with
   | none=>rw [e] at hz; cases hz
   | some y=>rw [e] at hz; simp at hz; exact ⟨by omega, by rw [hz.1]⟩
  obtain ⟨rfl, hn⟩:=hi
  have hix : pre.length < xs.length:=(List.getElem?_eq_some_iff.mp hn).1
  have hic : pre.length < cs.length:=by omega
  have hpre : pre.map (fun p : Str × Nat=>p.1) = xs.take pre.length:=by
   have e1 : (xs.zipIdx).map (fun p : Str × Nat=>p.1) = xs:=List.zipIdx_map_fst 0 xs
   have e2:=congrArg (fun l : List (Str × Nat)=>(l.map (fun p : Str × Nat=>p.1)).take pre.length) hp
   simp only [e1] at e2
   rw [← e2, List.map_append, List.take_append_of_le_length (by simp), ← List.map_take, List.take_length]
  have hWl : W.length = pre.length:=by
   have:=congrArg List.length hnm
   unfold nm at this
   simpa using this
  have gc : ∀ {env : DEnv}, env[0]? = some (.pl (zbv cs)) → env[3]? = some (.pl (.int (pre.length : Int))) → eIxV 0 (eVar 3) env = some (vi cs[pre.length]):=fun {env} h0 h3 =>
   zafs (ds:=cs.map .int) h0 (by unfold eVar; rw [h3]) (by rw [List.getElem?_map, List.getElem?_eq_getElem hic]; rfl)
  have m5:=Int.emod_nonneg cs[pre.length] (show (5 : Int) ≠ 0 by decide)
  have m5':=Int.emod_lt_of_pos cs[pre.length] (show (0 : Int) < 5 by decide)
  generalize eN : (if ((pre.length : Nat) : Int) < cs[pre.length] % 5 then ((pre.length : Nat) : Int) else cs[pre.length] % 5) = N
  have hN : 0 ≤ N ∧ N ≤ pre.length ∧ N ≤ 4:=by rw [← eN]; split <;> omega
  have tl : (xs.take pre.length).length = pre.length:=by rw [List.length_take]; omega
  obtain ⟨es, s5', s6', s8', s9', q, _, ⟨ls, pm⟩, hes⟩:=zrf (A:=.pl (zbv cs)) (B:=.pl (zaa xs)) (C:=.ac (webD W)) (kk:=pre.length) (nn:=.pl (.str n)) (xs:=xs.take pre.length) (by omega) N.toNat (xs.take pre.length) [] (cs[pre.length] / 5) s8 s9 (List.Perm.refl _) (by simp; omega) (by omega)
  have ndT : (xs.take pre.length).Nodup:=nd.sublist (List.take_sublist _ _)
  have ndE : es.Nodup:=(List.nodup_append.mp (pm.nodup_iff.mpr ndT)).1
  have subE : ∀ e ∈ es, e ∈ nm W:=fun e he=>by rw [hnm, hpre]; exact pm.mem_iff.mp (List.mem_append_left _ he)
  have nW : n ∉ nm W:=by
   rw [hnm, hpre]
   intro hm
   obtain ⟨j, hj, ej⟩:=List.getElem_of_mem hm
   rw [List.getElem_take] at ej
   obtain ⟨hh, en⟩:=List.getElem?_eq_some_iff.mp hn
   have:=zadr nd (ej.trans en.symm)
   rw [tl] at hj
   omega
  refine ⟨_, [.pl (zbv cs), .pl (zaa xs), .ac (webD (W ++ [(n, es)])), .pl (.int (pre.length : Int)), .pl (.str n), s5', s6', .pl (zaa es), s8', s9'], rfl, .inl ?_, W ++ [(n, es)], _, _, _, _, _, _, _, rfl, by rw [zeu, hnm]; simp, zre ok nW subE (by rw [hes]; simp; omega) (by omega)⟩
  have st5 : sSet 5 (eSl (eVar 1) ziw (zet (eVar 3))) [.pl (zbv cs), .pl (zaa xs), .ac (webD W), .pl (.int (pre.length : Int)), .pl (.str n), s5, s6, s7, s8, s9] = some (.nx [.pl (zbv cs), .pl (zaa xs), .ac (webD W), .pl (.int (pre.length : Int)), .pl (.str n), .ac (zaa (xs.take pre.length)), s6, s7, s8, s9]):=by
   have : eSl (eVar 1) ziw (zet (eVar 3)) [.pl (zbv cs), .pl (zaa xs), .ac (webD W), .pl (.int (pre.length : Int)), .pl (.str n), s5, s6, s7, s8, s9] = some ⟨zaa (xs.take pre.length), true, []⟩:=by
    simp only [eSl, eVar, ziw, zet, List.getElem?_cons_succ, List.getElem?_cons_zero, Option.bind_some, zaa, slD]
    rw [zafx _ _ (by rw [List.length_map]; omega), ← List.map_take]
    simp [bsOf, zdv]
   exact zbq this
  refine zak st5 (zak (zbq (r:=vi _) (zrb (gc rfl rfl) rfl (by decide) (by decide))) (zak rfl (zak (ziz (ds:=(List.range' ([] : List Str).length N.toNat).map fun (k : Nat)=>PyData.int (k : Int)) (bs:=[]) ?_ q) ?_)))
  ·have : eCB minD (zad (eOp modD (eIxV 0 (eVar 3)) (eC (.int 5))) (zad (eVar 3) aNil)) [.pl (zbv cs), .pl (zaa xs), .ac (webD W), .pl (.int (pre.length : Int)), .pl (.str n), .ac (zaa (xs.take pre.length)), .pl (.int (cs[pre.length] / 5)), .ac (.list []), s8, s9] = some (vi N):=by
    unfold eCB zad
    rw [zjt (gc rfl rfl) (j:=5) rfl (by decide)]
    show ((minD [.int (cs[pre.length] % 5), .int ((pre.length : Nat) : Int)]).bind fun z=>some (⟨z.1, z.2, bsOf z.1 _⟩ : Val)) = _
    unfold minD
    simp only [Option.bind_some]
    rw [eN]; rfl
   show zfo _ [.pl (zbv cs), .pl (zaa xs), .ac (webD W), .pl (.int (pre.length : Int)), .pl (.str n), .ac (zaa (xs.take pre.length)), .pl (.int (cs[pre.length] / 5)), .ac (.list []), s8, s9] = _
   unfold zfo
   rw [zhd this]
   simp only [Option.bind_some]
   rw [if_pos ⟨by omega, by omega⟩, zmd, List.range_eq_range']
   rfl
  ·have lz : (W.map rowD).length < 100000:=by rw [List.length_map]; omega
   simp only [sApp, webD, eTup, zad, aNil, eVar, List.getElem?_cons_succ, List.getElem?_cons_zero, Option.bind_some, Option.map_some, zje, bss]
   rw [if_pos (by simp)]
   simp only [Option.bind_some]
   rw [if_pos ⟨lz, by simp⟩]
   simp [frzs, frz1, rowD, zaa]
 obtain ⟨env', hl, W, s3, s4, s5, s6, s7, s8, s9, rfl, hnm, ok⟩:=loop
 refine ⟨W, zgz (env:=[.pl (zbv cs), .pl (zaa xs), .no, .no, .no, .no, .no, .no, .no, .no]) rfl (zak rfl (zak (ziz (ds:=(xs.zipIdx).map fun (p : Str × Nat)=>PyData.tuple [.int (p.2 : Int), .str p.1]) (bs:=[]) ?_ hl) rfl)), hnm.trans (List.zipIdx_map_fst 0 xs), ok⟩
 unfold zuz
 rw [zhd (r:=⟨zaa xs, false, []⟩) rfl]
 simp only [Option.bind_some, zaa]
 rw [zacb]
end Bc
namespace Bc
open PySem L2
section
variable {a b : EF} {env : DEnv} {x y : Str}
theorem zajh (ha : a env = some (vs x)) (hb : b env = some (vs y)) : eOp neD a b env = some (vb (!(x == y))):=by
 unfold eOp; rw [ha, hb]; rfl
theorem zaie (ha : a env = some (vs x)) (hb : b env = some (vs y)) : eOp eqD a b env = some (vb (x == y)):=by
 unfold eOp; rw [ha, hb]; rfl
theorem e_in {neg : Bool} {xs : List Str} {fr : Bool} {bs : List Nat} (ha : a env = some (vs x)) (hb : b env = some ⟨zaa xs, fr, bs⟩) : eOp (inD neg) a b env = some (vb (if neg then !decide (x ∈ xs) else decide (x ∈ xs))):=by
 unfold eOp; rw [ha, hb]; simp [zyr, bsOf, zdv]
theorem zrg {k : Nat} {kvs : List (PyData × PyData)} {d : PyData} (he : env[k]? = some (.pl (.dict kvs)) ∨ env[k]? = some (.ac (.dict kvs))) (hb : b env = some (vs y)) (hd : ziv kvs (Sum.inr y) = some d) : zan k b env = some ⟨d, false, []⟩:=by
 unfold zan
 rcases he with he | he <;> rw [he] <;> simp only <;> rw [hb] <;> simp [keyD, hd]
theorem zob {neg : Bool} {ks : List Str} {fr : Bool} {bs : List Nat} (ha : a env = some (vs x)) (hb : b env = some ⟨zat ks, fr, bs⟩) : eDIn neg a b env = some (vb (if neg then !decide (x ∈ ks) else decide (x ∈ ks))):=by
 unfold eDIn; rw [ha, hb]; simp [zat, keyD, zqy]
theorem zzh {α : Type} {l : List α} (h : l ≠ []) : atI l (-1) = some (l.getLast h):=by
 have:=zaax l.dropLast (l.getLast h)
 rwa [List.dropLast_concat_getLast h] at this
theorem zafy {k : Nat} {ds : List PyData} (he : env[k]? = some (.pl (.list ds))) (h : ds ≠ []) : eIxV k (eNeg (eC (.int 1))) env = some ⟨ds.getLast h, false, []⟩:=by
 unfold eIxV
 rw [he]
 unfold eOp eVar eNeg eC
 rw [he]
 simp only [Option.bind_some, ixD]
 rw [zzh h]
 simp [bsOf]
theorem zafz {k : Nat} {ds : List PyData} (he : env[k]? = some (.ac (.list ds))) (h : ds ≠ []) : eIxV k (eNeg (eC (.int 1))) env = some ⟨ds.getLast h, false, []⟩:=by
 unfold eIxV eNeg eC
 rw [he]
 simp only [Option.bind_some]
 rw [zzh h]; rfl
end
theorem zzi : ∀ (W : Web), (nm W).Nodup → zgc [] (dS zaa W) = dS zaa W:=by
 refine zki (fun _=>rfl) fun W p ih h=>?_
 rw [zeu] at h
 have e : dS zaa (W ++ [p]) = dS zaa W ++ [(.str p.1, zaa p.2)]:=by unfold dS; rw [List.map_append]; rfl
 rw [e]
 unfold zgc at ih ⊢
 rw [List.foldl_append, ih (List.nodup_append.mp h).1, ← e]
 exact ztm zaa fun hm=>(List.nodup_append.mp h).2.2 p.1 hm p.1 (by simp) rfl
theorem zrh : ∀ (W : Web), znz (W.map rowD) = some (dS zaa W)
 | []=>rfl
 | p :: W=>by
  rw [List.map_cons]
  unfold rowD znz
  simp only [keyD, Option.bind_some]
  rw [show W.map (fun p=>PyData.tuple [.str p.1, zaa p.2]) = W.map rowD from rfl, zrh W]
  rfl
theorem zacc {W : Web} (h : (nm W).Nodup) : ztl [webD W] = some (.dict (dS zaa W), true):=by
 unfold ztl webD
 simp only
 rw [zrh, Option.map_some, zzi W h]
theorem zri {n : Str} {es : List Str} : ∀ {W : Web}, W.lookup n = some es → W[(nm W).idxOf n]? = some (n, es)
 | [], h=>by cases h
 | (a, b) :: W, h=>by
  rw [List.lookup_cons] at h
  show ((a, b) :: W)[(a :: nm W).idxOf n]? = _
  rw [List.idxOf_cons]
  cases e : n == a with
  | true =>
   rw [e] at h
   cases h
   rw [← eq_of_beq e]
   simp
  | false =>
   rw [e] at h
   have hne : (a == n) = false:=by
    have:=beq_eq_false_iff_ne.mp e
    exact beq_eq_false_iff_ne.mpr (Ne.symm this)
   rw [hne]
   simpa using zri (W:=W) h
theorem zacd {l : List Str} {n : Nat} {x : Str} (h : x ∈ l.take n) : l.idxOf x < n:=by
 have : l.idxOf x = (l.take n).idxOf x:=by
  conv=>lhs; rw [← List.take_append_drop n l]
  rw [List.idxOf_append, if_pos h]
 rw [this]
 have h2:=List.idxOf_lt_length_of_mem h
 rw [List.length_take] at h2
 omega
theorem zoc {W : Web} (h : WebOk W) {n e : Str} (he : e ∈ upL W n) : e ∈ nm W ∧ (nm W).idxOf e < (nm W).idxOf n:=by
 unfold upL at he
 cases hl : W.lookup n with
 | none=>rw [hl] at he; simp at he
 | some es =>
  rw [hl] at he
  have hi:=zri hl
  have q:=h.el _ _ _ hi e he
  have : nm (W.take ((nm W).idxOf n)) = (nm W).take ((nm W).idxOf n):=by unfold nm; rw [List.map_take]
  rw [this] at q
  exact ⟨List.mem_of_mem_take q, zacd q⟩
theorem zmf {W : Web} {n : Str} (h : n ∈ nm W) : ∃ es, W.lookup n = some es ∧ (n, es) ∈ W:=zhb (l:=W) (n:=n) h
theorem zrj {W : Web} (h : WebOk W) {n x : Str} (hn : n ∈ nm W) : x ∈ up W n ↔ x = n ∨ ∃ e ∈ upL W n, x ∈ up W e:=by
 obtain ⟨es, hl, hm⟩:=zmf hn
 rw [zado h hm]
 unfold upL
 rw [hl]; rfl
noncomputable def Walk (W : Web) : Str → List Str → Str → Prop
 | c, [], o=>c = o
 | c, d :: q, o=>d ∈ upL W c ∧ Walk W d q o
theorem zfh {W : Web} {n : Str} (h : n ∈ nm W) : (ups W).lookup n = some (up W n):=by
 obtain ⟨ks, e, _⟩:=zhb (l:=ups W) (n:=n) (by rw [zha]; exact h)
 unfold up upL
 rw [e]; rfl
noncomputable abbrev zaif : TF:=zar (eOp neD (eIxV 5 (eNeg (eC (.int 1)))) (eVar 2))
noncomputable abbrev zaga : SF:=sSeq (sSet 6 (zcw ["elder"] [2, 3] (zaq (zan 4 (eIxV 5 (eNeg (eC (.int 1)))))) (gN 0) (zar (eDIn false (eVar 1) (zan 2 (eVar 0)))) (eVar 0))) (sApp 5 (eIxV 6 (eC (.int 0))))
theorem zod {W : Web} (h : WebOk W) {k o : Str} : ∀ (m : Nat) (pre : List Str) (c : Str) (s6 : Sl), (nm W).idxOf c < m → c ∈ nm W → o ∈ up W c → pre.length + (nm W).idxOf c < 1000 →
  ∃ q s6', zhu zaif zaga m [.pl (webD W), .pl (.str k), .pl (.str o), .ac (.dict (dS zat (ups W))), .ac (.dict (dS zaa W)), .ac (zaa (pre ++ [c])), s6] =
   some (.nx [.pl (webD W), .pl (.str k), .pl (.str o), .ac (.dict (dS zat (ups W))), .ac (.dict (dS zaa W)), .ac (zaa (pre ++ c :: q)), s6']) ∧ Walk W c q o ∧ q.length ≤ (nm W).idxOf c
 | 0, _, _, _, hm, _, _, _=>by omega
 | m + 1, pre, c, s6, hm, hc, ho, hpl=>by
  have ne : (pre ++ [c]).map PyData.str ≠ []:=by simp
  have lst : ((pre ++ [c]).map PyData.str).getLast ne = .str c:=by rw [List.getLast_map]; simp
  have e5 : ∀ s6, eIxV 5 (eNeg (eC (.int 1))) [.pl (webD W), .pl (.str k), .pl (.str o), .ac (.dict (dS zat (ups W))), .ac (.dict (dS zaa W)), .ac (zaa (pre ++ [c])), s6] = some (vs c):=fun s6=>by
   rw [zafz (ds:=(pre ++ [c]).map PyData.str) rfl ne, lst]
  have ec : zaif [.pl (webD W), .pl (.str k), .pl (.str o), .ac (.dict (dS zat (ups W))), .ac (.dict (dS zaa W)), .ac (zaa (pre ++ [c])), s6] = some (!(c == o)):=zcg (zajh (e5 s6) rfl)
  by_cases hco : c = o
  ·refine ⟨[], s6, ?_, hco, Nat.zero_le _⟩
   unfold zhu
   rw [ec, hco, beq_self_eq_true]
   rfl
  ·obtain ⟨es, hl, hmem⟩:=zmf hc
   have eu : upL W c = es:=by unfold upL; rw [hl]; rfl
   have hex : ∃ e ∈ es, o ∈ up W e:=by
    rcases (zrj h hc).mp ho with z | ⟨e, he, hz⟩
    ·exact absurd z.symm hco
    ·exact ⟨e, by rw [← eu]; exact he, hz⟩
   have cp : zfd (gN 0) (zar (eDIn false (eVar 1) (zan 2 (eVar 0)))) (eVar 0) [.no, .pl (.str o), .pl (.dict (dS zat (ups W)))] (es.map .str) = some ((es.filter fun e=>decide (o ∈ up W e)).map PyData.str) :=
    zbx (fun e=>decide (o ∈ up W e)) fun e he=>by
     have hen : e ∈ nm W:=(zoc h (by rw [eu]; exact he)).1
     refine ⟨[.pl (.str e), .pl (.str o), .pl (.dict (dS zat (ups W)))], rfl, zcg ?_, fun _=>⟨vs e, rfl, rfl⟩⟩
     exact zob rfl (zrg (d:=zat (up W e)) (.inl rfl) rfl (by rw [zge, zfh hen]; rfl))
   generalize hf : es.filter (fun e=>decide (o ∈ up W e)) = fs at cp
   have hfs : fs ≠ []:=by
    obtain ⟨e, he, hz⟩:=hex
    rw [← hf]
    exact List.ne_nil_of_mem (List.mem_filter.mpr ⟨he, decide_eq_true hz⟩)
   obtain ⟨d, ds, rfl⟩ : ∃ d ds, fs = d :: ds:=by
    cases fs with
    | nil=>exact absurd rfl hfs
    | cons d ds=>exact ⟨d, ds, rfl⟩
   have hd : d ∈ es ∧ o ∈ up W d:=by
    have : d ∈ es.filter (fun e=>decide (o ∈ up W e)):=by rw [hf]; exact List.mem_cons_self
    obtain ⟨z1, z2⟩:=List.mem_filter.mp this
    exact ⟨z1, of_decide_eq_true z2⟩
   obtain ⟨dn, dl⟩:=zoc h (show d ∈ upL W c by rw [eu]; exact hd.1)
   obtain ⟨q, s6', ih, hw, hq⟩:=zod h (k:=k) m (pre ++ [c]) d (.ac (zaa (d :: ds))) (by omega) dn hd.2 (by simp; omega)
   refine ⟨d :: q, s6', ?_, ⟨by rw [eu]; exact hd.1, hw⟩, by simp; omega⟩
   have st6 : sSet 6 (zcw ["elder"] [2, 3] (zaq (zan 4 (eIxV 5 (eNeg (eC (.int 1)))))) (gN 0) (zar (eDIn false (eVar 1) (zan 2 (eVar 0)))) (eVar 0)) [.pl (webD W), .pl (.str k), .pl (.str o), .ac (.dict (dS zat (ups W))), .ac (.dict (dS zaa W)), .ac (zaa (pre ++ [c])), s6] =
     some (.nx [.pl (webD W), .pl (.str k), .pl (.str o), .ac (.dict (dS zat (ups W))), .ac (.dict (dS zaa W)), .ac (zaa (pre ++ [c])), .ac (zaa (d :: ds))]):=by
    have gi : zaq (zan 4 (eIxV 5 (eNeg (eC (.int 1))))) [.pl (webD W), .pl (.str k), .pl (.str o), .ac (.dict (dS zat (ups W))), .ac (.dict (dS zaa W)), .ac (zaa (pre ++ [c])), s6] = some (es.map .str, []):=by
     unfold zaq
     rw [zrg (d:=zaa es) (.inr rfl) (e5 s6) (by rw [zge, hl]; rfl)]; rfl
    have hes4:=h.few _ hmem
    have:=zbq (i:=6) (zft (own:=["elder"]) (fr:=[2, 3]) gi (by rw [List.length_map]; show es.length < 100000; have : es.length ≤ 4:=hes4; omega) cp)
    rw [this, if_pos (zim _)]
    rfl
   have st5 : sApp 5 (eIxV 6 (eC (.int 0))) [.pl (webD W), .pl (.str k), .pl (.str o), .ac (.dict (dS zat (ups W))), .ac (.dict (dS zaa W)), .ac (zaa (pre ++ [c])), .ac (zaa (d :: ds))] =
     some (.nx [.pl (webD W), .pl (.str k), .pl (.str o), .ac (.dict (dS zat (ups W))), .ac (.dict (dS zaa W)), .ac (zaa (pre ++ [c] ++ [d])), .ac (zaa (d :: ds))]):=by
    rw [zvf (ds:=(pre ++ [c]).map PyData.str) (d:=.str d) (fr:=false) rfl (zajg (n:=0) rfl rfl rfl) (by rw [List.length_map]; simp; omega)]
    simp [zaa]
   unfold zhu
   rw [ec, beq_eq_false_iff_ne.mpr hco, Option.bind_some]
   show ((zaga _).bind _) = _
   rw [show zaga [.pl (webD W), .pl (.str k), .pl (.str o), .ac (.dict (dS zat (ups W))), .ac (.dict (dS zaa W)), .ac (zaa (pre ++ [c])), s6] = _ from zak st6 st5, Option.bind_some]
   have e2 : pre ++ [c] ++ d :: q = pre ++ c :: d :: q:=by simp
   rw [e2] at ih
   exact ih
theorem chk2 {W : Web} (h : WebOk W) {k o : Str} (hk : k ∈ nm W) (ho : o ∈ nm W) {env : DEnv} (h0 : env[0]? = some (.pl (webD W))) (h1 : env[1]? = some (.pl (.str k))) (h2 : env[2]? = some (.pl (.str o))) :
  zjq (zaw 2 zbb (zad (eVar 0) (zad (eLst (zad (eVar 1) (zad (eVar 2) aNil))) aNil))) env = some (.nx env):=by
 refine zlv (r:=⟨.none, false, []⟩) ?_
 have e0 : eVar 0 env = some ⟨webD W, false, []⟩:=by unfold eVar; rw [h0]
 have e1 : eVar 1 env = some (vs k):=by unfold eVar; rw [h1]
 have e2 : eVar 2 env = some (vs o):=by unfold eVar; rw [h2]
 have ea : zad (eVar 0) (zad (eLst (zad (eVar 1) (zad (eVar 2) aNil))) aNil) env = some [⟨webD W, false, []⟩, ⟨zaa [k, o], true, []⟩]:=by
  simp only [zad, eLst, aNil]
  rw [e0, e1, e2]
  rfl
 have hw : W.length < 100000:=by have:=h.len; omega
 rw [zay (n:=2) ea rfl (zds hw (ns:=[k, o]) (by intro n hn; simp at hn; rcases hn with rfl | rfl <;> assumption))]
 rfl
theorem zaig {W : Web} (h : WebOk W) {k o : Str} (hk : k ∈ nm W) (ho : o ∈ nm W) :
  (o ∉ up W k → zku [webD W, .str k, .str o] = some (.none, false)) ∧ (o ∈ up W k → ∃ q, zku [webD W, .str k, .str o] = some (zaa (k :: q), true) ∧ Walk W k q o ∧ q.length < W.length):=by
 have s3 : sSet 3 (zaw 1 zbw (zad (eVar 0) aNil)) [.pl (webD W), .pl (.str k), .pl (.str o), .no, .no, .no, .no] = some (.nx [.pl (webD W), .pl (.str k), .pl (.str o), .ac (.dict (dS zat (ups W))), .no, .no, .no]) :=
  zbq (r:=⟨.dict (dS zat (ups W)), true, []⟩) (zay (rs:=[⟨webD W, false, []⟩]) rfl rfl (zgm h))
 have tst : zar (eDIn true (eVar 2) (zan 3 (eVar 1))) [.pl (webD W), .pl (.str k), .pl (.str o), .ac (.dict (dS zat (ups W))), .no, .no, .no] = some (!decide (o ∈ up W k)) :=
  zcg (zob rfl (zrg (d:=zat (up W k)) (.inr rfl) rfl (by rw [zge, zfh hk]; rfl)))
 refine ⟨fun hn=>?_, fun hy=>?_⟩
 ·rw [decide_eq_false hn] at tst
  exact zgz (env:=[.pl (webD W), .pl (.str k), .pl (.str o), .no, .no, .no, .no]) rfl (zak (chk2 h hk ho rfl rfl rfl) (zak s3 (zadm (if_t tst rfl))))
 ·rw [decide_eq_true hy] at tst
  have hidx : (nm W).idxOf k < W.length:=by have:=List.idxOf_lt_length_of_mem hk; unfold nm at this ⊢; rwa [List.length_map] at this
  have hW:=h.len
  obtain ⟨q, s6', hwh, hw, hq⟩:=zod h (k:=k) (o:=o) 1000 [] k .no (by omega) hk hy (by simp; omega)
  refine ⟨q, ?_, hw, by omega⟩
  have s4 : sSet 4 (eCB ztl (zad (eVar 0) aNil)) [.pl (webD W), .pl (.str k), .pl (.str o), .ac (.dict (dS zat (ups W))), .no, .no, .no] = some (.nx [.pl (webD W), .pl (.str k), .pl (.str o), .ac (.dict (dS zat (ups W))), .ac (.dict (dS zaa W)), .no, .no]):=by
   refine zbq (r:=⟨.dict (dS zaa W), true, []⟩) ?_
   unfold eCB
   rw [zhd (r:=⟨webD W, false, []⟩) rfl]
   show ((ztl [webD W]).bind _) = _
   rw [zacc h.nd]; rfl
  exact zgz (env:=[.pl (webD W), .pl (.str k), .pl (.str o), .no, .no, .no, .no]) rfl (zak (chk2 h hk ho rfl rfl rfl) (zak s3 (zak (if_f tst rfl) (zak s4 (zak rfl (zak hwh rfl))))))
end Bc
namespace Bc
open PySem L2
theorem zdt {a : EF} {f : AF} {env : DEnv} {r : Val} {rs : List Val} (ha : a env = some r) (hf : f env = some rs) : zad a f env = some (r :: rs):=by unfold zad; rw [ha, hf]; rfl
theorem zkv {f : EF} {env : DEnv} {c : Bool} (h : f env = some (vb c)) : zcr (tTru f) env = some (!c):=by unfold zcr tTru; rw [h]; rfl
end Bc
namespace Bc
open PySem L2
theorem zace (cs : List Int) (a b : Nat) (h : b ≤ cs.length) (hab : a ≤ b) : cutD (cs.map .int) (some (a : Int)) (some (b : Int)) = ((cs.drop a).take (b - a)).map .int:=by
 unfold cutD
 have e1 : min a cs.length = a:=by omega
 have e2 : min b cs.length = b:=by omega
 rw [HT.sIx_nat, HT.sIx_nat, List.length_map, e1, e2, ← List.map_drop, ← List.map_take]
theorem zzj {env : DEnv} {cs : List Int} {b : EF} {n : Nat} (h1 : env[1]? = some (.pl (zbv cs))) (hb : b env = some (vi (n : Int))) (hn : n < cs.length) : eIxV 1 b env = some (vi (cs[n]'hn)) :=
 zafs (ds:=cs.map .int) h1 hb (by rw [List.getElem?_map, List.getElem?_eq_getElem hn]; rfl)
theorem zvg : ∀ (xs : List Str), (∀ x ∈ xs, PyData.strOk x = true) → PyData.canLayAll0 (xs.map .str) = true ∧ PyData.depthAll (xs.map .str) = 0
 | [], _=>⟨rfl, rfl⟩
 | x :: xs, h=>by
  obtain ⟨h1, h2⟩:=zvg xs fun y hy=>h y (List.mem_cons_of_mem _ hy)
  rw [List.map_cons]
  refine ⟨?_, ?_⟩
  ·show (PyData.strOk x && PyData.canLayAll0 (xs.map .str)) = true
   rw [h x List.mem_cons_self, h1]; rfl
  ·show max 0 (PyData.depthAll (xs.map .str)) = 0
   rw [h2]; rfl
end Bc
namespace L2
open PySem PySem.Spec PyProof.Rows
section
variable {X : Cx}
end
end L2
namespace L2
open PySem PySem.Spec PyProof.Rows
end L2
namespace PySem
open Sem (wp)
end PySem
namespace L2
open PySem PySem.Spec PyProof.Rows
instance memKey (k : Key) (l : List Key) : Decidable (k ∈ l):=decidable_of_iff (∃ x, x ∈ l ∧ x = k) ⟨fun ⟨x, h, e⟩=>e ▸ h, fun h=>⟨k, h, rfl⟩⟩
noncomputable def unl (seen : List Key) : List Key → Nat
 | []=>0
 | k :: ks=>(if k ∈ seen then 0 else 1) + unl (k :: seen) ks
end L2
namespace L2
open PySem PySem.Spec PyProof.Rows
noncomputable def zaih : List PyData → Option (List Key)
 | []=>some []
 | d :: ds=>(keyD d).bind fun k=>(zaih ds).map fun ks=>k :: ks
noncomputable def zaji (f : EF) : EF:=fun env=>(f env).bind fun r=>match r.d with
 | .list ds=>(zaih ds).bind fun ks=>if ds.length < 4000 then some ⟨.int (unl [] ks), false, []⟩ else none
 | _=>none
noncomputable def tidy (r : Val) : Val:=match r with
 | ⟨.list ds, true, bs⟩=>if zdw ds = true then ⟨.list ds, true, []⟩ else ⟨.list ds, true, bs⟩
 | r=>r
noncomputable def zto (f : EF) : EF:=fun env=>(f env).map tidy
theorem zzk {te : TE} {f : EF} (h : SE te f) : SE te (zto f):=by
 intro fx H0 env σ H hE rr hr Q q
 obtain ⟨r, er, rfl⟩:=Option.map_eq_some_iff.mp hr
 refine h fx H0 env σ H hE r er Q fun v H1 s1 hv=>q v H1 s1 ?_
 unfold tidy
 split
 ·rename_i ds bs
  split
  ·rename_i fl
   obtain ⟨a, rfl, na, vs, e, r⟩:=hv.fr rfl
   have nl : ¬ lim fx env σ [] a:=fun z=>by
    obtain ⟨o, eo⟩:=hE.lims _ a z
    rw [na] at eo; cases eo
   exact ⟨zdx (by rw [Offs.get nl]; exact e) (zhv fl r), fun _=>⟨a, rfl, na, vs, e, zhv fl r⟩⟩
  ·exact hv
 ·exact hv
end L2
namespace Bc
open PySem L2
noncomputable def zoe : SF:=(sSeq (sIf (tTru (eIsi "tuple" (eVar 0))) (sRet (eCB zabp (zad (eVar 0) aNil))) sNil)
  (sRet (eLst (zad (eVar 0) aNil))))
noncomputable def zdk : GF:=fnD 1 zoe
noncomputable def zrk : SF:=(sSeq (sSet 2 zabo)
  (sSeq (sFor (zaq (zaw 1 zdk (zad (eVar 1) aNil))) (gN 3)
  (sUpd 2 (zan 0 (eVar 3))))
  (znk 2)))
noncomputable def zfu : GF:=fnD 4 zrk
noncomputable def zzl : SF:=(sSeq (zjq (zaw 2 zbb (zad (eVar 0) (zad (zaw 1 zdk (zad (eVar 1) aNil)) aNil))))
  (sSeq (sSet 2 (zaw 2 zfu (zad (zaw 1 zbw (zad (eVar 0) aNil)) (zad (eVar 1) aNil))))
  (sRet (zcw ["name"] [2] (zaq (zaw 1 zcs (zad (eVar 0) aNil))) (gN 0) (zar (eDIn false (eVar 0) (eVar 1))) (eVar 0)))))
noncomputable def zew : GF:=fnD 3 zzl
noncomputable def zzm : SF:=(sSeq (zjq (zaw 2 zbb (zad (eVar 0) (zad (eLst (zad (eVar 1) (zad (eVar 2) aNil))) aNil))))
  (sSeq (sSet 3 (zaw 2 zew (zad (eVar 0) (zad (eVar 1) aNil))))
  (sSeq (sIf (zar (eOp (inD false) (eVar 2) (eVar 3))) (sRet (eC .none)) sNil)
  (znk 3))))
noncomputable def zic : GF:=fnD 4 zzm
noncomputable def zmg : SF:=(sSeq (sIf (tOrF (zcr (tTru (eIsi "list" (eVar 3)))) (tOrF (zar (eOp (inD true) (eVar 1) (eVar 3))) (zar (eOp (inD false) (eVar 2) (eVar 3))))) (sRet (eC (.bool false))) sNil)
  (sSeq (sSet 4 (eC (.int 0)))
  (sSeq (sFor (zaq (eVar 0)) (gT 2 (zcf 5 (zcf 6 zjr)))
  (sIf (zar (eOp (inD false) (eVar 5) (eVar 3))) (sSeq (sSet 4 (eOp addD (eVar 4) (eC (.int 1))))
  (sIf (zcr (tTru (eCB (anyD fun bs=>bs.all id) (zad (zcw ["_law_elder"] [3] (zaq (eVar 6)) (gN 0) zhk (eOp (inD false) (eVar 0) (eVar 1))) aNil)))) (sRet (eC (.bool false))) sNil)) sNil))
  (sRet (eOp eqD (eVar 4) (eCB lenD (zad (eVar 3) aNil)))))))
noncomputable def zea : GF:=fnD 7 zmg
end Bc
namespace Bc
open PySem L2
noncomputable def hdg (W : Web) (n : Str) : List Str:=(nm W).filter fun x=>decide (x ∈ up W n)
theorem zcx {W : Web} (h : WebOk W) {n x : Str} : x ∈ hdg W n ↔ x ∈ up W n:=by
 unfold hdg; rw [List.mem_filter, decide_eq_true_iff]; exact ⟨fun z=>z.2, fun z=>⟨zma h z, z⟩⟩
theorem zzn {W : Web} (h : WebOk W) {n : Str} : (hdg W n).length ≤ 12:=Nat.le_trans (List.length_filter_le _ _) (zhh h)
theorem zpi {W : Web} (h : WebOk W) : ∀ (m : Nat) {k n e : Str}, (nm W).idxOf k < m → k ∈ nm W → n ∈ up W k → e ∈ up W n → e ∈ up W k
 | 0, _, _, _, hm, _, _, _=>absurd hm (Nat.not_lt_zero _)
 | m + 1, k, n, e, hm, hk, hn, he=>by
  rcases (zrj h hk).mp hn with rfl | ⟨e', he', hn'⟩
  ·exact he
  ·obtain ⟨g1, g2⟩:=zoc h he'
   exact (zrj h hk).mpr (.inr ⟨e', he', zpi h m (by omega) g1 hn' he⟩)
theorem zagb {W : Web} (h : WebOk W) {k n e : Str} (hk : k ∈ nm W) (hn : n ∈ hdg W k) (he : e ∈ upL W n) : e ∈ hdg W k:=by
 rw [zcx h] at hn ⊢
 exact zpi h _ (Nat.lt_succ_self _) hk hn ((zrj h (zma h hn)).mpr (.inr ⟨e, he, zlz h (zoc h he).1⟩))
theorem zof (n : Str) : zdk [.str n] = some (zaa [n], true):=rfl
theorem zzo {W : Web} (h : WebOk W) {n : Str} (hn : n ∈ nm W) : zfu [.dict (dS zat (ups W)), .str n] = some (zat ((up W n).foldl insS []), true):=by
 have b : sUpd 2 (zan 0 (eVar 3)) [.pl (.dict (dS zat (ups W))), .pl (.str n), .ac (zat []), .pl (.str n)] = some (.nx [.pl (.dict (dS zat (ups W))), .pl (.str n), .ac (zat ((up W n).foldl insS [])), .pl (.str n)]):=by
  have l:=zyu h n
  have lz : (zev []).length + (zev (up W n)).length ≤ 100000:=by unfold zev; rw [List.length_map, List.length_map]; simp; omega
  simp only [sUpd, zat, zan, eVar, List.getElem?_cons_succ, List.getElem?_cons_zero, Option.bind_some, keyD, zge, zfh hn, Option.map_some]
  rw [if_pos ⟨lz, by simp⟩, zhc]
  simp [frzs]
 have lp : forL (gN 3) (sUpd 2 (zan 0 (eVar 3))) [.str n] [.pl (.dict (dS zat (ups W))), .pl (.str n), .ac (zat []), .no] = some (.nx [.pl (.dict (dS zat (ups W))), .pl (.str n), .ac (zat ((up W n).foldl insS [])), .pl (.str n)]):=by
  unfold forL
  simp only [gN, Option.bind_some, List.set_cons_succ, List.set_cons_zero]
  rw [b]; rfl
 exact zgz (env:=[.pl (.dict (dS zat (ups W))), .pl (.str n), .no, .no]) rfl (zak rfl (zak (for_list (zay (n:=1) (rs:=[vs n]) rfl rfl (zof n)) lp) rfl))
theorem ztp {W : Web} (h : WebOk W) {n : Str} (hn : n ∈ nm W) : zew [webD W, .str n] = some (zaa (hdg W n), true):=by
 have hl:=zhh h
 have hW : W.length ≤ 12:=h.len
 have e1 : zjq (zaw 2 zbb (zad (eVar 0) (zad (zaw 1 zdk (zad (eVar 1) aNil)) aNil))) [.pl (webD W), .pl (.str n), .no] = some (.nx [.pl (webD W), .pl (.str n), .no]) :=
  zlv (zay (n:=2) (rs:=[⟨webD W, false, []⟩, ⟨zaa [n], true, []⟩]) (zdt rfl (zhd (zay (n:=1) (rs:=[vs n]) rfl rfl (zof n)))) rfl (zds (by omega) (by simpa using hn)))
 have e2 : sSet 2 (zaw 2 zfu (zad (zaw 1 zbw (zad (eVar 0) aNil)) (zad (eVar 1) aNil))) [.pl (webD W), .pl (.str n), .no] = some (.nx [.pl (webD W), .pl (.str n), .ac (zat ((up W n).foldl insS []))]) :=
  zbq (r:=⟨zat ((up W n).foldl insS []), true, []⟩) (zay (n:=2) (rs:=[⟨.dict (dS zat (ups W)), true, []⟩, vs n]) (zdt (zay (n:=1) (rs:=[⟨webD W, false, []⟩]) rfl rfl (zgm h)) (zhd rfl)) rfl (zzo h hn))
 have c : zfd (gN 0) (zar (eDIn false (eVar 0) (eVar 1))) (eVar 0) [.no, .pl (zat ((up W n).foldl insS []))] ((nm W).map .str) = some ((hdg W n).map .str):=by
  have q:=zbx (enc:=PyData.str) (out:=PyData.str) (g:=gN 0) (t:=zar (eDIn false (eVar 0) (eVar 1))) (e:=eVar 0) (env:=[.no, .pl (zat ((up W n).foldl insS []))]) (fun x=>decide (x ∈ (up W n).foldl insS [])) (l:=nm W)
   fun x _=>⟨[.pl (.str x), .pl (zat ((up W n).foldl insS []))], rfl, zcg (zob (neg:=false) (fr:=false) (bs:=[]) rfl rfl), fun _=>⟨vs x, rfl, rfl⟩⟩
  rw [q]
  unfold hdg
  congr 3
  funext x
  exact decide_eq_decide.mpr (by rw [zia]; simp)
 have e3 : sRet (zcw ["name"] [2] (zaq (zaw 1 zcs (zad (eVar 0) aNil))) (gN 0) (zar (eDIn false (eVar 0) (eVar 1))) (eVar 0)) [.pl (webD W), .pl (.str n), .ac (zat ((up W n).foldl insS []))] = some (.rt (zaa (hdg W n)) true):=by
  refine zlw (zft (ds:=(nm W).map .str) (bs:=[]) ?_ (by rw [List.length_map]; omega) c)
  unfold zaq
  rw [zay (n:=1) (rs:=[⟨webD W, false, []⟩]) rfl rfl (zin (by omega))]
  rfl
 exact zgz (env:=[.pl (webD W), .pl (.str n), .no]) rfl (zak e1 (zak e2 e3))
theorem zwd {W : Web} (h : WebOk W) {k o : Str} (hk : k ∈ nm W) (ho : o ∈ nm W) (hu : o ∈ up W k) : zic [webD W, .str k, .str o] = some (.none, false):=by
 have s3 : sSet 3 (zaw 2 zew (zad (eVar 0) (zad (eVar 1) aNil))) [.pl (webD W), .pl (.str k), .pl (.str o), .no] = some (.nx [.pl (webD W), .pl (.str k), .pl (.str o), .ac (zaa (hdg W k))]) :=
  zbq (r:=⟨zaa (hdg W k), true, []⟩) (zay (n:=2) (rs:=[⟨webD W, false, []⟩, vs k]) rfl rfl (ztp h hk))
 have c : zar (eOp (inD false) (eVar 2) (eVar 3)) [.pl (webD W), .pl (.str k), .pl (.str o), .ac (zaa (hdg W k))] = some true:=by
  rw [zcg (e_in (neg:=false) (xs:=hdg W k) (fr:=false) (bs:=[3]) rfl rfl), decide_eq_true ((zcx h).mpr hu)]; rfl
 exact zgz (env:=[.pl (webD W), .pl (.str k), .pl (.str o), .no]) rfl (zak (chk2 h hk ho rfl rfl rfl) (zak s3 (zadm (if_t c rfl))))
theorem zagc {W : Web} (h : WebOk W) {k o : Str} (hk : k ∈ nm W) (ho : o ∈ nm W) (hu : ¬ o ∈ up W k) : zic [webD W, .str k, .str o] = some (zaa (hdg W k), true):=by
 have s3 : sSet 3 (zaw 2 zew (zad (eVar 0) (zad (eVar 1) aNil))) [.pl (webD W), .pl (.str k), .pl (.str o), .no] = some (.nx [.pl (webD W), .pl (.str k), .pl (.str o), .ac (zaa (hdg W k))]) :=
  zbq (r:=⟨zaa (hdg W k), true, []⟩) (zay (n:=2) (rs:=[⟨webD W, false, []⟩, vs k]) rfl rfl (ztp h hk))
 have c : zar (eOp (inD false) (eVar 2) (eVar 3)) [.pl (webD W), .pl (.str k), .pl (.str o), .ac (zaa (hdg W k))] = some false:=by
  rw [zcg (e_in (neg:=false) (xs:=hdg W k) (fr:=false) (bs:=[3]) rfl rfl), decide_eq_false fun z=>hu ((zcx h).mp z)]; rfl
 exact zgz (env:=[.pl (webD W), .pl (.str k), .pl (.str o), .no]) rfl (zak (chk2 h hk ho rfl rfl rfl) (zak s3 (zak (if_f c rfl) rfl)))
theorem zmh {α : Type} (f : α → Bool) : ∀ (l : List α), zln (l.map fun x=>.bool (f x)) = some (l.map f)
 | []=>rfl
 | x :: l=>by
  show (zln (l.map fun x=>.bool (f x))).map _ = _
  rw [zmh f l]; rfl
theorem zagd {α : Type} {f : α → Bool} {l : List α} {a : EF} {env : DEnv} {fr : Bool} {bs : List Nat} (ha : a env = some ⟨.list (l.map fun x=>.bool (f x)), fr, bs⟩) : eCB (anyD fun bs=>bs.all id) (zad a aNil) env = some (vb (l.all f)):=by
 unfold eCB
 rw [zhd ha, Option.bind_some]
 show ((zln (l.map fun x=>.bool (f x))).map _).bind _ = _
 rw [zmh]
 simp only [Option.map_some, Option.bind_some, List.all_map]
 rfl
end Bc
namespace Bc
open PySem L2
end Bc
namespace Bc
open PySem L2
theorem ztq {W : Web} (h : WebOk W) {k o : Str} (hk : k ∈ nm W) (hu : ¬ o ∈ up W k) : zea [webD W, .str k, .str o, zaa (hdg W k)] = some (.bool true, false):=by
 have hl:=zzn h (n:=k)
 have i1 : tOrF (zcr (tTru (eIsi "list" (eVar 3)))) (tOrF (zar (eOp (inD true) (eVar 1) (eVar 3))) (zar (eOp (inD false) (eVar 2) (eVar 3)))) [.pl (webD W), .pl (.str k), .pl (.str o), .pl (zaa (hdg W k)), .no, .no, .no] = some false:=by
  have f0 : zcr (tTru (eIsi "list" (eVar 3))) [.pl (webD W), .pl (.str k), .pl (.str o), .pl (zaa (hdg W k)), .no, .no, .no] = some false:=rfl
  have f1 : zar (eOp (inD true) (eVar 1) (eVar 3)) [.pl (webD W), .pl (.str k), .pl (.str o), .pl (zaa (hdg W k)), .no, .no, .no] = some (!decide (k ∈ hdg W k)):=zcg (e_in (neg:=true) (fr:=false) (bs:=[]) rfl rfl)
  have f2 : zar (eOp (inD false) (eVar 2) (eVar 3)) [.pl (webD W), .pl (.str k), .pl (.str o), .pl (zaa (hdg W k)), .no, .no, .no] = some (decide (o ∈ hdg W k)):=zcg (e_in (neg:=false) (fr:=false) (bs:=[]) rfl rfl)
  rw [decide_eq_true ((zcx h).mpr (zlz h hk))] at f1
  rw [decide_eq_false fun z=>hu ((zcx h).mp z)] at f2
  unfold tOrF
  rw [f0, Option.bind_some, if_neg (by decide), f1, Option.bind_some, f2]
  rfl
 obtain ⟨env', lp, s5, s6, rfl⟩:=zcq (enc:=rowD) (g:=gT 2 (zcf 5 (zcf 6 zjr))) (body:=sIf (zar (eOp (inD false) (eVar 5) (eVar 3))) (sSeq (sSet 4 (eOp addD (eVar 4) (eC (.int 1)))) (sIf (zcr (tTru (eCB (anyD fun bs=>bs.all id) (zad (zcw ["_law_elder"] [3] (zaq (eVar 6)) (gN 0) zhk (eOp (inD false) (eVar 0) (eVar 1))) aNil)))) (sRet (eC (.bool false))) sNil)) sNil) (l:=W)
  (env:=[.pl (webD W), .pl (.str k), .pl (.str o), .pl (zaa (hdg W k)), .pl (.int 0), .no, .no]) (fun pre env=>∃ s5 s6, env = [.pl (webD W), .pl (.str k), .pl (.str o), .pl (zaa (hdg W k)), .pl (.int (((nm pre).filter fun x=>decide (x ∈ hdg W k)).length : Nat)), s5, s6]) ⟨_, _, rfl⟩ (by
   rintro pre p post env hp ⟨s5, s6, rfl⟩
   have hm : p ∈ W:=by rw [← hp]; simp
   have t : zar (eOp (inD false) (eVar 5) (eVar 3)) [.pl (webD W), .pl (.str k), .pl (.str o), .pl (zaa (hdg W k)), .pl (.int (((nm pre).filter fun x=>decide (x ∈ hdg W k)).length : Nat)), .pl (.str p.1), .pl (zaa p.2)] = some (decide (p.1 ∈ hdg W k)):=zcg (e_in (neg:=false) (fr:=false) (bs:=[]) rfl rfl)
   have es : nm (pre ++ [p]) = nm pre ++ [p.1]:=zeu pre p
   by_cases hin : p.1 ∈ hdg W k
   ·rw [decide_eq_true hin] at t
    refine ⟨_, [.pl (webD W), .pl (.str k), .pl (.str o), .pl (zaa (hdg W k)), .pl (.int (((nm (pre ++ [p])).filter fun x=>decide (x ∈ hdg W k)).length : Nat)), .pl (.str p.1), .pl (zaa p.2)], rfl, .inl (if_t t ?_), _, _, rfl⟩
    have st : sSet 4 (eOp addD (eVar 4) (eC (.int 1))) [.pl (webD W), .pl (.str k), .pl (.str o), .pl (zaa (hdg W k)), .pl (.int (((nm pre).filter fun x=>decide (x ∈ hdg W k)).length : Nat)), .pl (.str p.1), .pl (zaa p.2)] = some (.nx [.pl (webD W), .pl (.str k), .pl (.str o), .pl (zaa (hdg W k)), .pl (.int (((nm (pre ++ [p])).filter fun x=>decide (x ∈ hdg W k)).length : Nat)), .pl (.str p.1), .pl (zaa p.2)]):=by
     rw [es, List.filter_append, List.length_append, show ([p.1].filter fun x=>decide (x ∈ hdg W k)) = [p.1] by rw [List.filter_cons, decide_eq_true hin]; rfl]
     have ea : eOp addD (eVar 4) (eC (.int 1)) [.pl (webD W), .pl (.str k), .pl (.str o), .pl (zaa (hdg W k)), .pl (.int (((nm pre).filter fun x=>decide (x ∈ hdg W k)).length : Nat)), .pl (.str p.1), .pl (zaa p.2)] = some (vi (((((nm pre).filter fun x=>decide (x ∈ hdg W k)).length : Nat) : Int) + 1)):=zrc (i:=(((nm pre).filter fun x=>decide (x ∈ hdg W k)).length : Nat)) (j:=1) rfl rfl
     exact zbq ea
    refine zak st (if_f ?_ rfl)
    have few : p.2.length ≤ 4:=h.few p hm
    have c : zfd (gN 0) zhk (eOp (inD false) (eVar 0) (eVar 1)) [.no, .pl (zaa (hdg W k))] (p.2.map .str) = some (p.2.map fun x=>.bool (decide (x ∈ hdg W k))) :=
     zhy fun x _=>⟨[.pl (.str x), .pl (zaa (hdg W k))], rfl, rfl, vb (decide (x ∈ hdg W k)), e_in (neg:=false) (fr:=false) (bs:=[]) rfl rfl, rfl⟩
    have al : (p.2.all fun x=>decide (x ∈ hdg W k)) = true:=List.all_eq_true.mpr fun e he=>decide_eq_true (zagb h hk hin (by
     obtain ⟨es', lk, hm'⟩:=zmf (W:=W) (zadn hm)
     have : (p.1, es') = p:=by
      obtain ⟨i, hi, e1⟩:=List.getElem_of_mem hm'
      obtain ⟨j, hj, e2⟩:=List.getElem_of_mem hm
      have : (nm W)[i]'(by unfold nm; rw [List.length_map]; exact hi) = (nm W)[j]'(by unfold nm; rw [List.length_map]; exact hj):=by
       unfold nm
       rw [List.getElem_map, List.getElem_map, e1, e2]
      have ij:=zadr h.nd this
      subst ij
      rw [← e1, ← e2]
     unfold upL
     rw [lk]
     rw [← this] at he
     exact he))
    have q:=zkv (zagd (zft (env:=[.pl (webD W), .pl (.str k), .pl (.str o), .pl (zaa (hdg W k)), .pl (.int (((nm (pre ++ [p])).filter fun x=>decide (x ∈ hdg W k)).length : Nat)), .pl (.str p.1), .pl (zaa p.2)]) (fr:=[3]) (own:=["_law_elder"]) (fi:=zaq (eVar 6)) (ds:=p.2.map .str) (bs:=[]) rfl (by rw [List.length_map]; omega) c))
    rw [al] at q
    exact q
   ·rw [decide_eq_false hin] at t
    refine ⟨_, [.pl (webD W), .pl (.str k), .pl (.str o), .pl (zaa (hdg W k)), .pl (.int (((nm (pre ++ [p])).filter fun x=>decide (x ∈ hdg W k)).length : Nat)), .pl (.str p.1), .pl (zaa p.2)], rfl, .inl (if_f t ?_), _, _, rfl⟩
    rw [es, List.filter_append, show ([p.1].filter fun x=>decide (x ∈ hdg W k)) = [] by rw [List.filter_cons, decide_eq_false hin]; rfl, List.append_nil]
    rfl)
 refine zgz (env:=[.pl (webD W), .pl (.str k), .pl (.str o), .pl (zaa (hdg W k)), .no, .no, .no]) rfl (zak (if_f i1 rfl) (zak rfl (zak (for_list (fr:=false) (bs:=[]) rfl lp) (zlw (bs:=[]) ?_))))
 have ef : ((nm W).filter fun x=>decide (x ∈ hdg W k)) = hdg W k:=by
  conv=>rhs; unfold hdg
  refine List.filter_congr fun x _=>decide_eq_decide.mpr (zcx h)
 rw [ef]
 rw [zwc (i:=((hdg W k).length : Nat)) (j:=((hdg W k).map PyData.str).length) rfl (zmc rfl), List.length_map, beq_self_eq_true]
end Bc
namespace Bc
open PySem L2
end Bc
namespace PySem
open Sem (wp)
noncomputable def SqIt (b : Bool) (h : Heap) (it l : Addr) (i : Nat) : Prop:=match b with
 | true=>h.IsListIter it l i
 | false=>h.IsTupleIter it l i
noncomputable def zmi (b : Bool) (h : Heap) (l : Addr) (xs : Array Value) : Prop:=match b with
 | true=>h.IsList l xs
 | false=>h.IsTuple l xs
theorem SqIt.moved {b : Bool} {h h' : Heap} {it l : Addr} {i : Nat} (x : SqIt b h it l i) (e : ∀ o, h.get? it = some o → h'.get? it = some o) : SqIt b h' it l i:=by
 cases b with
 | true=>obtain ⟨o, q, r⟩:=x; exact ⟨o, e o q, r⟩
 | false=>obtain ⟨o, q, r⟩:=x; exact ⟨o, e o q, r⟩
theorem zmi.moved {b : Bool} {h h' : Heap} {l : Addr} {xs : Array Value} (x : zmi b h l xs) (e : ∀ o, h.get? l = some o → h'.get? l = some o) : zmi b h' l xs:=by
 cases b with
 | true=>obtain ⟨o, q, r⟩:=x; exact ⟨o, e o q, r⟩
 | false=>obtain ⟨o, q, r⟩:=x; exact ⟨o, e o q, r⟩
theorem SqIt.obj {b : Bool} {h : Heap} {it l : Addr} {i : Nat} (x : SqIt b h it l i) : ∃ o, h.get? it = some o ∧ ∀ v, o.data ≠ .cell v:=by
 cases b with
 | true=>obtain ⟨o, q, _, r⟩:=x; exact ⟨o, q, fun v z=>by rw [r] at z; cases z⟩
 | false=>obtain ⟨o, q, _, r⟩:=x; exact ⟨o, q, fun v z=>by rw [r] at z; cases z⟩
section
variable {prog : Program} {w : World} {A : Around} {E : Value → Shared → Prop} {s : Shared}
theorem zpj {it l : Addr} {i : Nat} {items} {x : Value} {Q : Value → Shared → Prop} (hit : s.heap.IsTupleIter it l i)
  (hl : s.heap.IsTuple l items) (hx : items[i]? = some x)
  (hQ : ∀ h', h'.IsTupleIter it l (i + 1) → Heap.SameBut it s.heap h' → Q x { s with heap:=h' }) :
  wpAny (model prog w) A (Builtin.SmallTypes.nextOf (.ref it)) Q E s:=by
 obtain ⟨o, ho, hc, hd⟩:=id hit
 obtain ⟨ol, hol, _, nl, hdl⟩:=hl
 unfold Builtin.SmallTypes.nextOf
 refine wpAny_bind (wpAny_callSpecial?_slot (name:=Str.ofString "__next__") hit.typeIs F.slot_tuple_iterator_next
  (wpAny_call_entry F.slot_tuple_iterator_next hit.typeIs F.entry_tuple_iterator_next ?_ (F.args_tuple_iterator_next_1 _)))
 show wpAny _ _ (field (.ref it) 0 >>= _) _ _ s
 refine wpAny_bind (wpAny_field ho hd (x:=.ref l) rfl ?_)
 show wpAny _ _ (if (Value.ref l == Value.none) = true then _ else _) _ _ s
 rw [if_neg (show ¬ ((Value.ref l == Value.none) = true) from Bool.false_ne_true)]
 show wpAny _ _ (field (.ref it) 1 >>= _) _ _ s
 refine wpAny_bind (wpAny_field ho hd (x:=.int i 0) rfl ?_)
 show wpAny _ _ (seqItems? (.ref l) >>= _) _ _ s
 refine wpAny_bind (wpAny_seqItems hol hdl ?_)
 simp only [Int.toNat_natCast, hx]
 refine wpAny_bind (wpAny_setField ho hd (by simp) (wpAny_pure ⟨x, rfl, wpAny_pure (hQ _ ?_ (Heap.SameBut.update ..))⟩))
 exact ⟨_, Heap.get?_update_self _ ho (Obj.isFreed_of_fields (Obj.data_mapFields hd _)), (Obj.cls_mapFields ..).trans hc, by
  rw [Obj.data_mapFields hd]; simp [rawInt]⟩
theorem zrl {it l : Addr} {i : Nat} {items} {Q : Value → Shared → Prop} (hh : A.handled = none)
  (hit : s.heap.IsTupleIter it l i) (hl : s.heap.IsTuple l items) (hx : items[i]? = none)
  (hE : ∀ h' e, Heap.ExtBut it s.heap h' → (∃ o, h'.get? e = some o ∧ o.cls = .type "StopIteration") → E (.ref e) { s with heap:=h' }) :
  wpAny (model prog w) A (Builtin.SmallTypes.nextOf (.ref it)) Q E s:=by
 obtain ⟨o, ho, hc, hd⟩:=id hit
 obtain ⟨ol, hol, _, nl, hdl⟩:=hl
 unfold Builtin.SmallTypes.nextOf
 refine wpAny_bind (wpAny_callSpecial?_slot (name:=Str.ofString "__next__") hit.typeIs F.slot_tuple_iterator_next
  (wpAny_call_entry F.slot_tuple_iterator_next hit.typeIs F.entry_tuple_iterator_next ?_ (F.args_tuple_iterator_next_1 _)))
 show wpAny _ _ (field (.ref it) 0 >>= _) _ _ s
 refine wpAny_bind (wpAny_field ho hd (x:=.ref l) rfl ?_)
 show wpAny _ _ (if (Value.ref l == Value.none) = true then _ else _) _ _ s
 rw [if_neg (show ¬ ((Value.ref l == Value.none) = true) from Bool.false_ne_true)]
 show wpAny _ _ (field (.ref it) 1 >>= _) _ _ s
 refine wpAny_bind (wpAny_field ho hd (x:=.int i 0) rfl ?_)
 show wpAny _ _ (seqItems? (.ref l) >>= _) _ _ s
 refine wpAny_bind (wpAny_seqItems hol hdl ?_)
 simp only [Int.toNat_natCast, hx]
 refine wpAny_bind (wpAny_rule (wpAny_bind (wpAny_setField ho hd (by simp) ?_)))
 show wpAny _ _ (newExc (.type "StopIteration") [] >>= _) _ _ _
 refine wpAny_bind ?_
 simp only [newExc, newTuple]
 refine wpAny_bind (wpAny_newObj_type ?_ (by size_fits))
 refine wpAny_bind (m:=firstArgMember _ _) (wpAny_of_eq (a:=Value.none) (by first | rfl | (simp only [firstArgMember]; rfl)) ?_)
 refine wpAny_newObj_type ?_ (by size_fits)
 simp only [raiseNew]
 refine wpAny_bind (wpAny_handled ?_)
 first | rw [show A.in1.handled = none from hh] | rw [hh]
 refine wpAny_bind (wpAny_pure (wpAny_throw ?_))
 exact hE _ _ (((Heap.SameBut.update ..).extBut.push _).push _) ⟨_, Heap.get?_push_size _ rfl, rfl⟩
theorem zage {b : Bool} {it l : Addr} {i : Nat} {xs : Array Value} {x : Value} {Q : Value → Shared → Prop} (hit : SqIt b s.heap it l i) (hl : zmi b s.heap l xs) (hx : xs[i]? = some x)
  (hQ : ∀ h', SqIt b h' it l (i + 1) → Heap.SameBut it s.heap h' → Q x { s with heap:=h' }) : wpAny (model prog w) A (Builtin.SmallTypes.nextOf (.ref it)) Q E s:=by
 cases b with
 | true=>exact wpAny_nextOf_list_item hit hl hx hQ
 | false=>exact zpj hit hl hx hQ
theorem zads {b : Bool} {it l : Addr} {i : Nat} {xs : Array Value} {Q : Value → Shared → Prop} (hh : A.handled = none) (hit : SqIt b s.heap it l i) (hl : zmi b s.heap l xs) (hx : xs[i]? = none)
  (hE : ∀ h' e, Heap.ExtBut it s.heap h' → (∃ o, h'.get? e = some o ∧ o.cls = .type "StopIteration") → E (.ref e) { s with heap:=h' }) : wpAny (model prog w) A (Builtin.SmallTypes.nextOf (.ref it)) Q E s:=by
 cases b with
 | true=>exact wpAny_nextOf_list_end hh hit hl hx hE
 | false=>exact zrl hh hit hl hx hE
end
end PySem
namespace L2
open PySem PySem.Spec PyProof.Rows
noncomputable def SqX (b : Bool) (K : PySem.W.Frag) (H : Hp) (a : Addr) (xs : List V) : Prop:=match b with
 | true=>SqL K H a xs
 | false=>SqT K H a xs
section
variable {X : Cx} {pins : List (Addr × Obj)} {σ : St} {H : Hp} {s : Shared}
theorem Inv.sq {b : Bool} {a : Addr} {xs : List V} (I : Inv X pins σ H s) (h : SqX b X.K H a xs) : ∃ its : List Value, Vals xs its ∧ zmi b s.heap a its.toArray ∧ xs.length ≤ sizeLine:=by
 cases b with
 | true=>obtain ⟨its, r, p, z⟩:=I.list h; exact ⟨its, r, p.isList, z⟩
 | false=>obtain ⟨its, r, p, z⟩:=I.tuple h; exact ⟨its, r, (show s.heap.IsTuple a its.toArray from p), z⟩
theorem Inv.sq_inj {b : Bool} {a : Addr} {xs ys : List V} (I : Inv X pins σ H s) (h : SqX b X.K H a xs) (h' : SqX b X.K H a ys) : xs = ys:=by
 cases b with
 | true=>exact I.list_inj h h'
 | false=>exact I.tuple_inj h h'
end
end L2
namespace PySem
open Sem (wp)
noncomputable def itO (b : Bool) (l : Addr) : Obj:=match b with
 | true=>{ cls:=.type "list_iterator", data:=.fields #[.ref l, .int 0 0] }
 | false=>{ cls:=.type "tuple_iterator", data:=.fields #[.ref l, .int 0 0] }
theorem zacf {b : Bool} {h : Heap} {a l : Addr} (e : h.get? a = some (itO b l)) : SqIt b h a l 0:=by
 cases b with
 | true=>exact ⟨_, e, rfl, rfl⟩
 | false=>exact ⟨_, e, rfl, rfl⟩
end PySem
namespace L2
open PySem PySem.Spec PyProof.Rows
theorem zmi.there {b : Bool} {h : Heap} {l : Addr} {xs : Array Value} (x : zmi b h l xs) : l < h.objs.size:=by
 cases b with
 | true=>obtain ⟨o, q, _⟩:=x; exact Heap.lt_size q
 | false=>obtain ⟨o, q, _⟩:=x; exact Heap.lt_size q
theorem zaii {K : PySem.W.Frag} {A : Addr → Prop} {H : Hp} {d : PyData} {ds : List PyData} {v : V} (h : Rp (Offs A H) d v) (e : ziy d = some ds) : ∃ (b : Bool) (a : Addr) (xs : List V), v = .ref a ∧ Rps (Offs A H) ds xs ∧ ∀ (B : Addr → Prop) (H' : Hp), Same (Offs A H) (Offs B H') → SqX b K H' a xs:=by
 cases d with
 | list es =>
  cases e
  obtain ⟨a, xs, rfl, ha, r⟩:=zcv h
  exact ⟨true, a, xs, rfl, r, fun B H' s=>SqL.of (zce (s _ _ ha))⟩
 | tuple es =>
  cases e
  obtain ⟨a, xs, rfl, ha, r⟩:=zci h
  exact ⟨false, a, xs, rfl, r, fun B H' s=>SqT.of (zce (s _ _ ha))⟩
 | _=>cases e
end L2
namespace L2
open PySem PySem.Spec PyProof.Rows
section
variable {X : Cx}
end
end L2
namespace PySem
open Sem (wp)
open AutoSeq1 (wpAny_loadPart')
theorem zacg {prog : Program} {w : World} {A : Around} (hh : A.handled = none) (b : Bool) (it l : Addr) (hne : l ≠ it) (items : Array Value) :
  Draws prog w A it [it, l] items.size (fun i v=>items[i]? = some v) (fun i h=>SqIt b h it l i ∧ zmi b h l items) where
 live:=fun _ _ st=>let ⟨o, ho, _⟩:=st.1.obj; ⟨o, ho⟩
 frame:=fun _ _ _ st hk=>⟨st.1.moved fun o e=>hk it (by simp) o e, st.2.moved fun o e=>hk l (by simp) o e⟩
 item:=fun i s Q E hi st hQ=>by
  refine zage st.1 st.2 (x:=items[i]) (by simp [hi]) fun h' hit' hs'=>?_
  exact hQ _ h' s.toks (by simp [hi]) ⟨hit', st.2.moved fun o e=>hs'.extBut _ o hne e⟩ hs'
 done:=fun s Q E st hE=>zads hh st.1 st.2 (by simp) hE
theorem zkx (l : Addr) (items : Array Value) (n : Nat) (dct : Option Addr) (sl : Array (Option Value)) :
  Meets (Builtin.«enumerate.__new__» ⟨[.type "enumerate", .ref l], []⟩) (fun _ R s=>s.heap.get? l = some { cls:=.type "tuple", dict:=dct, data:=.seq items n, slots:=sl } ∧
   R (.ok (.ret (.ref (s.heap.push (itO false l)).objs.size))) { s with heap:=(s.heap.push (itO false l)).push { cls:=.type "enumerate", data:=.fields #[.none, .bool false, .ref s.heap.objs.size, rawInt 0, .none, .none] } }) :=
 .of_wp fun prog w A R s h=>by
  obtain ⟨hp, g, d, tk, os⟩:=s; obtain ⟨hl, h⟩:=h
  have hsub:=sub_enumerate
  have e1 : Heap.IsTuple (Shared.heap ⟨hp, g, d, tk, os⟩) l items:=⟨_, hl, rfl, n, rfl⟩
  wp_walk using wpAny_loadPart' hl
  refine wpAny_stack_any fun st=>wpAny_pure ?_
  split
  ·rename_i c _ _ _ _ _
   cases (c == Value.type "enumerate")
   ·wp_walk using wpAny_loadPart' hl, wpAny_pyIter_tuple e1
    exact ⟨_, rfl, h⟩
   ·wp_walk using wpAny_loadPart' hl, wpAny_pyIter_tuple e1
    exact ⟨_, rfl, h⟩
  ·wp_walk using wpAny_loadPart' hl, wpAny_pyIter_tuple e1
   exact ⟨_, rfl, h⟩
theorem zrm {prog : Program} {w : World} {A : Around} {E : Value → Shared → Prop} {s : Shared} {b : Bool} {l : Addr} {items : Array Value} {Q : Value → Shared → Prop} (hL : zmi b s.heap l items)
  (h : ∀ h', IsEnum h' (s.heap.objs.size + 1) s.heap.objs.size 0 .none → SqIt b h' s.heap.objs.size l 0 → (∀ c o, s.heap.get? c = some o → h'.get? c = some o) → Q (.ref (s.heap.objs.size + 1)) { s with heap:=h' }) :
  wpAny (model prog w) A (call (.type "enumerate") [.ref l]) Q E s:=by
 cases b with
 | true=>exact call_enumerate_list hL fun h' e i _ k=>h h' e i k
 | false =>
  obtain ⟨⟨c, dct, dt, sl⟩, hl, hc, n, hd⟩:=hL
  replace hc : c = .type "tuple":=hc
  replace hd : dt = .seq items n:=hd
  subst hc hd
  refine callType_new F.called_enumerate (by decide) (F.typeCall_enumerate_1 _) (F.newCall_enumerate_1 _) (fun obj=>F.args_object_init_2 obj _) F.entry_enumerate_new (zkx l items n dct sl) ⟨hl, ?_⟩
  have hz : (s.heap.push (itO false l)).objs.size = s.heap.objs.size + 1:=Heap.size_push ..
  have he:=Heap.get?_push_size (s.heap.push (itO false l)) (o:={ cls:=.type "enumerate", data:=.fields #[.none, .bool false, .ref s.heap.objs.size, rawInt 0, .none, .none] }) rfl
  show _ ∧ _
  rw [hz] at he ⊢
  exact ⟨⟨_, he, rfl⟩, h _ he (zacf (b:=false) (Heap.get?_push_of_some _ (Heap.get?_push_size _ rfl))) fun c o x=>Heap.get?_push_of_some _ (Heap.get?_push_of_some _ x)⟩
end PySem
namespace L2
open PySem PySem.Spec PyProof.Rows
noncomputable def Itx (K : PySem.W.Frag) (b : Bool) (a : Addr) : It :=
 ⟨fun i H=>∃ xs x, SqX b K H a xs ∧ xs[i]? = some x, fun i H x H'=>∃ p y, x = .ref p ∧ H p = none ∧ H' = upd H p (.tup [.int i, y]) ∧ ∀ xs, SqX b K H a xs → xs[i]? = some y, fun i H=>∃ xs, SqX b K H a xs ∧ xs.length ≤ i⟩
theorem zwe {P : Program} {w : World} {K : PySem.W.Frag} {elts : List Expr} {x1} {tpos : Pos} {b : Bool} (a e it : Addr) (hne : e ≠ it) (hea : e ≠ a) (hai : a ≠ it) :
  Turn P w K (.Tuple elts x1 tpos) (Itx K b a) [e, it] e (fun i h=>SqIt b h it a i ∧ ∃ old, IsEnum h e it (i : Int) old) where
 mem:=by simp
 obj:=fun i h st c hc=>by
  obtain ⟨h1, old, h4⟩:=st
  rcases List.mem_cons.mp hc with rfl | hc
  ·exact ⟨_, h4, fun v z=>by simp at z⟩
  ·have q : c = it:=by simpa using hc
   subst q
   exact h1.obj
 keep:=fun i h h' st k=>⟨st.1.moved fun o q=>k it (by simp) o q, let ⟨old, q⟩:=st.2; ⟨old, k e (by simp) _ q⟩⟩
 item:=by
  intro X hP hw hK hc i pins s σ H E I hf st hg
  subst hP hw hK
  obtain ⟨xs, x, hq, hx⟩:=hg
  obtain ⟨its, rv, p, hz⟩:=I.sq hq
  obtain ⟨u, hu, ru⟩:=rv.get hx
  obtain ⟨hit, old, he⟩:=st
  have fe:=hf e (by simp)
  have fi:=hf it (by simp)
  have hlt : i < its.toArray.size:=by
   obtain ⟨hh, _⟩:=List.getElem?_eq_some_iff.mp hu
   simpa using hh
  refine wpAny_pyNext_enum_itemD (zacg (by exact I.ok.hd hc) b it a hai its.toArray) he ⟨hit, p⟩ hlt hne (by simp [hne, hea]) fun u' h1 tk pu e1 i1 t1 z1 k1=>?_
  have hu' : u' = u:=by
   have pu : its.toArray[i]? = some u':=pu
   rw [List.getElem?_toArray, hu] at pu
   exact (Option.some.inj pu).symm
  subst hu'
  refine ⟨_, rfl, wpAny_letOwnedTupleGo_enum (s:={ s with heap:=h1, toks:=tk + 1 }) e1 fun h2 e2 sb2=>?_⟩
  have hp : H s.heap.objs.size = none:=I.hok.fresh (Nat.le_refl _)
  have hes : e ≠ s.heap.objs.size:=Nat.ne_of_lt (Heap.lt_size he)
  have k2 : ∀ c o, c ≠ e → c ≠ it → s.heap.get? c = some o → h2.get? c = some o:=fun c o q1 q2 q=>(sb2.2 c q1).trans (k1 c o q1 q2 q)
  have t2 : h2.get? s.heap.objs.size = some { cls:=.type "tuple", data:=.seq #[.int i tk, u'] }:=(sb2.2 _ (Ne.symm hes)).trans t1
  have nch : ∀ c, c ∉ [e, it] → c ≠ e ∧ c ≠ it:=fun c hb=>⟨fun z=>hb (by simp [z]), fun z=>hb (by simp [z])⟩
  refine ⟨.ref s.heap.objs.size, upd H s.heap.objs.size (.tup [.int i, x]), ?_, rfl, ⟨_, x, rfl, hp, rfl, fun ys hy=>by rw [I.sq_inj hy hq]; exact hx⟩, ⟨?_, u', e2⟩, fun c hb=>?_⟩
  ·refine Inv.step (s:=s) (h':=h2) (g':=s.gens) (d':=s.drawn) (t':=tk + 1) (ch:=[e, it]) I (fun c hb=>?_) (fun c o _ _ hc q _=>k2 c o (nch c hc).1 (nch c hc).2 q) (fun c o _ _ hc q _=>⟨o.slots, k2 c o (nch c hc).1 (nch c hc).2 q⟩)
    (fun c o _ q n=>by rw [zbf (Nat.ne_of_lt (Heap.lt_size q))]; exact n) (fun c o hc q=>⟨o, k2 c o (nch c hc).1 (nch c hc).2 q⟩)
    (fun c xs q=>by rw [zbf (zbm q hp)]; exact q) (fun c o v q=>by rw [zbf (zbm q hp)]; exact q) (fun c ps q=>⟨#[], by rw [zbf (zbm q hp), q]; simp⟩) (fun m hm=>?_) (fun c v q=>?_) I.bare
   ·rcases List.mem_cons.mp hb with rfl | hb
    ·exact ⟨fe.2.2.2.1, fe.2.1, fe.2.2.2.2.1, fe.2.2.2.2.2⟩
    ·have z : c = it:=by simpa using hb
     subst z
     exact ⟨fi.2.2.2.1, fi.2.1, fi.2.2.2.2.1, fi.2.2.2.2.2⟩
   ·obtain ⟨o, es, ep, ho, r⟩:=hm
    exact ⟨o, es, ep, k2 _ o (Ne.symm fe.2.1) (Ne.symm fi.2.1) ho, r⟩
   ·by_cases hb : c = s.heap.objs.size
    ·subst hb
     rw [zav] at q
     cases q
     exact ⟨by show 2 ≤ sizeLine; decide, [.int i tk, u'], .cons ⟨_, rfl⟩ (.cons ru .nil), _, t2, rfl, _, rfl⟩
    ·rw [zbf hb] at q
     have nt : ∀ c w', H c = some w' → c ≠ e ∧ c ≠ it:=fun c w' z=>⟨(fun y=>by rw [y, fe.1] at z; cases z), (fun y=>by rw [y, fi.1] at z; cases z)⟩
     refine (I.hok c v q).stay (fun c w' hc r=>?_) (fun c r=>by rw [zbf (zbm r hp)]; exact r) fun c ys r=>by rw [zbf (zbm r hp)]; exact r
     rcases hc with rfl | hc
     ·exact k2 c w' (nt c v q).1 (nt c v q).2 r
     ·exact k2 c w' (nt c _ hc).1 (nt c _ hc).2 r
  ·exact i1.1.moved fun o q=>(sb2.2 _ (Ne.symm hne)).trans q
  ·rcases List.mem_cons.mp hb with rfl | hb
   ·rw [zbf hes]; exact fe.1
   ·have z : c = it:=by simpa using hb
    subst z
    obtain ⟨o, q1, _⟩:=hit.obj
    rw [zbf (Nat.ne_of_lt (Heap.lt_size q1))]
    exact fi.1
 done:=by
  intro X hP hw hK hc i pins s σ H E I hf st hg
  subst hP hw hK
  obtain ⟨xs, hq, hx⟩:=hg
  obtain ⟨its, rv, p, hz⟩:=I.sq hq
  obtain ⟨hit, old, he⟩:=st
  obtain ⟨f0, f1, f2, f3, f4, f5⟩:=hf it (by simp)
  have hl:=rv.length
  have hT : s.TypeIs (.ref e) "enumerate":=⟨_, he, rfl⟩
  unfold pyNext
  refine wpAny_bind (wpAny_attempt (wpAny_callSpecial?_slot (name:=Str.ofString "__next__") hT F.slot_enumerate_next (wpAny_call_entry F.slot_enumerate_next hT F.entry_enumerate_next ?_ (F.args_enumerate_next_1 _))))
  show wpAny _ _ (field (.ref e) 2 >>= _) _ _ _
  refine wpAny_bind (wpAny_field he rfl (x:=.ref it) rfl ?_)
  refine wpAny_bind (zads (by exact I.ok.hd hc) hit p (by simp; omega) fun h' x he' hx'=>?_)
  obtain ⟨o, ho, hcl⟩:=hx'
  refine wpAny_bind (wpAny_isInstance (T:="StopIteration") (b:=true) ⟨o, ho, hcl⟩ isSubtype_stop (wpAny_pure ⟨rfl, ?_⟩))
  exact I.turned (t':=s.toks) (fun c o hb q=>he' c o hb q) f0 f1 f3 f4 f5
 self:=fun _ _ _ _ _ st h=>let ⟨_, q⟩:=st.2; wpAny_pyIter_enum q h
noncomputable def iEnumX (K : PySem.W.Frag) (ta : TA) : TI:=fun σ H R=>ta σ H fun vs H1=>∃ b a, vs = [.ref a] ∧ (∃ xs, SqX b K H1 a xs) ∧ R (Itx K b a) H1
theorem zach {X : Cx} {K : PySem.W.Frag} (hK : X.K = K) {a : Expr} {ta : TA} {p pos : Pos} {elts : List Expr} {x1} {tpos : Pos} (hg : Gl X "enumerate") (hm : X.mg "enumerate" = none) (ha : PA X [a] ta) (hs : starEach [a] X.env = [(false, eval a X.env)]:=by rfl) :
  PI X (.Tuple elts x1 tpos) (.Call (.Name "enumerate" p) [a] [] pos) (iEnumX K ta):=by
 subst hK
 intro pins s σ H R I h
 refine Call_ (zps I hg hm boot_enumerate (PyProof.Rows.callWith_type1 (thn (ha pos pins s σ H _ I h) fun us s1 ⟨vs, H1, I1, r1, q1⟩=>?_) hs rfl))
 obtain ⟨b, l, rfl, ⟨xs, hq⟩, q⟩:=q1
 obtain ⟨u, rfl, ru⟩:=zsu r1
 cases ru
 obtain ⟨its, rv, pl, hz⟩:=I1.sq hq
 have lt:=zmi.there pl
 refine zrm pl fun h' he hit hk=>wpAny_pyIter_enum he ?_
 have I2 : Inv X pins σ H1 { s1 with heap:=h' }:=I1.kept (t':=s1.toks) hk
 refine ⟨s1.heap.objs.size + 1, [s1.heap.objs.size + 1, s1.heap.objs.size], _, _, H1, rfl, I2, zwe l _ _ (Nat.succ_ne_self _) (Nat.ne_of_gt (Nat.lt_succ_of_lt lt)) (Nat.ne_of_lt lt), ⟨hit, _, he⟩, fun c hb=>?_, q⟩
 rcases List.mem_cons.mp hb with rfl | hb
 ·exact I1.fpOk (Nat.le_succ _) (I1.hok.fresh (Nat.le_succ _))
 ·have e : c = s1.heap.objs.size:=by simpa using hb
  subst e
  exact I1.fpOk (Nat.le_refl _) (I1.hok.fresh (Nat.le_refl _))
noncomputable def zzp (f : AF) : IF':=fun env=>(f env).bind fun rs=>match rs with
 | [r]=>(ziy r.d).map fun ds=>(ztj ds, r.bs)
 | _=>none
theorem zaci {K : PySem.W.Frag} {ta : TA} {f : AF} (h1 : SA ta f) : SI (iEnumX K ta) (zzp f):=by
 intro fx H0 env σ H h ds bs e R q
 unfold zzp at e
 obtain ⟨rs, er, e⟩:=Option.bind_eq_some_iff.mp e
 split at e
 ·rename_i r
  obtain ⟨d1, ed1, e⟩:=Option.map_eq_some_iff.mp e
  cases e
  refine h1 fx H0 env σ H h _ er _ fun vs H1 s hv=>?_
  cases hv with
  | cons hv t =>
   cases t
   obtain ⟨b, a, xs, rfl, r1, e1⟩:=zaii (K:=K) (Rp.same (Offs.sub (zgx (bs:=r.bs))) _ hv.rp) ed1
   refine ⟨b, a, rfl, ⟨xs, e1 _ H1 (Same.refl _)⟩, q _ H1 s ?_⟩
   intro A H' hA ss
   have q1:=e1 A H' ss
   have r1':=Rps.same ss _ r1
   have hl : (ztj d1).length = d1.length:=by unfold ztj; simp
   refine ⟨fun i d e=>?_, ⟨xs, q1, by rw [hl, r1.length]; exact Nat.le_refl _⟩⟩
   unfold ztj at e
   rw [List.getElem?_map, List.getElem?_zipIdx] at e
   cases e0 : d1[i]? with
   | none=>rw [e0] at e; cases e
   | some d0 =>
    rw [e0] at e
    obtain ⟨v, hv, rv⟩:=r1'.get2 e0
    have e : PyData.tuple [.int ((0 + i : Nat) : Int), d0] = d:=Option.some.inj e
    rw [Nat.zero_add] at e
    subst e
    refine ⟨⟨xs, v, q1, hv⟩, fun x H'' y=>?_⟩
    obtain ⟨p, y', rfl, hp, rfl, y⟩:=y
    have:=y xs q1
    rw [hv] at this
    cases this
    exact ⟨Same.new hp, zpa hp (zdy hA hp) (zde zah (zde rv zdf))⟩
 ·cases e
theorem zzq {K : PySem.W.Frag} {ta : TA} {f : AF} (h1 : SA ta f) : SI (iEnumX K ta) (zuz f):=fun fx H0 env σ H h ds bs e R q =>
 zaci h1 fx H0 env σ H h ds bs (by
  unfold zuz at e
  unfold zzp
  obtain ⟨rs, er, e⟩:=Option.bind_eq_some_iff.mp e
  rw [er]
  cases rs with
  | nil=>cases e
  | cons r t =>
   cases t with
   | nil =>
    obtain ⟨d, fr, b⟩:=r
    cases d <;> first | exact e | cases e
   | cons _ _=>cases e) R q
end L2
namespace L2
open PySem PySem.Spec PyProof.Rows
end L2
namespace L2
open PySem PySem.Spec PyProof.Rows
noncomputable def isStar : Expr → Bool
 | .Starred ..=>true
 | _=>false
theorem zag {e : Expr} {es : List Expr} {env : Env} (h : isStar e = false) : starEach (e :: es) env = (false, eval e env) :: starEach es env:=by
 cases e <;> first
  | rfl
  | cases h
theorem zacj {X : Cx} {e : Expr} {es : List Expr} {te : TE} {t : TA} (ha : PE X e te) (hr : PA X es t) (hs : isStar e = false:=by rfl) : PA X (e :: es) (tCons te t):=zle ha hr (zag hs)
end L2
namespace L2
open PySem PySem.Spec PyProof.Rows
end L2
namespace L2
open PySem PySem.Spec PyProof.Rows
end L2
namespace PySem.SeqAt
open AutoSeq1 (wpAny_loadPart')
open MeetsSeq PyProof.Rows
section
variable {A : Around} {s : Shared}
end
end PySem.SeqAt
namespace L2
open PySem PySem.Spec PyProof.Rows
section
variable {X : Cx}
end
end L2
namespace L2
open PySem PySem.Spec PyProof.Rows
structure Bx (p : Prop) : Prop where
 out : p
theorem Bx.pt {X : Cx} {e : Expr} {t : TT} (h : Bx (PW X e t)) : Bx (PT X e t):=⟨h.out.pt⟩
theorem zao : ∀ {X : L2.Cx} {i : Int} {j : Nat} {pos : PySem.Pos}, L2.Bx (L2.PE X (PySem.Expr.Constant (PySem.Const.int i) j pos) (L2.tC (L2.V.int i))):=by
 intro X i j pos
 exact ⟨@zfy X i j pos⟩
theorem zai : ∀ {X : L2.Cx}, L2.Bx (L2.PA X [] L2.tNil):=by
 intro X
 exact ⟨@zns X⟩
theorem zab : ∀ {X : L2.Cx} {e : PySem.Expr} {es : List PySem.Expr} {te : L2.TE} {t : L2.TA}, L2.Bx (L2.PE X e te) → L2.Bx (L2.PA X es t) → L2.isStar e = Bool.false → L2.Bx (L2.PA X (e :: es) (L2.tCons te t)):=by
 intro X e es te t ha hr hs
 exact ⟨@zacj X e es te t ha.out hr.out hs⟩
theorem zbe : ∀ {X : L2.Cx} {a b : PySem.Expr} {ta tb : L2.TE} {pos : PySem.Pos} {op : PySem.Operator} {r : L2.R2}, L2.OpR X (PySem.binaryOp op) r → L2.Bx (L2.PE X a ta) → L2.Bx (L2.PE X b tb) → L2.Bx (L2.PE X (a.BinOp op b pos) (L2.tOp r ta tb)):=by
 intro X a b ta tb pos op r ho ha hb
 exact ⟨@ziu X a b ta tb pos op r ho ha.out hb.out⟩
theorem zaj : ∀ {X : L2.Cx} {st : PySem.Stmt} {t : L2.TS}, L2.Bx (L2.PS X st t) → L2.Bx (L2.PSs X [st] t):=by
 intro X st t h1
 exact ⟨@zka X st t h1.out⟩
theorem zae : ∀ {X : L2.Cx} {st : PySem.Stmt} {rest : List PySem.Stmt} {t u : L2.TS}, L2.Bx (L2.PS X st t) → L2.Bx (L2.PSs X rest u) → L2.Bx (L2.PSs X (st :: rest) (L2.tSeq t u)):=by
 intro X st rest t u h1 h2
 exact ⟨@zjg X st rest t u h1.out h2.out⟩
theorem zbn : ∀ {X : L2.Cx} {x : PySem.Str} {p pos : PySem.Pos} {e : PySem.Expr} {es : List PySem.Expr} {t : L2.TA} {ps : List PySem.Str} {k : Nat} {sp : L2.Sp}, L2.Dn X.prog X.w X.K X.mg X.base x ps k sp → L2.Room k X.A → L2.Gl X x → L2.Bx (L2.PA X (e :: es) t) → (x == PySem.Str.ofString "__debug__") = Bool.false → PySem.starEach (e :: es) X.env = (Bool.false, PySem.eval e X.env) :: PySem.starEach es X.env → ((PySem.backTo pos (PySem.starEach es X.env)).any fun (x : Bool × PySem.Sem PySem.Value)=>x.fst) = Bool.false → L2.Bx (L2.PE X ((PySem.Expr.Name x p).Call (e :: es) [] pos) (L2.tCall sp [] L2.E0 t)):=by
 intro X x p pos e es t ps k sp D hr hg ha hdb he hpl
 exact ⟨@zaja X x p pos e es t ps k sp D hr hg ha.out hdb he hpl⟩
theorem zaz : ∀ {X : L2.Cx} {e : PySem.Expr} {te : L2.TE} {pos : PySem.Pos}, L2.Bx (L2.PE X e te) → L2.Bx (L2.PS X (PySem.Stmt.Return (Option.some e) pos) (L2.tRet te)):=by
 intro X e te pos he
 exact ⟨@zada X e te pos he.out⟩
theorem zau : ∀ {X : L2.Cx} {pos : PySem.Pos} {i : Nat} {x : PySem.Str} {e : PySem.Expr} {te : L2.TE} {pos' : PySem.Pos}, X.N.Nodup → X.N[i]? = Option.some x → L2.Loc X.env.scope x → L2.Bx (L2.PE X e te) → PySem.swapsWith e (Option.some (PySem.Expr.Name x pos')) pos.line X.env = Pure.pure Bool.false → X.fn x = Bool.true ∨ List.lookup x X.env.scope.names = Option.some PySem.NameKind.local → L2.Bx (L2.PS X (PySem.Stmt.Assign [PySem.Expr.Name x pos'] e pos) (L2.tAsg te (L2.gName i))):=by
 intro X pos i x e te pos' hN hi hx he hs hf
 exact ⟨@zul X pos i x e te pos' hN hi hx he.out hs hf⟩
theorem zbg : ∀ {X : L2.Cx} {x : PySem.Str} {p pos : PySem.Pos} {e : PySem.Expr} {es : List PySem.Expr} {t : L2.TA} {id : String} {r : List L2.V → L2.Hp → L2.VK → Prop}, L2.CallR X (PySem.Value.builtin id) r → L2.Gl X x → X.mg x = Option.none → PySem.bootBuiltins x = Option.some (PySem.Value.builtin id) → L2.Bx (L2.PA X (e :: es) t) → x ≠ PySem.Str.ofString "__name__" → (x == PySem.Str.ofString "__debug__") = Bool.false → PySem.starEach (e :: es) X.env = (Bool.false, PySem.eval e X.env) :: PySem.starEach es X.env → ((PySem.backTo pos (PySem.starEach es X.env)).any fun (x : Bool × PySem.Sem PySem.Value)=>x.fst) = Bool.false → L2.Bx (L2.PE X ((PySem.Expr.Name x p).Call (e :: es) [] pos) (L2.tCB r t)):=by
 intro X x p pos e es t id r hc hg hm hv ha hn hdb he hpl
 exact ⟨@zum X x p pos e es t id r hc hg hm hv ha.out hn hdb he hpl⟩
theorem zep : ∀ {X : L2.Cx} {b : Bool} {j : Nat} {pos : PySem.Pos}, L2.Bx (L2.PE X (PySem.Expr.Constant (PySem.Const.bool b) j pos) (L2.tC (L2.V.bl b))):=by
 intro X b j pos
 exact ⟨@zaip X b j pos⟩
theorem zeq : ∀ {X : L2.Cx} {a b : PySem.Expr} {ta tb : L2.TE} {pos : PySem.Pos} {r : L2.R2}, L2.IxR X r → L2.Bx (L2.PE X a ta) → L2.Bx (L2.PE X b tb) → L2.PlainIx b → L2.Bx (L2.PE X (a.Subscript b pos) (L2.tOp r ta tb)):=by
 intro X a b ta tb pos r hr ha hb hs
 exact ⟨@zahi X a b ta tb pos r hr ha.out hb.out hs⟩
theorem zck : ∀ {X : L2.Cx} {t u : L2.TS} {pos : PySem.Pos} {c : PySem.Expr} {a b : List PySem.Stmt} {tc : L2.TT}, L2.Bx (L2.PT X c tc) → L2.Bx (L2.PSs X a t) → L2.Bx (L2.PSs X b u) → L2.Bx (L2.PS X (PySem.Stmt.If c a b pos) (L2.tIfS tc t u)):=by
 intro X t u pos c a b tc hc ha hb
 exact ⟨@zagz X t u pos c a b tc hc.out ha.out hb.out⟩
theorem zbh : ∀ {X : L2.Cx}, L2.Bx (L2.PSs X [] L2.tNext):=by
 intro X
 exact ⟨@zaeb X⟩
theorem zfv : ∀ {X : L2.Cx} {a : PySem.Expr} {pos : PySem.Pos} {tA : L2.TT}, L2.Bx (L2.PT X a tA) → L2.Bx (L2.PT X (PySem.Expr.UnaryOp PySem.UnaryOp.Not a pos) (L2.tNot tA)):=by
 intro X a pos tA ha
 exact ⟨@zagy X a pos tA ha.out⟩
theorem zbs : ∀ {X : L2.Cx} {K : PySem.W.Frag},
 X.K = K →
  ∀ {a : PySem.Expr} {ta : L2.TE},
   L2.Bx (L2.PE X a ta) →
    (∀ (whole : PySem.Sem PySem.Value),
      PySem.isTrue a X.env whole = do
       let v ← whole
       PySem.standAt a.pos
       PySem.holding [v] (PySem.truthy v)) →
     L2.Bx (L2.PT X a fun (σ : L2.St) (H : L2.Hp) (Q : Bool → L2.Hp → Prop)=>ta σ H fun (x : L2.V) (H' : L2.Hp)=>∃ (k : Bool), L2.TruV K x H' k ∧ Q k H'):=by
 intro X K hK a ta ha he
 exact ⟨@zyl X K hK a ta ha.out he⟩
theorem zax : ∀ {X : L2.Cx} {pos : PySem.Pos} {i : Nat} {x : PySem.Str}, X.N.Nodup → X.N[i]? = Option.some x → L2.Loc X.env.scope x → X.fn x = Bool.true ∨ List.lookup x X.env.scope.names = Option.some PySem.NameKind.local → L2.Bx (L2.PG X (PySem.Expr.Name x pos) (L2.gName i)):=by
 intro X pos i x hN hi hx hf
 exact ⟨@zsr X pos i x hN hi hx hf⟩
theorem zex : ∀ {X : L2.Cx} {es : List PySem.Expr} {t : L2.TA} {pos : PySem.Pos}, L2.Bx (L2.PA X es t) → L2.Bx (L2.PE X (PySem.Expr.List es pos) (L2.tLst t)):=by
 intro X es t pos h
 exact ⟨@zadc X es t pos h.out⟩
theorem zcy : ∀ {X : L2.Cx} {tg iter : PySem.Expr} {body : List PySem.Stmt} {wi : L2.TI} {g : L2.TG} {tb : L2.TS} {pos : PySem.Pos}, PySem.PassesOwn (PySem.model X.prog X.w) X.A X.env X.xe → X.calm = Bool.true → L2.Bx (L2.PI X tg iter wi) → L2.Bx (L2.PG X tg g) → L2.Bx (L2.PSs X body tb) → (∀ (x : PySem.Value), PySem.foldedSetIterable iter X.env x = Pure.pure x) → L2.Bx (L2.PS X (PySem.Stmt.For tg iter body [] pos) (L2.tFor wi g tb)):=by
 intro X tg iter body wi g tb pos hp hc hi hg hb hs
 exact ⟨@zwu X tg iter body wi g tb pos hp hc hi.out hg.out hb.out hs⟩
theorem zbk : ∀ {X : L2.Cx} {a b : PySem.Expr} {ta tb : L2.TE} {pos : PySem.Pos} {op : PySem.CmpOp} {r : L2.R2}, L2.OpR X (PySem.compareOp op) r → L2.Bx (L2.PE X a ta) → L2.Bx (L2.PE X b tb) → PySem.behindInMarks op b = Bool.false → L2.Bx (L2.PT X (a.Compare [op] [b] pos) (L2.tTest (L2.tOp r ta tb))):=by
 intro X a b ta tb pos op r ho ha hb hm
 exact ⟨@zwx X a b ta tb pos op r ho ha.out hb.out hm⟩
theorem zagf : ∀ {X : L2.Cx} {x : PySem.Str} {j : Nat} {pos : PySem.Pos}, L2.Bx (L2.PE X (PySem.Expr.Constant (PySem.Const.str x) j pos) (L2.tC (L2.V.str x))):=by
 intro X x j pos
 exact ⟨@zags X x j pos⟩
theorem zcc : ∀ {X : L2.Cx} {e : PySem.Expr} {te : L2.TE} {pos : PySem.Pos}, L2.Bx (L2.PE X e te) → PySem.swapsWith e Option.none pos.line X.env = Pure.pure Bool.false → L2.Bx (L2.PS X (PySem.Stmt.Expr e pos) (L2.tDrop te)):=by
 intro X e te pos he hs
 exact ⟨@zsq X e te pos he.out hs⟩
theorem ztr : ∀ {X : L2.Cx} {es : List PySem.Expr} {t : L2.TA} {pos : PySem.Pos} {x1 : Nat}, L2.Bx (L2.PA X es t) → L2.Bx (L2.PE X (PySem.Expr.Tuple es x1 pos) (L2.tTup t)):=by
 intro X es t pos x1 h
 exact ⟨@zahf X es t pos x1 h.out⟩
theorem zhe : ∀ {X : L2.Cx} {a b : PySem.Expr} {ta tb : L2.TE} {pos : PySem.Pos} {op : PySem.CmpOp} {r : L2.R2}, L2.OpR X (PySem.compareOp op) r → L2.Bx (L2.PE X a ta) → L2.Bx (L2.PE X b tb) → PySem.behindInMarks op b = Bool.false → L2.Bx (L2.PE X (a.Compare [op] [b] pos) (L2.tOp r ta tb)):=by
 intro X a b ta tb pos op r ho ha hb hm
 exact ⟨@zaef X a b ta tb pos op r ho ha.out hb.out hm⟩
theorem ziq : ∀ {X : L2.Cx} {x : PySem.Str} {p pos : PySem.Pos} {e : PySem.Expr} {es : List PySem.Expr} {t : L2.TA} {T : String} {r : List L2.V → L2.Hp → L2.VK → Prop}, L2.CallR X (PySem.Value.type T) r → L2.Gl X x → X.mg x = Option.none → PySem.bootBuiltins x = Option.some (PySem.Value.type T) → L2.Bx (L2.PA X (e :: es) t) → x ≠ PySem.Str.ofString "__name__" → (x == PySem.Str.ofString "__debug__") = Bool.false → PySem.starEach (e :: es) X.env = (Bool.false, PySem.eval e X.env) :: PySem.starEach es X.env → ((PySem.backTo pos (PySem.starEach es X.env)).any fun (x : Bool × PySem.Sem PySem.Value)=>x.fst) = Bool.false → L2.Bx (L2.PE X ((PySem.Expr.Name x p).Call (e :: es) [] pos) (L2.tCB r t)):=by
 intro X x p pos e es t T r hc hg hm hv ha hn hdb he hpl
 exact ⟨@zxc X x p pos e es t T r hc hg hm hv ha.out hn hdb he hpl⟩
theorem zld : ∀ {X : L2.Cx} {x : PySem.Str} {v : L2.V} {u : PySem.Value} {pos : PySem.Pos}, L2.Gl X x → X.mg x = Option.none → PySem.bootBuiltins x = Option.some u → L2.RelV v u → x ≠ PySem.Str.ofString "__name__" → (x == PySem.Str.ofString "__debug__") = Bool.false → L2.Bx (L2.PE X (PySem.Expr.Name x pos) (L2.tC v)):=by
 intro X x v u pos hg hm hv r hn hd
 exact ⟨@zadz X x v u pos hg hm hv r hn hd⟩
theorem zmj : ∀ {X : L2.Cx} {a : PySem.Expr} {pos : PySem.Pos} {tA : L2.TT}, L2.Bx (L2.PT X a tA) → L2.Bx (L2.PW X (PySem.Expr.BoolOp PySem.BoolOp.Or [a] pos) tA):=by
 intro X a pos tA ha
 exact ⟨@zagw X a pos tA ha.out⟩
theorem zju : ∀ {X : L2.Cx} {a b : PySem.Expr} {pos : PySem.Pos} {tA tB' : L2.TT} {rest : List PySem.Expr}, L2.Bx (L2.PT X a tA) → L2.Bx (L2.PW X (PySem.Expr.BoolOp PySem.BoolOp.Or (b :: rest) pos) tB') → L2.Bx (L2.PW X (PySem.Expr.BoolOp PySem.BoolOp.Or (a :: b :: rest) pos) (L2.tOr tA tB')):=by
 intro X a b pos tA tB' rest ha hb
 exact ⟨@zaiq X a b pos tA tB' rest ha.out hb.out⟩
theorem zga : ∀ {X : L2.Cx} {e : PySem.Expr} {te : L2.TE}, L2.Bx (L2.PE X e te) → L2.Bx (L2.PO X (Option.some e) (L2.tPart te)):=by
 intro X e te h
 exact ⟨@zxe X e te h.out⟩
theorem zir : ∀ {X : L2.Cx}, L2.Bx (L2.PO X Option.none L2.tNoPart):=by
 intro X
 exact ⟨@zxd X⟩
theorem zfw : ∀ {X : L2.Cx} {e : PySem.Expr} {te : L2.TE} {lo hi : Option PySem.Expr} {tl th : L2.TO} {pos p2 : PySem.Pos} {r : L2.V → Option Int → Option Int → L2.Hp → L2.VK → Prop}, L2.SlR X r → L2.Bx (L2.PE X e te) → L2.Bx (L2.PO X lo tl) → L2.Bx (L2.PO X hi th) → L2.Bx (L2.PE X (e.Subscript (PySem.Expr.Slice lo hi Option.none p2) pos) (L2.tSl r te tl th)):=by
 intro X e te lo hi tl th pos p2 r hr he hl hu
 exact ⟨@zun X e te lo hi tl th pos p2 r hr he.out hl.out hu.out⟩
theorem zda : ∀ {X : L2.Cx} {scope : PySem.Scope} {N' own : List PySem.Str} {fr : List Nat} {elt target iter : PySem.Expr} {ifs : List PySem.Expr} {cpos : PySem.Pos} {wi : L2.TI} {g : L2.TG} {tt : L2.TT} {te : L2.TE}, L2.CompOk X scope N' own fr → X.calm = Bool.true → L2.Bx (L2.PI X target iter wi) → (∀ (cl : List (PySem.Str × PySem.Addr)) (C : PySem.Addr) (s : PySem.Shared) (H : L2.Hp) (fp : List PySem.Addr), L2.PG (L2.cxComp X scope N' own cl C s H fp) target g ∧ L2.PF (L2.cxComp X scope N' own cl C s H fp) ifs tt ∧ L2.PE (L2.cxComp X scope N' own cl C s H fp) elt te) → (∀ (x : PySem.Value), PySem.foldedSetIterable iter X.env x = Pure.pure x) → L2.Bx (L2.PE X (elt.ListComp [{ target:=target, iter:=iter, ifs:=ifs, is_async:=0 }] scope cpos) (L2.tComp1 wi g tt te own fr)):=by
 intro X scope N' own fr elt target iter ifs cpos wi g tt te c hc hi hb hs
 exact ⟨@zabh X scope N' own fr elt target iter ifs cpos wi g tt te c hc hi.out hb hs⟩
theorem zeb : ∀ {X : L2.Cx} {K : PySem.W.Frag}, X.K = K → ∀ {T : String} {name : PySem.Str} {id : String} {r : L2.V → List L2.V → L2.Hp → L2.VK → Prop} {o e : PySem.Expr} {es : List PySem.Expr} {to : L2.TE} {t : L2.TA} {apos cpos : PySem.Pos}, PySem.PlainAttrs T → PySem.Slot T name id → PySem.typeOf (PySem.Value.builtin id) = Pure.pure (PySem.Value.type "method_descriptor") → L2.MtR X id r → L2.Bx (L2.PE X o to) → L2.Bx (L2.PA X (e :: es) t) → PySem.attributeBase o name X.env (PySem.eval o X.env) = PySem.eval o X.env → ((((PySem.backTo cpos (PySem.starEach (e :: es) X.env)).all fun (x : Bool × PySem.Sem PySem.Value)=>!x.fst) && (PySem.backToKw cpos (PySem.keywordEach [] X.env)).all fun (x : Option PySem.Str × PySem.Sem PySem.Value)=>x.fst.isSome) && Decidable.decide (((e :: es).length + ([] : List Keyword).length + if ([] : List Keyword).isEmpty = Bool.true then 0 else 1) < 30)) = Bool.true → (apos.endLine == cpos.line) = Bool.true → PySem.starEach (e :: es) X.env = (Bool.false, PySem.eval e X.env) :: PySem.starEach es X.env → ((PySem.backTo cpos (PySem.starEach es X.env)).any fun (x : Bool × PySem.Sem PySem.Value)=>x.fst) = Bool.false → L2.Bx (L2.PE X ((o.Attribute name apos).Call (e :: es) [] cpos) (L2.tBM K T r to t)):=by
 intro X K hK T name id r o e es to t apos cpos pa slot hty hm ho ha hbase hfew hline hs hplain
 exact ⟨@zxw X K hK T name id r o e es to t apos cpos pa slot hty hm ho.out ha.out hbase hfew hline hs hplain⟩
theorem zack : ∀ {X : L2.Cx} {pos : PySem.Pos}, L2.Bx (L2.PPs X pos [] [] []):=by
 intro X pos
 exact ⟨@zaes X pos⟩
theorem zzr : ∀ {X : L2.Cx} {pos : PySem.Pos} {k v : PySem.Expr} {ks : List (Option PySem.Expr)} {vs : List PySem.Expr} {tk tv : L2.TE} {trs : List (L2.TE × L2.TE)}, L2.Bx (L2.PE X k tk) → L2.Bx (L2.PE X v tv) → L2.Bx (L2.PPs X pos ks vs trs) → L2.Bx (L2.PPs X pos (Option.some k :: ks) (v :: vs) ((tk, tv) :: trs)):=by
 intro X pos k v ks vs tk tv trs hk hv hr
 exact ⟨@zabc X pos k v ks vs tk tv trs hk.out hv.out hr.out⟩
theorem zbi : ∀ {X : L2.Cx} {K : PySem.W.Frag}, X.K = K → ∀ {tg l : PySem.Expr} {tl : L2.TE}, L2.Bx (L2.PE X l tl) → L2.Bx (L2.PI X tg l (L2.iSeq K tl)):=by
 intro X K hK tg l tl hl
 exact ⟨@zafi X K hK tg l tl hl.out⟩
theorem zkk : ∀ {X : L2.Cx} {tg a : PySem.Expr} {ta : L2.TA} {p pos : PySem.Pos}, L2.Gl X (PySem.Str.ofString "range") → X.mg (PySem.Str.ofString "range") = Option.none → L2.Bx (L2.PA X [a] ta) → PySem.starEach [a] X.env = [(Bool.false, PySem.eval a X.env)] → L2.Bx (L2.PI X tg ((PySem.Expr.Name (PySem.Str.ofString "range") p).Call [a] [] pos) (L2.iRng1 ta)):=by
 intro X tg a ta p pos hg hm ha hs
 exact ⟨@zpu X tg a ta p pos hg hm ha.out hs⟩
theorem zmk : ∀ {X : L2.Cx}, L2.Bx (L2.PF X [] L2.tAll):=by
 intro X
 exact ⟨@zahr X⟩
theorem zml : ∀ {X : L2.Cx} {j : Nat} {pos : PySem.Pos}, L2.Bx (L2.PE X (PySem.Expr.Constant PySem.Const.none j pos) (L2.tC L2.V.non)):=by
 intro X j pos
 exact ⟨@zagr X j pos⟩
theorem zmm : ∀ {X : L2.Cx} {pos : PySem.Pos}, L2.Bx (L2.PE X (PySem.Expr.Dict [] [] pos) L2.tDNewK):=by
 intro X pos
 exact ⟨@zabb X pos⟩
theorem zacl : ∀ {X : L2.Cx} {pos : PySem.Pos} {keys : List (Option PySem.Expr)} {values : List PySem.Expr} {trs : List (L2.TE × L2.TE)}, L2.Bx (L2.PPs X pos keys values trs) → (keys.all fun (x : Option PySem.Expr)=>x.isSome) = Bool.true → keys.length = values.length → keys ≠ [] → keys.length ≤ 15 → L2.Bx (L2.PE X (PySem.Expr.Dict keys values pos) (L2.tDisp trs)):=by
 intro X pos keys values trs h hall hl h0 h15
 exact ⟨@zaet X pos keys values trs h.out hall hl h0 h15⟩
theorem zkl : ∀ {X : L2.Cx} {c : PySem.Expr} {t : L2.TT}, L2.Bx (L2.PT X c t) → L2.Bx (L2.PF X [c] t):=by
 intro X c t h
 exact ⟨@zahs X c t h.out⟩
theorem zbo : ∀ {X : L2.Cx} {o i : PySem.Expr} {pos : PySem.Pos} {td ty : L2.TE}, X.A.units + 1 < PySem.cLine → L2.Bx (L2.PE X o td) → L2.Bx (L2.PE X i ty) → L2.NoSl i → L2.Bx (L2.PE X (o.Subscript i pos) (L2.tDGet td ty)):=by
 intro X o i pos td ty hu ho hi hs
 exact ⟨@zaeq X o i pos td ty hu ho.out hi.out hs⟩
theorem zvh : ∀ {X : L2.Cx} {a : PySem.Expr} {pos : PySem.Pos} {tA : L2.TT}, L2.Bx (L2.PT X a tA) → L2.Bx (L2.PW X (PySem.Expr.BoolOp PySem.BoolOp.And [a] pos) tA):=by
 intro X a pos tA ha
 exact ⟨@zaea X a pos tA ha.out⟩
theorem zzs : ∀ {X : L2.Cx} {a b : PySem.Expr} {pos : PySem.Pos} {tA tB' : L2.TT} {rest : List PySem.Expr}, L2.Bx (L2.PT X a tA) → L2.Bx (L2.PW X (PySem.Expr.BoolOp PySem.BoolOp.And (b :: rest) pos) tB') → L2.Bx (L2.PW X (PySem.Expr.BoolOp PySem.BoolOp.And (a :: b :: rest) pos) (L2.tAnd tA tB')):=by
 intro X a b pos tA tB' rest ha hb
 exact ⟨@zagx X a b pos tA tB' rest ha.out hb.out⟩
theorem zzt : ∀ {X : L2.Cx} {pos : PySem.Pos} {c : PySem.Expr} {body : List PySem.Stmt} {tc : L2.TT} {tb : L2.TS}, PySem.PassesOwn (PySem.model X.prog X.w) X.A X.env X.xe → L2.Bx (L2.PT X c tc) → L2.Bx (L2.PSs X body tb) → L2.Bx (L2.PS X (PySem.Stmt.While c body [] pos) (L2.tWhile tc tb)):=by
 intro X pos c body tc tb hp hc hb
 exact ⟨@zaat X pos c body tc tb hp hc.out hb.out⟩
theorem zzu : ∀ {X : L2.Cx} {st : PySem.Stmt}, L2.Bx (L2.PS X st L2.tNever):=by
 intro X st
 exact ⟨@zaar X st⟩
theorem zvi : ∀ {X : L2.Cx} {o i value : PySem.Expr} {pos pos' : PySem.Pos} {td ty tv : L2.TE}, X.A.units + 1 < PySem.cLine → L2.Bx (L2.PE X o td) → L2.Bx (L2.PE X i ty) → L2.Bx (L2.PE X value tv) → PySem.swapsWith value (Option.some (o.Subscript i pos')) pos.line X.env = Pure.pure Bool.false → L2.Bx (L2.PS X (PySem.Stmt.Assign [o.Subscript i pos'] value pos) (L2.sDPut td ty tv)):=by
 intro X o i value pos pos' td ty tv hu ho hi hv hs
 exact ⟨@zaer X o i value pos pos' td ty tv hu ho.out hi.out hv.out hs⟩
theorem zzv : ∀ {X : L2.Cx} {scope : PySem.Scope} {N' own : List PySem.Str} {fr : List Nat} {elt target iter : PySem.Expr} {ifs : List PySem.Expr} {cpos : PySem.Pos} {wi : L2.TI} {g : L2.TG} {tt : L2.TT} {te : L2.TE} {spos py : PySem.Pos} {i : Nat} {y : PySem.Str}, L2.CompOk X scope N' own fr → X.calm = Bool.true → L2.Bx (L2.PI X target iter wi) → (∀ (cl : List (PySem.Str × PySem.Addr)) (C : PySem.Addr) (s : PySem.Shared) (H : L2.Hp) (fp : List PySem.Addr), L2.PG (L2.cxComp X scope N' own cl C s H fp) target g ∧ L2.PF (L2.cxComp X scope N' own cl C s H fp) ifs tt ∧ L2.PE (L2.cxComp X scope N' own cl C s H fp) elt te) → PySem.swapsWith (elt.ListComp [{ target:=target, iter:=iter, ifs:=ifs, is_async:=0 }] scope cpos) (Option.some (PySem.Expr.Name y py)) spos.line X.env = Pure.pure Bool.true → X.N.Nodup → X.N[i]? = Option.some y → List.lookup y X.env.scope.names = Option.some PySem.NameKind.local → (∀ (x : PySem.Value), PySem.foldedSetIterable iter X.env x = Pure.pure x) → L2.Bx (L2.PS X (PySem.Stmt.Assign [PySem.Expr.Name y py] (elt.ListComp [{ target:=target, iter:=iter, ifs:=ifs, is_async:=0 }] scope cpos) spos) (L2.tAsgC1 wi g tt te own fr i)):=by
 intro X scope N' own fr elt target iter ifs cpos wi g tt te spos py i y c hc hi hb hsw hN hy hl hs
 exact ⟨@zabi X scope N' own fr elt target iter ifs cpos wi g tt te spos py i y c hc hi.out hb hsw hN hy hl hs⟩
theorem zzw : ∀ {X : L2.Cx} {K : PySem.W.Frag}, X.K = K → ∀ {a : PySem.Expr} {ta : L2.TA} {p pos : PySem.Pos} {elts : List PySem.Expr} {x1 : Nat} {tpos : PySem.Pos}, L2.Gl X (PySem.Str.ofString "enumerate") → X.mg (PySem.Str.ofString "enumerate") = Option.none → L2.Bx (L2.PA X [a] ta) → PySem.starEach [a] X.env = [(Bool.false, PySem.eval a X.env)] → L2.Bx (L2.PI X (PySem.Expr.Tuple elts x1 tpos) ((PySem.Expr.Name (PySem.Str.ofString "enumerate") p).Call [a] [] pos) (L2.iEnumX K ta)):=by
 intro X K hK a ta p pos elts x1 tpos hg hm ha hs
 exact ⟨@zach X K hK a ta p pos elts x1 tpos hg hm ha.out hs⟩
theorem zjv : ∀ {X : L2.Cx}, L2.Bx (L2.PGs X [] L2.gNil):=by
 intro X
 exact ⟨@zaec X⟩
theorem zdb : ∀ {X : L2.Cx} {e : PySem.Expr} {es : List PySem.Expr} {t : L2.TG} {u : L2.TGs}, L2.Bx (L2.PG X e t) → L2.Bx (L2.PGs X es u) → List.map (fun (x : Bool × (PySem.Value → PySem.Sem Unit))=>x.snd) (PySem.assignEach (e :: es) X.env) = PySem.assign e X.env :: List.map (fun (x : Bool × (PySem.Value → PySem.Sem Unit))=>x.snd) (PySem.assignEach es X.env) → L2.Bx (L2.PGs X (e :: es) (L2.gCons t u)):=by
 intro X e es t u h1 h2 hs
 exact ⟨@zaas X e es t u h1.out h2.out hs⟩
theorem zjw : ∀ {X : L2.Cx} {K : PySem.W.Frag}, X.K = K → ∀ {es : List PySem.Expr} {k : Nat} {t : L2.TGs} {n : Nat} {pos : PySem.Pos}, X.calm = Bool.true → L2.Bx (L2.PGs X es t) → (PySem.assignEach es X.env).length = n → List.findIdx? (fun (x : Bool × (PySem.Value → PySem.Sem Unit))=>x.fst) (PySem.assignEach es X.env) = Option.none → L2.Bx (L2.PG X (PySem.Expr.Tuple es k pos) (L2.gTup K n t)):=by
 intro X K hK es k t n pos hc h hn hst
 exact ⟨@zafa X K hK es k t n pos hc h.out hn hst⟩
theorem zog : ∀ {X : L2.Cx} {a : PySem.Expr} {ta : L2.TE} {pos : PySem.Pos} {op : PySem.UnaryOp} {r : L2.V → L2.Hp → L2.VK → Prop}, L2.UnR X (PySem.unaryOp op) r → L2.Bx (L2.PE X a ta) → L2.Bx (L2.PE X (PySem.Expr.UnaryOp op a pos) (L2.tUn r ta)):=by
 intro X a ta pos op r ho ha
 exact ⟨@zair X a ta pos op r ho ha.out⟩
theorem zkm : ∀ {X : L2.Cx} {a : PySem.Expr} {ta : L2.TE} {j : Nat} {pos' : PySem.Pos}, L2.Bx (L2.PE X a ta) → L2.Bx (L2.PC X PySem.CmpOp.Is a (PySem.Expr.Constant PySem.Const.none j pos') (L2.tIsN ta)):=by
 intro X a ta j pos' ha
 exact ⟨@zagt X a ta j pos' ha.out⟩
theorem zwf : ∀ {X : L2.Cx} {o i : PySem.Expr} {td ty : L2.TE}, X.A.units + 1 < PySem.cLine → L2.Bx (L2.PE X i ty) → L2.Bx (L2.PE X o td) → L2.Bx (L2.PC X PySem.CmpOp.NotIn i o (L2.tDNotIn ty td)):=by
 intro X o i td ty hu hi ho
 exact ⟨@zxk X o i td ty hu hi.out ho.out⟩
theorem zpk : ∀ {X : L2.Cx} {o i : PySem.Expr} {td ty : L2.TE}, X.A.units + 1 < PySem.cLine → L2.Bx (L2.PE X i ty) → L2.Bx (L2.PE X o td) → L2.Bx (L2.PC X PySem.CmpOp.In i o (L2.tDIn ty td)):=by
 intro X o i td ty hu hi ho
 exact ⟨@zahq X o i td ty hu hi.out ho.out⟩
theorem zts : ∀ {X : L2.Cx} {a b : PySem.Expr} {pos : PySem.Pos} {op : PySem.CmpOp} {t : L2.TE}, L2.Bx (L2.PC X op a b t) → PySem.behindInMarks op b = Bool.false → L2.Bx (L2.PE X (a.Compare [op] [b] pos) t):=by
 intro X a b pos op t h h1
 exact ⟨@zagu X a b pos op t h.out h1⟩
theorem zid : ∀ {X : L2.Cx} {a b : PySem.Expr} {pos : PySem.Pos} {op : PySem.CmpOp} {t : L2.TE}, L2.Bx (L2.PC X op a b t) → PySem.behindInMarks op b = Bool.false → L2.Bx (L2.PT X (a.Compare [op] [b] pos) (L2.tB t)):=by
 intro X a b pos op t h h1
 exact ⟨@zagv X a b pos op t h.out h1⟩
theorem bv {X : Cx} (i : Nat) {x : Str} {pos : Pos} (hN : X.N[i]? = some x:=by rfl) (hv : visB X.env.scope x = true:=by rfl) (hd : (x == ("__debug__" : Str)) = false:=by decide)
  (hcd : (x == ("__classdict__" : Str)) = false:=by decide) : Bx (PE X (.Name x pos) (tVar i)):=⟨zacz hN (visB.of hv) hd hcd⟩
end L2
namespace L2
open PySem PySem.Spec PyProof.Rows
end L2
namespace L2
open PySem PySem.Spec PyProof.Rows
end L2
namespace L2
open PySem PySem.Spec PyProof.Rows
noncomputable def SatK (fx : Addr → Prop) (H0 : Hp) (J : Nat → Prop) (σ0 : St) (D : Ends) : Out → Prop
 | .nx env=>∀ σ H, EnvOk fx H0 env σ H → (∀ j, J j → σ[j]? = σ0[j]?) → D.nx σ H
 | .bk env=>∀ σ H, EnvOk fx H0 env σ H → (∀ j, J j → σ[j]? = σ0[j]?) → D.bk σ H
 | .ct env=>∀ σ H, EnvOk fx H0 env σ H → (∀ j, J j → σ[j]? = σ0[j]?) → D.ct σ H
 | .rt d fr=>∀ v H, Same H0 H → zpd fx H0 d fr v H → D.rt v H
noncomputable def SSk (J : Nat → Prop) (ts : TS) (F : SF) : Prop:=∀ (fx : Addr → Prop) (H0 : Hp) (env : DEnv) (σ : St) (H : Hp) (D : Ends), EnvOk fx H0 env σ H → ∀ o, F env = some o → SatK fx H0 J σ D o → ts D σ H
section
variable {J : Nat → Prop}
theorem ztt : SSk J tNext sNil:=by
 intro fx H0 env σ H D h o e q
 cases e
 exact q σ H h fun _ _=>rfl
theorem zzx {te : TE} {f : EF} {i : Nat} (h1 : SE te f) (hJ : ¬ J i) : SSk J (tAsg te (gName i)) (sSet i f):=by
 intro fx H0 env σ H D h o e q
 unfold sSet at e
 obtain ⟨r, er, rfl⟩:=Option.map_eq_some_iff.mp e
 exact h1 fx H0 env σ H h r er _ fun v H' s hv=>q _ H' (h.put s hv i) fun j hj=>List.getElem?_set_ne fun z=>hJ (by rw [z]; exact hj)
theorem ztu {te : TE} {f : EF} (h1 : SE te f) : SSk J (tRet te) (sRet f):=fun fx H0 env σ H D h o e q=>zca h1 fx H0 env σ H D h o e (by
 unfold sRet at e
 obtain ⟨r, er, rfl⟩:=Option.map_eq_some_iff.mp e
 exact q)
theorem zzy {tc : TT} {t u : TS} {c : TF} {f g : SF} (hc : ST tc c) (h1 : SSk J t f) (h2 : SSk J u g) : SSk J (tIfS tc t u) (sIf c f g):=by
 intro fx H0 env σ H D h o e q
 unfold sIf at e
 obtain ⟨b, eb, e⟩:=Option.bind_eq_some_iff.mp e
 refine hc fx H0 env σ H h b eb _ fun H' s=>?_
 cases b with
 | true=>exact iteT (h1 fx H0 env σ H' D (h.up s) o e q)
 | false=>exact iteF (h2 fx H0 env σ H' D (h.up s) o e q)
end
end L2
namespace L2
open PySem PySem.Spec PyProof.Rows
structure Row (fx : Addr → Prop) (H0 : Hp) (u k : Nat) (key : Str) (a l : Addr) (ps : List (Key × V)) (xs : List V) (σ : St) (H : Hp) : Prop where
 fa : fx a
 fl : fx l
 zl : H0 l = none
 su : σ[u]? = some (some (.ref a))
 sk : σ[k]? = some (some (.str key))
 ha : H a = some (.dK ps)
 hp : valV ps (Sum.inr key) = some (.ref l)
 hl : H l = some (.lst xs)
 nal : a ≠ l
theorem Row.up {fx : Addr → Prop} {H0 H0' : Hp} {u k : Nat} {key : Str} {a l : Addr} {ps : List (Key × V)} {xs : List V} {σ σ' : St} {H H' : Hp} (r : Row fx H0 u k key a l ps xs σ H) (z : H0' l = none) (h1 : σ'[u]? = σ[u]?) (h2 : σ'[k]? = σ[k]?) (h3 : ∀ o, H a = some o → H' a = some o) (h4 : ∀ o, H l = some o → H' l = some o) : Row fx H0' u k key a l ps xs σ' H' :=
 ⟨r.fa, r.fl, z, h1.trans r.su, h2.trans r.sk, h3 _ r.ha, r.hp, h4 _ r.hl, r.nal⟩
theorem EnvOk.notOwn {fx : Addr → Prop} {H0 : Hp} {env : DEnv} {σ : St} {H : Hp} (h : EnvOk fx H0 env σ H) {b : Addr} (f : fx b) : ¬ own env σ b:=by
 rintro ⟨i, d, h1, h2⟩
 obtain ⟨c, g1, _, g3, _⟩:=h.ac i d h1
 rw [h2] at g1
 cases g1
 exact g3 f
noncomputable abbrev BF:=DEnv → Option (Out × Option PyData)
noncomputable def SatB (fx : Addr → Prop) (H0 : Hp) (u k : Nat) (key : Str) (a l : Addr) (ps : List (Key × V)) (xs : List V) (D : Ends) : Out × Option PyData → Prop
 | (.nx env, none)=>∀ σ H, EnvOk fx H0 env σ H → Row fx H0 u k key a l ps xs σ H → D.nx σ H
 | (.nx env, some d)=>∀ σ H v, (∀ H', Rp H' d v) → EnvOk fx H0 env σ H → Row fx H0 u k key a l ps (xs ++ [v]) σ H → D.nx σ H
 | (.rt d fr, _)=>∀ v H, Same H0 H → zpd fx H0 d fr v H → D.rt v H
 | _=>False
noncomputable def SB (u k : Nat) (t : TS) (f : BF) : Prop:=∀ (fx : Addr → Prop) (H0 : Hp) (env : DEnv) (σ : St) (H : Hp) (D : Ends) (key : Str) (a l : Addr) (ps : List (Key × V)) (xs : List V), EnvOk fx H0 env σ H → Row fx H0 u k key a l ps xs σ H → xs.length < 100000 →
 ∀ z, f env = some z → SatB fx H0 u k key a l ps xs D z → t D σ H
theorem zzz {u k : Nat} {t : TS} {f : SF} (h1 : SSk (fun j=>j = u ∨ j = k) t f) {fx : Addr → Prop} {H0 : Hp} {env : DEnv} {σ : St} {H : Hp} {D : Ends} {key : Str} {a l : Addr} {ps : List (Key × V)} {xs : List V} (h : EnvOk fx H0 env σ H) (r : Row fx H0 u k key a l ps xs σ H) {o : Out} (e : f env = some o)
  (q : match o with
   | .nx env'=>∀ σ' H', EnvOk fx H0 env' σ' H' → Row fx H0 u k key a l ps xs σ' H' → D.nx σ' H'
   | .rt d fr=>∀ v H', Same H0 H' → zpd fx H0 d fr v H' → D.rt v H'
   | _=>False) : t D σ H:=by
 refine h1 fx _ env σ H D h.rebase o e ?_
 have see : ∀ b o, fx b → H b = some o → Offs (own env σ) H b = some o:=fun b o f e=>by rw [Offs.get (h.notOwn f)]; exact e
 cases o with
 | nx env' =>
  exact fun σ' H' hE kp=>q σ' H' (hE.unbase h.floor) (r.up r.zl (kp u (.inl rfl)) (kp k (.inr rfl)) (fun o e=>hE.base _ _ (see a o r.fa e)) fun o e=>hE.base _ _ (see l o r.fl e))
 | rt d fr=>exact fun v H' s rt=>q v H' (h.floor.trans s) (rt.unbase h.floor)
 | bk _=>exact q.elim
 | ct _=>exact q.elim
noncomputable def bSeq (f : SF) (g : BF) : BF:=fun env=>(f env).bind fun o=>match o with
 | .nx e=>g e
 | .rt d fr=>some (.rt d fr, none)
 | _=>none
theorem zvj {u k : Nat} {t t2 : TS} {f : SF} {g : BF} (h1 : SSk (fun j=>j = u ∨ j = k) t f) (h2 : SB u k t2 g) : SB u k (tSeq t t2) (bSeq f g):=by
 intro fx H0 env σ H D key a l ps xs h r hx z e q
 unfold bSeq at e
 obtain ⟨o, eo, e⟩:=Option.bind_eq_some_iff.mp e
 refine zzz (D:={ D with nx:=t2 D }) h1 h r eo ?_
 cases o with
 | nx env'=>exact fun σ' H' hE r'=>h2 fx H0 env' σ' H' D key a l ps xs hE r' hx z e q
 | rt d fr=>cases e; exact q
 | bk _=>cases e
 | ct _=>cases e
noncomputable def bEnd (c : TF) (inn : SF) (o : Nat) : BF:=fun env=>(c env).bind fun b=>if b = true then (inn env).bind fun w=>match w with
  | .nx e=>match (e[o]? : Option Sl) with
   | some (.pl d)=>if zdv d = true then some (.nx e, some d) else none
   | _=>none
  | .rt d fr=>some (.rt d fr, none)
  | _=>none
 else some (.nx env, none)
theorem zaij {K : PySem.W.Frag} {u k o : Nat} {tc : TT} {c : TF} {tin : TS} {inn : SF} (hc : ST tc c) (h1 : SSk (fun j=>j = u ∨ j = k) tin inn) :
  SB u k (tIfS tc (tSeq tin (tDrop (tBM K "list" zlh (tDGet (tVar u) (tVar k)) (tCons (tVar o) tNil)))) tNext) (bEnd c inn o):=by
 intro fx H0 env σ H D key a l ps xs h r hx z e q
 unfold bEnd at e
 obtain ⟨b, eb, e⟩:=Option.bind_eq_some_iff.mp e
 refine hc fx H0 env σ H h b eb _ fun H1 s1=>?_
 have r1 : Row fx H0 u k key a l ps xs σ H1:=r.up r.zl rfl rfl (fun o=>s1 a o) fun o=>s1 l o
 cases b with
 | false =>
  cases e
  exact iteF (q σ H1 (h.up s1) r1)
 | true =>
  refine iteT ?_
  have e : ((inn env).bind fun w=>match w with
   | .nx e=>match (e[o]? : Option Sl) with
    | some (.pl d)=>if zdv d = true then some (Out.nx e, some d) else none
    | _=>none
   | .rt d fr=>some (.rt d fr, none)
   | _=>none) = some z:=e
  obtain ⟨w, ew, e⟩:=Option.bind_eq_some_iff.mp e
  refine zzz (D:={ D with nx:=(tDrop (tBM K "list" zlh (tDGet (tVar u) (tVar k)) (tCons (tVar o) tNil))) D }) h1 (h.up s1) r1 ew ?_
  cases w with
  | nx env' =>
   have e : (match (env'[o]? : Option Sl) with
    | some (.pl d)=>if zdv d = true then some (Out.nx env', some d) else none
    | _=>none) = some z:=e
   split at e
   ·rename_i d ed
    split at e
    ·rename_i hf
     cases e
     intro σ' H' hE r'
     obtain ⟨v, hv, rv⟩:=hE.pl o d ed
     have dg:=DGet.k (k:=(Sum.inr key : Key)) r'.ha
     rw [r'.hp] at dg
     refine ⟨_, r'.su, _, r'.sk, a, .ref l, rfl, dg, .inl ⟨rfl, _, SqL.of r'.hl⟩, v, hv, l, xs, v, rfl, rfl, r'.hl, zkd hx, ?_⟩
     exact q σ' _ v (fun H2=>ztd hf rv) (hE.updFx r'.fl r'.zl) ⟨r'.fa, r'.fl, r'.zl, r'.su, r'.sk, by rw [zbf r'.nal]; exact r'.ha, r'.hp, zav, r'.nal⟩
    ·cases e
   ·cases e
  | rt d fr=>cases e; exact q
  | bk _=>cases e
  | ct _=>cases e
noncomputable def rowL (o : Nat) (f : BF) : List PyData → DEnv → List PyData → Option (Out × List PyData)
 | [], e, acc=>some (.nx e, acc)
 | d :: ds, e, acc=>(f (e.set o (.pl d))).bind fun z=>match z with
  | (.nx e2, ad)=>rowL o f ds e2 (acc ++ ad.toList)
  | (.rt d fr, _)=>some (.rt d fr, acc)
  | _=>none
theorem zajj {fx : Addr → Prop} {env env' : DEnv} {σ σ' : St} {H H' : Hp} {l : Addr} (fl : fx l) (h : EnvOk fx (Offs (fun b=>b = l) (Offs (own env σ) H)) env' σ' H') : Same (Offs (fun b=>fx b ∨ own env σ b) H) (Offs (fun b=>fx b ∨ own env' σ' b) H'):=fun b o e=>by
 obtain ⟨h1, h2⟩:=Offs.of e
 have hF : Offs (fun b=>b = l) (Offs (own env σ) H) b = some o:=by
  rw [Offs.get (A:=fun b=>b = l) fun z=>h1 (.inl (by rw [z]; exact fl)), Offs.get fun z=>h1 (.inr z)]; exact h2
 rw [Offs.get]
 ·exact h.base b o hF
 ·rintro (z | ⟨i, d, g1, g2⟩)
  ·exact h1 (.inl z)
  ·obtain ⟨a, k1, k2, _⟩:=h.ac i d g1
   rw [g2] at k1
   cases k1
   rw [k2] at hF
   cases hF
theorem zagg {u k o : Nat} {wi : TI} {fi : IF'} {tb : TS} {f : BF} (hi : SI wi fi) (hb : SB u k tb f) (nu : o ≠ u) (nk : o ≠ k) {fx : Addr → Prop} {H0 : Hp} {env : DEnv} {σ : St} {H : Hp} {D : Ends} {key : Str} {a l : Addr} {ps : List (Key × V)} (h : EnvOk fx H0 env σ H) (r : Row fx H0 u k key a l ps [] σ H)
  {ds : List PyData} (ei : fi env = some (ds, [])) (hd : ds.length < 100000) {out : Out} {acc : List PyData} (e : rowL o f ds env [] = some (out, acc))
  (q : match out with
   | .nx e=>∀ σ' H' xs, EnvOk fx H0 e σ' H' → Row fx H0 u k key a l ps xs σ' H' → (∀ H, Rps H acc xs) → D.nx σ' H'
   | .rt d fr=>∀ v H', Same H0 H' → zpd fx H0 d fr v H' → D.rt v H'
   | _=>False) : tFor wi (gName o) tb D σ H:=by
 refine hi fx H0 env σ H h ds [] ei _ fun J H1 s yl=>?_
 have h1:=h.up s
 have r1 : Row fx H0 u k key a l ps [] σ H1:=r.up r.zl rfl rfl (fun o=>s a o) fun o=>s l o
 have zF : Offs (fun b=>b = l) (Offs (own env σ) H1) l = none:=Offs.out rfl
 have sF : Same H0 (Offs (fun b=>b = l) (Offs (own env σ) H1)):=fun b o e=>by
  rw [Offs.get (A:=fun b=>b = l) fun z=>by rw [z, r.zl] at e; cases e]
  exact h1.floor b o e
 have hF : EnvOk fx (Offs (fun b=>b = l) (Offs (own env σ) H1)) env σ H1:=h1.rebase.unbase (Offs.same _ _)
 refine ⟨fun i m σ' H'=>m = ds.length - i ∧ i ≤ ds.length ∧ ∃ env' acc' xs, rowL o f (ds.drop i) env' acc' = some (out, acc) ∧ EnvOk fx (Offs (fun b=>b = l) (Offs (own env σ) H1)) env' σ' H' ∧ Row fx (Offs (fun b=>b = l) (Offs (own env σ) H1)) u k key a l ps xs σ' H' ∧ (∀ H, Rps H acc' xs) ∧ xs.length ≤ i,
  ⟨ds.length, rfl, Nat.zero_le _, env, [], [], e, hF, r1.up zF rfl rfl (fun _ z=>z) (fun _ z=>z), fun _=>zdf, Nat.le_refl _⟩, ?_⟩
 rintro i m σ' H' ⟨rfl, hle, env', acc', xs, e', h', r', ra, hxl⟩
 obtain ⟨yi, ys⟩:=yl _ H' h'.all (zajj r.fl h')
 by_cases hlt : i < ds.length
 ·obtain ⟨yg, yy⟩:=yi i ds[i] (List.getElem?_eq_getElem hlt)
  refine .inr ⟨yg, fun σ'' H''=>i + 1 ≤ ds.length ∧ ∃ env' acc' xs, rowL o f (ds.drop (i + 1)) env' acc' = some (out, acc) ∧ EnvOk fx (Offs (fun b=>b = l) (Offs (own env σ) H1)) env' σ'' H'' ∧ Row fx (Offs (fun b=>b = l) (Offs (own env σ) H1)) u k key a l ps xs σ'' H'' ∧ (∀ H, Rps H acc' xs) ∧ xs.length ≤ i + 1, ?_, ?_⟩
  ·rintro σ'' H'' ⟨hle, hh⟩
   exact ⟨ds.length - (i + 1), by omega, rfl, hle, hh⟩
  ·intro x H'' hy
   obtain ⟨sy, ry⟩:=yy x H'' hy
   rw [List.drop_eq_getElem_cons hlt] at e'
   obtain ⟨z, ez, e'⟩:=Option.bind_eq_some_iff.mp e'
   have hE2:=(h'.up sy).setPl o ry
   have r2 : Row fx (Offs (fun b=>b = l) (Offs (own env σ) H1)) u k key a l ps xs (σ'.set o (some x)) H'':=r'.up zF (List.getElem?_set_ne nu) (List.getElem?_set_ne nk) (fun o=>sy a o) fun o=>sy l o
   refine hb fx _ _ _ H'' _ key a l ps xs hE2 r2 (by omega) z ez ?_
   obtain ⟨w, ad⟩:=z
   cases w with
   | nx e2 =>
    cases ad with
    | none =>
     have e' : rowL o f (ds.drop (i + 1)) e2 (acc' ++ []) = some (out, acc):=e'
     rw [List.append_nil] at e'
     exact fun σ3 H3 hE3 r3=>⟨hlt, e2, acc', xs, e', hE3, r3, ra, by omega⟩
    | some d =>
     exact fun σ3 H3 v rv hE3 r3=>⟨hlt, e2, acc' ++ [d], xs ++ [v], e', hE3, r3, fun H=>(ra H).append (zde (rv H) zdf), by rw [List.length_append, List.length_singleton]; omega⟩
   | rt d fr =>
    cases e'
    exact fun v H3 sh rt=>q v H3 (sF.trans sh) (rt.unbase sF)
   | bk _=>cases e'
   | ct _=>cases e'
 ·have hi' : i = ds.length:=by omega
  subst hi'
  rw [List.drop_length] at e'
  cases e'
  exact .inl ⟨ys, q σ' H' xs (h'.unbase sF) (r'.up r.zl rfl rfl (fun _ z=>z) fun _ z=>z) ra⟩
end L2
namespace L2
open PySem PySem.Spec PyProof.Rows
noncomputable def sRow (u k o : Nat) (fi : IF') (f : BF) : SF:=fun env=>match (env[u]? : Option Sl) with
 | some (.ac (.dict kvs))=>match (env[k]? : Option Sl) with
  | some (.pl (.str key))=>if kvs.length < 100000 ∧ u ≠ k then (fi (env.set u .no)).bind fun z=>if z.2 = [] ∧ z.1.length < 100000 then (rowL o f z.1 (env.set u .no) []).bind fun w=>match w.1 with
    | .nx e=>some (.nx (e.set u (.ac (.dict (zhp kvs (.str key) (.list w.2))))))
    | .rt d fr=>some (.rt d fr)
    | _=>none
   else none
   else none
  | _=>none
 | _=>none
theorem zaik {u k o : Nat} {wi : TI} {fi : IF'} {tb : TS} {f : BF} (hi : SI wi fi) (hb : SB u k tb f) (nu : o ≠ u) (nk : o ≠ k) : SS (tSeq (sDPut (tVar u) (tVar k) (tLst tNil)) (tFor wi (gName o) tb)) (sRow u k o fi f):=by
 intro fx H0 env σ H D h out e q
 unfold sRow at e
 split at e
 ·rename_i kvs eu
  split at e
  ·rename_i key ek
   split at e
   ·rename_i hk
    obtain ⟨⟨ds, bs⟩, ei, e⟩:=Option.bind_eq_some_iff.mp e
    split at e
    ·rename_i hz
     obtain ⟨rfl, hdl⟩ : bs = [] ∧ ds.length < 100000:=hz
     obtain ⟨⟨w, acc⟩, ew, e⟩:=Option.bind_eq_some_iff.mp e
     obtain ⟨a, g1, g2, g3, ps, hx, rx⟩:=h.ac u _ eu
     obtain ⟨vk, gk, rk⟩:=h.pl k _ ek
     cases zix rk
     refine ⟨zfn (by show 0 ≤ 100000; omega), fun l hl=>⟨_, g1, _, gk, a, _, rfl, DPut.k (k:=(Sum.inr key : Key)) (by rw [zbf fun z=>by rw [z, hl] at hx; cases hx]; exact hx) (zkd (by rw [← rx.length]; exact hk.1)), ?_⟩⟩
     have nal : a ≠ l:=fun z=>by rw [z, hl] at hx; cases hx
     have nfl : ¬ fx l:=fun z=>by obtain ⟨o, eo⟩:=h.fxs l z; rw [hl] at eo; cases eo
     have zl : H0 l = none:=h.base.free hl
     have hoa : own env σ a:=⟨u, _, eu, g1⟩
     have ku : ∀ {x : Sl} {j : Nat}, j ≠ u → (env.set u x)[j]? = env[j]?:=fun {x j} n=>List.getElem?_set_ne fun z=>n z.symm
     generalize hH2 : upd (upd H l (.lst [])) a (.dK (putK ps (Sum.inr key) (.ref l))) = H2
     have h2a : H2 a = some (.dK (putK ps (Sum.inr key) (.ref l))):=by rw [← hH2]; exact zav
     have h2l : H2 l = some (.lst []):=by rw [← hH2, zbf fun z=>nal z.symm]; exact zav
     have h2o : ∀ b, b ≠ a → b ≠ l → H2 b = H b:=fun b n1 n2=>by rw [← hH2, zbf n1, zbf n2]
     have osub : ∀ b, own (env.set u .no) σ b → own env σ b ∧ b ≠ a:=by
      rintro b ⟨j, d, h1, h2⟩
      rcases zbj h1 with ⟨_, z⟩ | ⟨n, h1⟩
      ·cases z
      ·refine ⟨⟨j, d, h1, h2⟩, fun z=>n ?_⟩
       rw [z] at h2
       exact h.inj j u d _ a h1 eu h2 g1
     have so : Same (Offs (fun b=>fx b ∨ own env σ b) H) (Offs (fun b=>(fx b ∨ b = a ∨ b = l) ∨ own (env.set u .no) σ b) H2):=fun b ob eb=>by
      obtain ⟨n, hb'⟩:=Offs.of eb
      have na : b ≠ a:=fun z=>n (.inr (by rw [z]; exact hoa))
      have nl : b ≠ l:=fun z=>by rw [z, hl] at hb'; cases hb'
      rw [Offs.get, h2o b na nl]
      ·exact hb'
      ·rintro ((z | z | z) | z)
       ·exact n (.inl z)
       ·exact na z
       ·exact nl z
       ·exact n (.inr (osub b z).1)
     have hM : EnvOk (fun b=>fx b ∨ b = a ∨ b = l) H0 (env.set u .no) σ H2:=by
      refine ⟨by rw [List.length_set]; exact h.len, fun j d ej=>?_, fun j d ej=>?_, fun i j d d' b h1 h2 h3 h4=>?_, fun b ob eb=>?_, fun b z=>?_⟩
      ·rcases zbj ej with ⟨_, z⟩ | ⟨n, ej⟩
       ·cases z
       ·obtain ⟨v, h1, h2⟩:=h.pl j d ej
        exact ⟨v, h1, Rp.same so _ h2⟩
      ·rcases zbj ej with ⟨_, z⟩ | ⟨n, ej⟩
       ·cases z
       ·obtain ⟨b, h1, h2, h3, h4⟩:=h.ac j d ej
        have nb : b ≠ a:=fun z=>n (h.inj j u d _ a ej eu (by rw [← z]; exact h1) g1)
        obtain ⟨ob, eob⟩:=h4.ex
        have nl : b ≠ l:=fun z=>by rw [z, hl] at eob; cases eob
        refine ⟨b, h1, h2, ?_, h4.same so fun o z=>by rw [h2o b nb nl]; exact z⟩
        rintro (z | z | z)
        ·exact h3 z
        ·exact nb z
        ·exact nl z
      ·rcases zbj h1 with ⟨_, z⟩ | ⟨_, h1⟩
       ·cases z
       ·rcases zbj h2 with ⟨_, z⟩ | ⟨_, h2⟩
        ·cases z
        ·exact h.inj i j d d' b h1 h2 h3 h4
      ·have hb':=h.base b ob eb
       rw [h2o b (fun z=>by rw [z, g2] at eb; cases eb) fun z=>by rw [z, zl] at eb; cases eb]
       exact hb'
      ·by_cases na : b = a
       ·rw [na]; exact ⟨_, h2a⟩
       ·by_cases nl : b = l
        ·rw [nl]; exact ⟨_, h2l⟩
        ·rcases z with z | z | z
         ·obtain ⟨ob, eb⟩:=h.fxs b z
          exact ⟨ob, by rw [h2o b na nl]; exact eb⟩
         ·exact absurd z na
         ·exact absurd z nl
     generalize hC : Offs (fun b=>b = l) (Offs (own (env.set u .no) σ) H2) = H0c
     have hMc : EnvOk (fun b=>fx b ∨ b = a ∨ b = l) H0c (env.set u .no) σ H2:=by rw [← hC]; exact hM.rebase.unbase (Offs.same _ _)
     have zc : H0c l = none:=by rw [← hC]; exact Offs.out rfl
     have sc : Same H0 H0c:=fun b ob eb=>by
      rw [← hC, Offs.get (A:=fun b=>b = l) fun z=>by rw [z, zl] at eb; cases eb]
      exact hM.floor b ob eb
     have hcs : ∀ b ob, ¬ fx b → ¬ own env σ b → H b = some ob → H0c b = some ob:=fun b ob n1 n2 eb=>by
      have na : b ≠ a:=fun z=>n2 (by rw [z]; exact hoa)
      have nl : b ≠ l:=fun z=>by rw [z, hl] at eb; cases eb
      rw [← hC, Offs.get (A:=fun b=>b = l) nl, Offs.get fun z=>n2 (osub b z).1, h2o b na nl]
      exact eb
     have row : Row (fun b=>fx b ∨ b = a ∨ b = l) H0c u k key a l (putK ps (Sum.inr key) (.ref l)) [] σ H2:=⟨.inr (.inl rfl), .inr (.inr rfl), zc, g1, gk, h2a, by rw [zaaz, if_pos rfl], h2l, nal⟩
     refine zagg hi hb nu nk hMc row ei hdl ew ?_
     cases w with
     | nx e' =>
      cases e
      intro σ' H' xs hE r' ra
      refine q σ' H' ?_
      have oN : ∀ b, own (e'.set u (.ac (.dict (zhp kvs (.str key) (.list acc))))) σ' b → b = a ∨ own e' σ' b:=by
       rintro b ⟨j, d, h1, h2⟩
       rcases zbj h1 with ⟨rfl, z⟩ | ⟨n, h1⟩
       ·rw [r'.su] at h2
        cases h2
        exact .inl rfl
       ·exact .inr ⟨j, d, h1, h2⟩
      have sub : ∀ b, fx b ∨ own (e'.set u (.ac (.dict (zhp kvs (.str key) (.list acc))))) σ' b → (fx b ∨ b = a ∨ b = l) ∨ own e' σ' b:=fun b z=>by
       rcases z with z | z
       ·exact .inl (.inl z)
       ·rcases oN b z with z | z
        ·exact .inl (.inr (.inl z))
        ·exact .inr z
      have oe : ∀ b, own e' σ' b → H0c b = none ∧ ¬ (fx b ∨ b = a ∨ b = l):=by
       rintro b ⟨j, d, h1, h2⟩
       obtain ⟨c, k1, k2, k3, _⟩:=hE.ac j d h1
       rw [h2] at k1
       cases k1
       exact ⟨k2, k3⟩
      have acc' : zgi (Offs (fun b=>fx b ∨ own (e'.set u (.ac (.dict (zhp kvs (.str key) (.list acc))))) σ' b) H') H' a (.dict (zhp kvs (.str key) (.list acc))):=by
       refine ⟨_, r'.ha, Rpd.put (j:=(Sum.inr key : Key)) (Rpd.same (fun b ob eb=>?_) _ rx) rfl (zdx ?_ (ra _))⟩
       ·obtain ⟨n, hb'⟩:=Offs.of eb
        have hc:=hcs b ob (fun z=>n (.inl z)) (fun z=>n (.inr z)) hb'
        rw [Offs.get]
        ·exact hE.base b ob hc
        ·rintro (z | z)
         ·exact n (.inl z)
         ·rcases oN b z with z | z
          ·exact n (.inr (by rw [z]; exact hoa))
          ·rw [(oe b z).1] at hc; cases hc
       ·rw [Offs.get]
        ·exact r'.hl
        ·rintro (z | z)
         ·exact nfl z
         ·rcases oN l z with z | z
          ·exact nal z.symm
          ·exact (oe l z).2 (.inr (.inr rfl))
      refine ⟨by rw [List.length_set]; exact hE.len, fun j d ej=>?_, fun j d ej=>?_, fun i j d d' b h1 h2 h3 h4=>?_, sc.trans hE.base, fun b z=>hE.fxs b (.inl z)⟩
      ·rcases zbj ej with ⟨_, z⟩ | ⟨n, ej⟩
       ·cases z
       ·obtain ⟨v, h1, h2⟩:=hE.pl j d ej
        exact ⟨v, h1, Rp.same (Offs.sub sub) _ h2⟩
      ·rcases zbj ej with ⟨rfl, z⟩ | ⟨n, ej⟩
       ·cases z
        exact ⟨a, r'.su, g2, g3, acc'⟩
       ·obtain ⟨b, h1, h2, h3, h4⟩:=hE.ac j d ej
        exact ⟨b, h1, sc.free h2, fun z=>h3 (.inl z), h4.same (Offs.sub sub) fun o z=>z⟩
      ·rcases zbj h1 with ⟨e1, _⟩ | ⟨n1, h1⟩ <;> rcases zbj h2 with ⟨e2, _⟩ | ⟨n2, h2⟩
       ·rw [e1, e2]
       ·rw [e1, r'.su] at h3
        cases h3
        exact absurd (.inr (.inl rfl)) (oe a ⟨j, d', h2, h4⟩).2
       ·rw [e2, r'.su] at h4
        cases h4
        exact absurd (.inr (.inl rfl)) (oe a ⟨i, d, h1, h3⟩).2
       ·exact hE.inj i j d d' b h1 h2 h3 h4
     | rt d fr =>
      cases e
      intro v H' s rt
      refine q v H' (sc.trans s) ⟨Rp.same (Offs.sub fun b z=>.inl z) _ rt.1, fun z=>?_⟩
      obtain ⟨c, k1, k2, k3⟩:=rt.2 z
      exact ⟨c, k1, sc.free k2, k3.same (Offs.sub fun b y=>y.imp .inl id) fun o z=>z⟩
     | bk _=>cases e
     | ct _=>cases e
    ·cases e
   ·cases e
  ·cases e
 ·cases e
end L2
namespace L2
open PySem PySem.Spec PyProof.Rows
noncomputable def txtL : PyData → Bool
 | .list (.str _ :: ds)=>zdw ds
 | _=>false
noncomputable def zrn : List (PyData × PyData) → Bool
 | []=>true
 | (_, d) :: r=>txtL d && zrn r
theorem zagh {A B : Addr → Prop} {H : Hp} (h : ∀ a x xs, H a = some (.lst (.str x :: xs)) → ¬ A a → ¬ B a) {d : PyData} {v : V} (f : txtL d = true) (r : Rp (Offs A H) d v) : Rp (Offs B H) d v:=by
 unfold txtL at f
 split at f
 ·obtain ⟨a, xs, rfl, ha, rs⟩:=zcv r
  unfold Rps at rs
  obtain ⟨v, vs, rfl, r1, r2⟩:=rs
  cases zix r1
  obtain ⟨n, hh⟩:=Offs.of ha
  exact zdx (by rw [Offs.get (h a _ vs hh n)]; exact hh) (zde zgg (zhv f r2))
 ·cases f
theorem zvk {A B : Addr → Prop} {H : Hp} (h : ∀ a x xs, H a = some (.lst (.str x :: xs)) → ¬ A a → ¬ B a) : ∀ {kvs : List (PyData × PyData)} {ps : List (Key × V)}, zrn kvs = true → Rpd (Offs A H) kvs ps → Rpd (Offs B H) kvs ps
 | [], ps, _, r=>by unfold Rpd at r ⊢; exact r
 | (k, d) :: kvs, ps, f, r=>by
  unfold zrn at f
  obtain ⟨f1, f2⟩:=Bool.and_eq_true_iff.mp f
  unfold Rpd at r ⊢
  obtain ⟨k', v, vs, e, hk, h1, h2⟩:=r
  exact ⟨k', v, vs, e, hk, zagh h f1 h1, zvk h f2 h2⟩
noncomputable def zro : Option Sl → Bool
 | some (.ac (.list (.tuple _ :: _)))=>true
 | _=>false
noncomputable def zmn (i : Nat) (f : EF) : EF:=fun env=>(f env).map fun r=>match r with
 | ⟨.dict kvs, true, bs⟩=>if zrn kvs = true ∧ zro env[i]? = true then ⟨.dict kvs, true, bs.filter fun j=>decide (j ≠ i)⟩ else ⟨.dict kvs, true, bs⟩
 | r=>r
theorem zvl {i : Nat} {te : TE} {f : EF} (h : SE te f) : SE te (zmn i f):=by
 intro fx H0 env σ H hE rr hr Q q
 obtain ⟨r, er, rfl⟩:=Option.map_eq_some_iff.mp hr
 refine h fx H0 env σ H hE r er Q fun v H1 s1 hv=>q v H1 s1 ?_
 split
 ·rename_i kvs bs
  split
  ·rename_i hh
   obtain ⟨a, rfl, na, vs, e, r⟩:=hv.fr rfl
   have own_i : ∀ (b : Addr) (d : PyData), env[i]? = some (.ac d) → σ[i]? = some (some (.ref b)) → ∃ c xs, H1 b = some (.lst (.ref c :: xs)):=by
    intro b d ei si
    obtain ⟨b', g1, _, _, g4⟩:=hE.ac i d ei
    rw [si] at g1
    cases g1
    have ht:=hh.2
    rw [ei] at ht
    unfold zro at ht
    split at ht
    ·rename_i ts ds e2
     cases e2
     obtain ⟨xs, hx, rx⟩:=g4
     unfold Rps at rx
     obtain ⟨w, ws, rfl, r1, _⟩:=rx
     obtain ⟨c, ys, rfl, _, _⟩:=zci r1
     exact ⟨c, ws, s1 _ _ hx⟩
    ·cases ht
   have key : ∀ b, lim fx env σ (bs.filter fun j=>decide (j ≠ i)) b → lim fx env σ bs b ∨ ∃ c xs, H1 b = some (.lst (.ref c :: xs)):=by
    rintro b (z | ⟨j, d, h1, h2, h3⟩)
    ·exact .inl (.inl z)
    ·by_cases hj : j = i
     ·subst hj
      exact .inr (own_i b d h2 h3)
     ·exact .inl (.inr ⟨j, d, fun z=>h1 (List.mem_filter.mpr ⟨z, decide_eq_true hj⟩), h2, h3⟩)
   have r' : Rpd (Offs (fun b=>lim fx env σ (bs.filter fun j=>decide (j ≠ i)) b ∨ b = a) H1) kvs vs:=by
    refine zvk (fun b x xs hb n z=>?_) hh.1 r
    rcases z with z | z
    ·rcases key b z with z | ⟨c, ys, hy⟩
     ·exact n (.inl z)
     ·rw [hb] at hy; cases hy
    ·exact n (.inr z)
   have nl : ¬ lim fx env σ (bs.filter fun j=>decide (j ≠ i)) a:=fun z=>by
    obtain ⟨o, eo⟩:=hE.lims _ a z
    rw [na] at eo; cases eo
   exact ⟨zgh (by rw [Offs.get nl]; exact e) (Rpd.same (Offs.sub fun b z=>.inl z) _ r'), fun _=>⟨a, rfl, na, vs, e, r'⟩⟩
  ·exact hv
 ·exact hv
end L2
namespace Bc
open PySem L2
noncomputable def zrp : SF:=(sSeq (zjq (zaw 2 zbb (zad (eVar 0) (zad (eLst (zad (eVar 1) aNil)) aNil))))
  (sSeq (sSet 2 (zaw 1 zbw (zad (eVar 0) aNil)))
  (sRet (zcw ["name"] [1, 2] (zaq (zaw 1 zcs (zad (eVar 0) aNil))) (gN 0) (zar (eDIn false (eVar 1) (zan 2 (eVar 0)))) (eVar 0)))))
noncomputable def zgn : GF:=fnD 3 zrp
noncomputable def zvm : SF:=(sSeq (zjq (zaw 2 zbb (zad (eVar 0) (zad (eLst (zad (eVar 1) (zad (eVar 2) aNil))) aNil))))
  (sRet (eDIn false (eVar 2) (zxz (zaw 1 zbw (zad (eVar 0) aNil)) (eVar 1)))))
noncomputable def zhf : GF:=fnD 3 zvm
noncomputable def zrq : SF:=(sSeq (sSet 2 (eCB zabp (zad (eVar 1) aNil)))
  (sSeq (sSet 3 (eOp zfc (eVar 0) (eC (.int 4))))
  (sSeq (sSet 4 (eLst aNil))
  (sSeq (sFor (zfo (zad (eCB minD (zad (eOp addD (eC (.int 1)) (eOp modD (eVar 0) (eC (.int 4)))) (zad (eCB lenD (zad (eVar 1) aNil)) aNil))) aNil)) (gN 5)
  (sSeq (sSet 6 (eOp modD (eVar 3) (eCB lenD (zad (eVar 2) aNil))))
  (sSeq (sSet 3 (eOp zfc (eVar 3) (eCB lenD (zad (eVar 2) aNil))))
  (zfr 4 2 (eVar 6)))))
  (znk 4)))))
noncomputable def zie : GF:=fnD 7 zrq
noncomputable def zif : SF:=(sSeq (sIf (tOrF (zcr (tTru (eIsi "list" (eVar 3)))) (tOrF (zar (eOp eqD (eCB lenD (zad (eVar 3) aNil)) (eC (.int 0)))) (zar (eOp neD (eIxV 3 (eC (.int 0))) (eVar 1))))) (sRet (eC (.bool false))) sNil)
  (sSeq (sSet 4 (eVar 1))
  (sSeq (sFor (zaq (eSl (eVar 3) (zet (eC (.int 1))) ziw)) (gN 5)
  (sSeq (sSet 6 (eOp ixD (zcw ["_law_one", "_law_row"] [4] (zaq (eVar 0)) (gT 2 (zcf 0 (zcf 1 zjr))) (zar (eOp eqD (eVar 0) (eVar 2))) (eVar 1)) (eC (.int 0))))
  (sSeq (sIf (zar (eOp (inD true) (eVar 5) (eVar 6))) (sRet (eC (.bool false))) sNil)
  (sSet 4 (eVar 5)))))
  (sRet (eOp eqD (eVar 4) (eVar 2))))))
noncomputable def zcd : GF:=fnD 7 zif
noncomputable def zmo : SF:=(sSeq (sSet 2 zabo)
  (sSeq (sFor (zaq (eVar 1)) (gN 3)
  (sRow 2 3 4 (zaq (eVar 1)) (bSeq (sSet 5 (zaw 3 zku (zad (eVar 0) (zad (eVar 3) (zad (eVar 4) aNil))))) (bSeq (sSet 6 (zaw 3 zic (zad (eVar 0) (zad (eVar 3) (zad (eVar 4) aNil))))) (bSeq (sIf (zar (eOp eqD (eIsN false (eVar 5)) (eIsN false (eVar 6)))) (sRet (eC .none)) sNil) (bSeq (sIf (znj (zar (eIsN false (eVar 5))) (zcr (tTru (zaw 4 zea (zad (eVar 0) (zad (eVar 3) (zad (eVar 4) (zad (eVar 6) aNil)))))))) (sRet (eC .none)) sNil) (bEnd (zar (eIsN false (eVar 6))) (sIf (zcr (tTru (zaw 4 zcd (zad (eVar 0) (zad (eVar 3) (zad (eVar 4) (zad (eVar 5) aNil))))))) (sRet (eC .none)) sNil) 4)))))))
  (znk 2)))
noncomputable def zdg : GF:=fnD 7 zmo
noncomputable def zmp : SF:=(sSeq (sFor (zaq (eVar 1)) (gN 2)
  (sSeq (sIf (zar (eOp (inD true) (eVar 2) (zan 0 (eVar 2)))) (sRet (eC (.bool false))) sNil)
  (sFor (zaq (zan 0 (eVar 2))) (gN 3)
  (sSeq (sIf (znj (zar (eOp (inD false) (eVar 2) (zan 0 (eVar 3)))) (zar (eOp neD (eVar 2) (eVar 3)))) (sRet (eC (.bool false))) sNil)
  (sIf (zcr (tTru (eCB (anyD fun bs=>bs.all id) (zad (zcw ["_law_one"] [0, 2] (zaq (zan 0 (eVar 3))) (gN 0) zhk (eOp (inD false) (eVar 0) (zan 1 (eVar 2)))) aNil)))) (sRet (eC (.bool false))) sNil)))))
  (sRet (eC (.bool true))))
noncomputable def zdh : GF:=fnD 4 zmp
noncomputable def zoh : SF:=(sSeq (sFor (zaq (eVar 1)) (gN 3)
  (sSeq (sIf (zar (eOp neD (zaw 2 zew (zad (eVar 0) (zad (eVar 3) aNil))) (zan 2 (eVar 3)))) (sRet (eC (.bool false))) sNil)
  (sSeq (sIf (zar (eOp neD (zaw 2 zgn (zad (eVar 0) (zad (eVar 3) aNil))) (zcw ["_law_one"] [2, 3] (zaq (eVar 1)) (gN 0) (zar (eOp (inD false) (eVar 2) (zan 1 (eVar 0)))) (eVar 0)))) (sRet (eC (.bool false))) sNil)
  (sFor (zaq (eVar 1)) (gN 4)
  (sSeq (sSet 5 (zaw 3 zhf (zad (eVar 0) (zad (eVar 3) (zad (eVar 4) aNil)))))
  (sIf (tOrF (zcr (tTru (eIsi "bool" (eVar 5)))) (zar (eOp neD (eVar 5) (eOp (inD false) (eVar 4) (zan 2 (eVar 3)))))) (sRet (eC (.bool false))) sNil))))))
  (sRet (eC (.bool true))))
noncomputable def zec : GF:=fnD 6 zoh
end Bc
namespace Bc
open PySem L2
theorem zpl : bootBuiltins "all" = some (.builtin "all"):=by decide +kernel
theorem zacm : bootBuiltins "any" = some (.builtin "any"):=by decide +kernel
theorem zaaa : bootBuiltins "bool" = some (.type "bool"):=by decide +kernel
theorem zaab : bootBuiltins "dict" = some (.type "dict"):=by decide +kernel
theorem zdu : bootBuiltins "isinstance" = some (.builtin "isinstance"):=by decide +kernel
theorem zen : bootBuiltins "len" = some (.builtin "len"):=by decide +kernel
theorem zjx : bootBuiltins "list" = some (.type "list"):=by decide +kernel
theorem zvn : bootBuiltins "min" = some (.builtin "min"):=by decide +kernel
theorem zoi : bootBuiltins "tuple" = some (.type "tuple"):=by decide +kernel
noncomputable def top (i : Nat) : Stmt:=PySem.Challenge.pw_bestcalls_k10_whole_standing.main.body.getD i (.Pass ⟨0, 0, 0, 0⟩)
structure Txt (mg : Str → Option Value) : Prop where
 all : mg "all" = none
 any : mg "any" = none
 bool : mg "bool" = none
 dict : mg "dict" = none
 enumerate : mg "enumerate" = none
 isinstance : mg "isinstance" = none
 len : mg "len" = none
 list : mg "list" = none
 min : mg "min" = none
 range : mg "range" = none
 tuple : mg "tuple" = none
noncomputable abbrev zfi : Stmt:=top 4
noncomputable abbrev zoj : List Str:=["web"]
theorem ztv : zoj.Nodup:=by decide +kernel
theorem ztw : FnScope zoj ["web"] (zal zfi):=⟨rfl, rfl, rfl, ztv, rfl, by decide +kernel, by decide +kernel⟩
noncomputable abbrev zfj : Stmt:=top 5
noncomputable abbrev zok : List Str:=["arm"]
theorem ztx : zok.Nodup:=by decide +kernel
theorem zty : FnScope zok ["arm"] (zal zfj):=⟨rfl, rfl, rfl, ztx, rfl, by decide +kernel, by decide +kernel⟩
noncomputable abbrev zct : Stmt:=top 6
noncomputable abbrev zjy : List Str:=["web", "names", "known", "name"]
theorem zgf : zjy.Nodup:=by decide +kernel
theorem znn : FnScope zjy ["web", "names"] (zal zct):=⟨rfl, rfl, rfl, zgf, rfl, by decide +kernel, by decide +kernel⟩
noncomputable abbrev zfk : Stmt:=top 7
noncomputable abbrev zol : List Str:=["web", "roofs", "name", "elders", "roof", "elder"]
theorem zed : zol.Nodup:=by decide +kernel
theorem ztz : FnScope zol ["web"] (zal zfk):=⟨rfl, rfl, rfl, zed, rfl, by decide +kernel, by decide +kernel⟩
noncomputable abbrev zgo : Stmt:=top 8
noncomputable abbrev zrr : List Str:=["roofs", "arm", "roof", "name"]
theorem zkn : zrr.Nodup:=by decide +kernel
theorem zwg : FnScope zrr ["roofs", "arm"] (zal zgo):=⟨rfl, rfl, rfl, zkn, rfl, by decide +kernel, by decide +kernel⟩
noncomputable abbrev zko : Stmt:=top 9
noncomputable abbrev zaac : List Str:=["web", "arm", "roof"]
theorem zvo : zaac.Nodup:=by decide +kernel
theorem zacn : FnScope zaac ["web", "arm"] (zal zko):=⟨rfl, rfl, rfl, zvo, rfl, by decide +kernel, by decide +kernel⟩
noncomputable abbrev zgp : Stmt:=top 10
noncomputable abbrev zrs : List Str:=["web", "kind", "roofs"]
theorem zom : zrs.Nodup:=by decide +kernel
theorem zwh : FnScope zrs ["web", "kind"] (zal zgp):=⟨rfl, rfl, rfl, zom, rfl, by decide +kernel, by decide +kernel⟩
noncomputable abbrev zis : Stmt:=top 11
noncomputable abbrev zvp : List Str:=["web", "kind", "other"]
theorem zaad : zvp.Nodup:=by decide +kernel
theorem zaae : FnScope zvp ["web", "kind", "other"] (zal zis):=⟨rfl, rfl, rfl, zaad, rfl, by decide +kernel, by decide +kernel⟩
noncomputable abbrev zon : Stmt:=top 13
noncomputable abbrev zadt : List Str:=["web", "kind", "other", "roofs", "elders", "names", "onto"]
theorem zmq : zadt.Nodup:=by decide +kernel
theorem zagi : FnScope zadt ["web", "kind", "other"] (zal zon):=⟨rfl, rfl, rfl, zmq, rfl, by decide +kernel, by decide +kernel⟩
noncomputable abbrev zkp : Stmt:=top 14
noncomputable abbrev zaaf : List Str:=["web", "kind", "other", "names"]
theorem zvq : zaaf.Nodup:=by decide +kernel
theorem zaco : FnScope zaaf ["web", "kind", "other"] (zal zkp):=⟨rfl, rfl, rfl, zvq, rfl, by decide +kernel, by decide +kernel⟩
noncomputable abbrev zee : Stmt:=top 16
noncomputable abbrev zmr : List Str:=["_law_script", "_law_many", "_law_seed", "_law_cell", "_law_found", "_law_k"]
theorem zdl : zmr.Nodup:=by decide +kernel
theorem zrt : FnScope zmr ["_law_script", "_law_many"] (zal zee):=⟨rfl, rfl, rfl, zdl, rfl, by decide +kernel, by decide +kernel⟩
noncomputable abbrev zef : Stmt:=top 17
noncomputable abbrev zms : List Str:=["_law_many", "_law_cell", "_law_letters", "_law_step", "_law_origin", "_law_stem", "_law_at", "_law_names_here", "_law_k", "_law_sign"]
theorem zby : zms.Nodup:=by decide +kernel
theorem zru : FnScope zms ["_law_many", "_law_cell"] (zal zef):=⟨rfl, rfl, rfl, zby, rfl, by decide +kernel, by decide +kernel⟩
noncomputable abbrev zgq : Stmt:=top 18
noncomputable abbrev zrv : List Str:=["_law_cells", "_law_names_here", "_law_web_here", "_law_k", "_law_name", "_law_left", "_law_rest", "_law_elders", "_law_turn", "_law_at"]
theorem zcm : zrv.Nodup:=by decide +kernel
theorem zwi : FnScope zrv ["_law_cells", "_law_names_here"] (zal zgq):=⟨rfl, rfl, rfl, zcm, rfl, by decide +kernel, by decide +kernel⟩
noncomputable abbrev zgr : Stmt:=top 19
noncomputable abbrev zrw : List Str:=["_law_cell", "_law_names_here", "_law_left", "_law_rest", "_law_arm_here", "_law_turn", "_law_at"]
theorem zeg : zrw.Nodup:=by decide +kernel
theorem zwj : FnScope zrw ["_law_cell", "_law_names_here"] (zal zgr):=⟨rfl, rfl, rfl, zeg, rfl, by decide +kernel, by decide +kernel⟩
noncomputable abbrev zeh : Stmt:=top 20
noncomputable abbrev zmt : List Str:=["_law_web_here", "_law_kind", "_law_other", "_law_way", "_law_last", "_law_name", "_law_elders"]
theorem zer : zmt.Nodup:=by decide +kernel
theorem zrx : FnScope zmt ["_law_web_here", "_law_kind", "_law_other", "_law_way"] (zal zeh):=⟨rfl, rfl, rfl, zer, rfl, by decide +kernel, by decide +kernel⟩
noncomputable abbrev zei : Stmt:=top 21
noncomputable abbrev zmu : List Str:=["_law_web_here", "_law_kind", "_law_other", "_law_names_here", "_law_met", "_law_name", "_law_elders"]
theorem zes : zmu.Nodup:=by decide +kernel
theorem zry : FnScope zmu ["_law_web_here", "_law_kind", "_law_other", "_law_names_here"] (zal zei):=⟨rfl, rfl, rfl, zes, rfl, by decide +kernel, by decide +kernel⟩
noncomputable abbrev zej : Stmt:=top 22
noncomputable abbrev zmv : List Str:=["_law_web_here", "_law_names_here", "_law_under", "_law_kind", "_law_other", "_law_way", "_law_shut"]
theorem zdm : zmv.Nodup:=by decide +kernel
theorem zrz : FnScope zmv ["_law_web_here", "_law_names_here"] (zal zej):=⟨rfl, rfl, rfl, zdm, rfl, by decide +kernel, by decide +kernel⟩
noncomputable abbrev zek : Stmt:=top 23
noncomputable abbrev zmw : List Str:=["_law_under", "_law_names_here", "_law_kind", "_law_other"]
theorem zig : zmw.Nodup:=by decide +kernel
theorem zsa : FnScope zmw ["_law_under", "_law_names_here"] (zal zek):=⟨rfl, rfl, rfl, zig, rfl, by decide +kernel, by decide +kernel⟩
noncomputable abbrev zfl : Stmt:=top 24
noncomputable abbrev zoo : List Str:=["_law_web_here", "_law_names_here", "_law_under", "_law_kind", "_law_other", "_law_found"]
theorem zhg : zoo.Nodup:=by decide +kernel
theorem zua : FnScope zoo ["_law_web_here", "_law_names_here", "_law_under"] (zal zfl):=⟨rfl, rfl, rfl, zhg, rfl, by decide +kernel, by decide +kernel⟩
noncomputable abbrev zpm : Stmt:=top 25
noncomputable abbrev zail : List Str:=["_law_script", "_law_cells", "_law_names_here", "_law_stand", "_law_web_here", "_law_under", "_law_arm_here", "_law_over", "_law_more"]
theorem zjz : zail.Nodup:=by decide +kernel
theorem zaim : FnScope zail ["_law_script"] (zal zpm):=⟨rfl, rfl, rfl, zjz, rfl, by decide +kernel, by decide +kernel⟩
theorem zja : (["name", "elders"] : List Str).Nodup:=by decide +kernel
theorem zub : (["name", "roof"] : List Str).Nodup:=by decide +kernel
theorem zpn : (["name", "kind", "roofs"] : List Str).Nodup:=by decide +kernel
theorem zwk : (["elder", "other", "roofs"] : List Str).Nodup:=by decide +kernel
theorem zih : (["_law_one", "_law_row", "_law_last"] : List Str).Nodup:=by decide +kernel
theorem zmx : (["_law_elder", "_law_names_here"] : List Str).Nodup:=by decide +kernel
theorem zmy : (["_law_one", "_law_under", "_law_kind"] : List Str).Nodup:=by decide +kernel
theorem zno : (["_law_one", "_law_under", "_law_kind"] : List Str).Nodup:=by decide +kernel
theorem zaag : (["_law_name", "_law_under", "_law_arm_here"] : List Str).Nodup:=by decide +kernel
theorem zaah : (["_law_one", "_law_name", "_law_under"] : List Str).Nodup:=by decide +kernel
theorem zaai : (["_law_name", "_law_under", "_law_more"] : List Str).Nodup:=by decide +kernel
noncomputable abbrev zit (P : Program) (w : World) (K : PySem.W.Frag) (mg : Str → Option Value) (base : Heap) : Prop:=Dn P w K mg base "names_of" ["web"] 1 (spD 1 zcs)
noncomputable abbrev zkq (P : Program) (w : World) (K : PySem.W.Frag) (mg : Str → Option Value) (base : Heap) : Prop:=Dn P w K mg base "names_in" ["arm"] 1 (spD 1 zdk)
noncomputable abbrev zcu (P : Program) (w : World) (K : PySem.W.Frag) (mg : Str → Option Value) (base : Heap) : Prop:=Dn P w K mg base "check_kinds" ["web", "names"] 2 (spD 2 zbb)
noncomputable abbrev zgs (P : Program) (w : World) (K : PySem.W.Frag) (mg : Str → Option Value) (base : Heap) : Prop:=Dn P w K mg base "roofs_of" ["web"] 1 (spD 1 zbw)
noncomputable abbrev zsb (P : Program) (w : World) (K : PySem.W.Frag) (mg : Str → Option Value) (base : Heap) : Prop:=Dn P w K mg base "roof_of" ["roofs", "arm"] 2 (spD 2 zfu)
noncomputable abbrev zpo (P : Program) (w : World) (K : PySem.W.Frag) (mg : Str → Option Value) (base : Heap) : Prop:=Dn P w K mg base "above" ["web", "arm"] 3 (spD 2 zew)
noncomputable abbrev zsc (P : Program) (w : World) (K : PySem.W.Frag) (mg : Str → Option Value) (base : Heap) : Prop:=Dn P w K mg base "beneath" ["web", "kind"] 3 (spD 2 zgn)
noncomputable abbrev zvr (P : Program) (w : World) (K : PySem.W.Frag) (mg : Str → Option Value) (base : Heap) : Prop:=Dn P w K mg base "stands" ["web", "kind", "other"] 3 (spD 3 zhf)
noncomputable abbrev zadu (P : Program) (w : World) (K : PySem.W.Frag) (mg : Str → Option Value) (base : Heap) : Prop:=Dn P w K mg base "road" ["web", "kind", "other"] 3 (spD 3 zku)
noncomputable abbrev zaaj (P : Program) (w : World) (K : PySem.W.Frag) (mg : Str → Option Value) (base : Heap) : Prop:=Dn P w K mg base "hedge" ["web", "kind", "other"] 4 (spD 3 zic)
noncomputable abbrev zmz (P : Program) (w : World) (K : PySem.W.Frag) (mg : Str → Option Value) (base : Heap) : Prop:=Dn P w K mg base "_law_names" ["_law_many", "_law_cell"] 1 (spD 2 zdz)
noncomputable abbrev zsd (P : Program) (w : World) (K : PySem.W.Frag) (mg : Str → Option Value) (base : Heap) : Prop:=Dn P w K mg base "_law_web" ["_law_cells", "_law_names_here"] 1 (spD 2 zhx)
noncomputable abbrev zse (P : Program) (w : World) (K : PySem.W.Frag) (mg : Str → Option Value) (base : Heap) : Prop:=Dn P w K mg base "_law_arm" ["_law_cell", "_law_names_here"] 1 (spD 2 zie)
noncomputable abbrev zna (P : Program) (w : World) (K : PySem.W.Frag) (mg : Str → Option Value) (base : Heap) : Prop:=Dn P w K mg base "_law_leads" ["_law_web_here", "_law_kind", "_law_other", "_law_way"] 1 (spD 4 zcd)
noncomputable abbrev znb (P : Program) (w : World) (K : PySem.W.Frag) (mg : Str → Option Value) (base : Heap) : Prop:=Dn P w K mg base "_law_shuts" ["_law_web_here", "_law_kind", "_law_other", "_law_names_here"] 1 (spD 4 zea)
noncomputable abbrev znc (P : Program) (w : World) (K : PySem.W.Frag) (mg : Str → Option Value) (base : Heap) : Prop:=Dn P w K mg base "_law_roads" ["_law_web_here", "_law_names_here"] 5 (spD 2 zdg)
noncomputable abbrev znd (P : Program) (w : World) (K : PySem.W.Frag) (mg : Str → Option Value) (base : Heap) : Prop:=Dn P w K mg base "_law_order" ["_law_under", "_law_names_here"] 1 (spD 2 zdh)
noncomputable abbrev zop (P : Program) (w : World) (K : PySem.W.Frag) (mg : Str → Option Value) (base : Heap) : Prop:=Dn P w K mg base "_law_told" ["_law_web_here", "_law_names_here", "_law_under"] 4 (spD 3 zec)
section
variable {P : Program} {w : World} {K : PySem.W.Frag} {mg : Str → Option Value} {base : Heap}
theorem zuc {f : Addr} {fd : FuncData} (F : Fun K "names_of" "names_of" zfi f fd) (T : Txt mg)  : FnOk P w K mg base CX0 1 f fd ["web"] (spD 1 zcs):=by
 refine F.ok ztw (fun vs H Q E h=>zcn h) (fun cdv A outer s H vs Q E hr h=>?_)
 have hu:=zgt hr
 apply Exists.intro
 apply And.intro
 ·refine' Bx.out (zaj (zaz (zda (zco (N':=["name", "elders"]) (own:=["name", "elders"]) (fr:=[]) (by kernel_rfl)) rfl (zbi (K:=K) rfl (bv 0)) ?hb1 (by intro _; rfl))))
  case hb1=>(intro cl C s H fp; refine' ⟨Bx.out (zjw (K:=K) (n:=2) rfl rfl (zdb (zax (i:=0) zja rfl (Or.inl rfl) (by first | exact .inl rfl | exact .inr rfl | assumption)) (zdb (zax (i:=1) zja rfl (Or.inl rfl) (by first | exact .inl rfl | exact .inr rfl | assumption)) zjv (by rfl)) (by rfl)) (by rfl) (by rfl)), Bx.out zmk, Bx.out (bv 0)⟩)
 exact fn_d (f:=zgk) ((zca (zfq (zcp (zac 0)) (zqr (zem (zem zlq))) (zadk (zlb (by decide) (zlb (by decide) zyk))) zqu (zac 0)))) h
theorem zud {f : Addr} {fd : FuncData} (F : Fun K "names_in" "names_in" zfj f fd) (T : Txt mg)  : FnOk P w K mg base CX0 1 f fd ["arm"] (spD 1 zdk):=by
 refine F.ok zty (fun vs H Q E h=>zcn h) (fun cdv A outer s H vs Q E hr h=>?_)
 have hu:=zgt hr
 apply Exists.intro
 apply And.intro
 ·refine' Bx.out (zae (zck (zbs (K:=K) rfl (zbg (zjn (K:=K) rfl) (by rfl) T.isinstance zdu (zab (bv 0) (zab (zld (v:=.ty "tuple") (by rfl) T.tuple zoi rfl (by decide) (by decide)) zai (by rfl)) (by rfl)) (by decide) (by decide) (zag (by rfl)) (by rfl)) (fun _=>rfl)) (zaj (zaz (ziq (znv (K:=K) rfl) (by rfl) T.list zjx (zab (bv 0) zai (by rfl)) (by decide) (by decide) (zag (by rfl)) (by rfl)))) zbh)
 (zaj (zaz (zex (zab (bv 0) zai (by rfl))))))
 exact fn_d (f:=zoe) ((zam (zgd (zgj (zux (zac 0) zye)) (zca (zgw zyd (zaf (zac 0) zap))) zdp) (zca (zhr (zaf (zac 0) zap))))) h
theorem znp {f : Addr} {fd : FuncData} (F : Fun K "check_kinds" "check_kinds" zct f fd) (T : Txt mg) (D_names_of : zit P w K mg base) : FnOk P w K mg base CX0 2 f fd ["web", "names"] (spD 2 zbb):=by
 refine F.ok znn (fun vs H Q E h=>zcn h) (fun cdv A outer s H vs Q E hr h=>?_)
 have hu:=zgt hr
 apply Exists.intro
 apply And.intro
 ·refine' Bx.out (zae (zau (i:=2) zgf rfl (Or.inl rfl) (zbn D_names_of (hr.mono (by decide)) (by rfl) (zab (bv 0) zai (by rfl)) (by decide) (zag (by rfl)) (by rfl)) (by rfl) (.inl rfl))
 (zaj (zcy PassesOwn.never rfl (zbi (K:=K) rfl (bv 1)) (zax (i:=3) zgf rfl (Or.inl rfl) (.inl rfl))
  (zaj (zck (zbk (zjm (K:=K) rfl) (bv 3) (bv 2) (by rfl)) (zaj zzu) zbh)) (by intro _; rfl))))
 exact fn_d (f:=zdr) ((zam (zbd (zbc (zaf (zac 0) zap))) (zfp (zcp (zac 1)) zbz (zgd (st_t (zba zke (zac 3) (zac 2))) zabu zdp)))) h
theorem zue {f : Addr} {fd : FuncData} (F : Fun K "roofs_of" "roofs_of" zfk f fd) (T : Txt mg)  : FnOk P w K mg base CX0 1 f fd ["web"] (spD 1 zbw):=by
 refine F.ok ztz (fun vs H Q E h=>zcn h) (fun cdv A outer s H vs Q E hr h=>?_)
 have hu:=zgt hr
 apply Exists.intro
 apply And.intro
 ·refine' Bx.out (zae (zau (i:=1) zed rfl (Or.inl rfl) zmm (by rfl) (.inl rfl))
 (zae (zcy PassesOwn.never rfl (zbi (K:=K) rfl (bv 0)) (zjw (K:=K) (n:=2) rfl rfl (zdb (zax (i:=2) zed rfl (Or.inl rfl) (.inl rfl)) (zdb (zax (i:=3) zed rfl (Or.inl rfl) (.inl rfl)) zjv (by rfl)) (by rfl)) (by rfl) (by rfl))
  (zae (zau (i:=4) zed rfl (Or.inl rfl) (zacl (zzr (bv 2) zep zack) rfl rfl (by simp) (by decide)) (by rfl) (.inl rfl))
 (zae (zcy PassesOwn.never rfl (zbi (K:=K) rfl (bv 3)) (zax (i:=5) zed rfl (Or.inl rfl) (.inl rfl))
  (zaj (zcc (zeb (K:=K) rfl PySem.F.plainAttrs_dict PySem.F.slot_dict_update PySem.F.type_dict_update zqk (bv 4) (zab (zbo hu (bv 1) (bv 5) (fun _ _=>rfl)) zai (by rfl)) (by rfl) (by rfl) (by rfl) (zag (by rfl)) (by rfl)) (by rfl))) (by intro _; rfl))
 (zaj (zvi hu (bv 1) (bv 2) (bv 4) rfl)))) (by intro _; rfl))
 (zaj (zaz (bv 1)))))
 exact fn_d (f:=zoa) ((zam (zbd zth) (zam (zfp (zcp (zac 0)) (zqr (zem (zem zlq))) (zam (zbd (zajd (zac 2) (se_c fun _=>zas))) (zam (zfp (zcp (zac 3)) zbz (zadj (zbt (zac 5)))) (zahy (zac 2) (zac 4))))) zht))) h
theorem zwl {f : Addr} {fd : FuncData} (F : Fun K "roof_of" "roof_of" zgo f fd) (T : Txt mg) (D_names_in : zkq P w K mg base) : FnOk P w K mg base CX0 2 f fd ["roofs", "arm"] (spD 2 zfu):=by
 refine F.ok zwg (fun vs H Q E h=>zcn h) (fun cdv A outer s H vs Q E hr h=>?_)
 have hu:=zgt hr
 apply Exists.intro
 apply And.intro
 ·refine' Bx.out (zae (zau (i:=2) zkn rfl (Or.inl rfl) zmm (by rfl) (.inl rfl))
 (zae (zcy PassesOwn.never rfl (zbi (K:=K) rfl (zbn D_names_in (hr.mono (by decide)) (by rfl) (zab (bv 1) zai (by rfl)) (by decide) (zag (by rfl)) (by rfl))) (zax (i:=3) zkn rfl (Or.inl rfl) (.inl rfl))
  (zaj (zcc (zeb (K:=K) rfl PySem.F.plainAttrs_dict PySem.F.slot_dict_update PySem.F.type_dict_update zqk (bv 2) (zab (zbo hu (bv 0) (bv 3) (fun _ _=>rfl)) zai (by rfl)) (by rfl) (by rfl) (by rfl) (zag (by rfl)) (by rfl)) (by rfl))) (by intro _; rfl))
 (zaj (zaz (bv 2)))))
 exact fn_d (f:=zrk) ((zam (zbd zth) (zam (zfp (zcp (zbc (zaf (zac 1) zap))) zbz (zadj (zbt (zac 3)))) zht))) h
theorem zacp {f : Addr} {fd : FuncData} (F : Fun K "above" "above" zko f fd) (T : Txt mg) (D_check_kinds : zcu P w K mg base) (D_names_in : zkq P w K mg base) (D_names_of : zit P w K mg base) (D_roof_of : zsb P w K mg base) (D_roofs_of : zgs P w K mg base) : FnOk P w K mg base CX0 3 f fd ["web", "arm"] (spD 2 zew):=by
 refine F.ok zacn (fun vs H Q E h=>zcn h) (fun cdv A outer s H vs Q E hr h=>?_)
 have hu:=zgt hr
 apply Exists.intro
 apply And.intro
 ·refine' Bx.out (zae (zcc (zbn D_check_kinds (hr.mono (by decide)) (by rfl) (zab (bv 0) (zab (zbn D_names_in (hr.mono (by decide)) (by rfl) (zab (bv 1) zai (by rfl)) (by decide) (zag (by rfl)) (by rfl)) zai (by rfl)) (by rfl)) (by decide) (zag (by rfl)) (by rfl)) (by rfl))
 (zae (zau (i:=2) zvo rfl (Or.inr rfl) (zbn D_roof_of (hr.mono (by decide)) (by rfl) (zab (zbn D_roofs_of (hr.mono (by decide)) (by rfl) (zab (bv 0) zai (by rfl)) (by decide) (zag (by rfl)) (by rfl)) (zab (bv 1) zai (by rfl)) (by rfl)) (by decide) (zag (by rfl)) (by rfl)) (by rfl) (.inl rfl))
 (zaj (zaz (zda (zco (N':=["name", "roof"]) (own:=["name"]) (fr:=[2]) (by kernel_rfl)) rfl (zbi (K:=K) rfl (zbn D_names_of (hr.mono (by decide)) (by rfl) (zab (bv 0) zai (by rfl)) (by decide) (zag (by rfl)) (by rfl))) ?hb1 (by intro _; rfl))))))
  case hb1=>(intro cl C s H fp; refine' ⟨Bx.out (zax (i:=0) zub rfl (Or.inl rfl) (by first | exact .inl rfl | exact .inr rfl | assumption)), Bx.out (zkl (zid (zpk hu (bv 0) (bv 1)) (by rfl))), Bx.out (bv 0)⟩)
 exact fn_d (f:=zzl) ((zam (zlp (zbc (zaf (zac 0) (zaf (zbc (zaf (zac 1) zap)) zap)))) (zam (zbd (zbc (zaf (zbc (zaf (zac 0) zap)) (zaf (zac 1) zap)))) (zca (zfq (zcp (zbc (zaf (zac 0) zap))) zbz (zgy (by decide)) (st_b (zuu (zac 0) (zac 1))) (zac 0)))))) h
theorem zwm {f : Addr} {fd : FuncData} (F : Fun K "beneath" "beneath" zgp f fd) (T : Txt mg) (D_check_kinds : zcu P w K mg base) (D_names_of : zit P w K mg base) (D_roofs_of : zgs P w K mg base) : FnOk P w K mg base CX0 3 f fd ["web", "kind"] (spD 2 zgn):=by
 refine F.ok zwh (fun vs H Q E h=>zcn h) (fun cdv A outer s H vs Q E hr h=>?_)
 have hu:=zgt hr
 apply Exists.intro
 apply And.intro
 ·refine' Bx.out (zae (zcc (zbn D_check_kinds (hr.mono (by decide)) (by rfl) (zab (bv 0) (zab (zex (zab (bv 1) zai (by rfl))) zai (by rfl)) (by rfl)) (by decide) (zag (by rfl)) (by rfl)) (by rfl))
 (zae (zau (i:=2) zom rfl (Or.inr rfl) (zbn D_roofs_of (hr.mono (by decide)) (by rfl) (zab (bv 0) zai (by rfl)) (by decide) (zag (by rfl)) (by rfl)) (by rfl) (.inl rfl))
 (zaj (zaz (zda (zco (N':=["name", "kind", "roofs"]) (own:=["name"]) (fr:=[1, 2]) (by kernel_rfl)) rfl (zbi (K:=K) rfl (zbn D_names_of (hr.mono (by decide)) (by rfl) (zab (bv 0) zai (by rfl)) (by decide) (zag (by rfl)) (by rfl))) ?hb1 (by intro _; rfl))))))
  case hb1=>(intro cl C s H fp; refine' ⟨Bx.out (zax (i:=0) zpn rfl (Or.inl rfl) (by first | exact .inl rfl | exact .inr rfl | assumption)), Bx.out (zkl (zid (zpk hu (bv 1) (zbo hu (bv 2) (bv 0) (fun _ _=>rfl))) (by rfl))), Bx.out (bv 0)⟩)
 exact fn_d (f:=zrp) ((zam (zlp (zbc (zaf (zac 0) (zaf (zhr (zaf (zac 1) zap)) zap)))) (zam (zbd (zbc (zaf (zac 0) zap))) (zca (zfq (zcp (zbc (zaf (zac 0) zap))) zbz (zgy (by decide)) (st_b (zuu (zac 1) (zbt (zac 0)))) (zac 0)))))) h
theorem zaak {f : Addr} {fd : FuncData} (F : Fun K "stands" "stands" zis f fd) (T : Txt mg) (D_check_kinds : zcu P w K mg base) (D_roofs_of : zgs P w K mg base) : FnOk P w K mg base CX0 3 f fd ["web", "kind", "other"] (spD 3 zhf):=by
 refine F.ok zaae (fun vs H Q E h=>zcn h) (fun cdv A outer s H vs Q E hr h=>?_)
 have hu:=zgt hr
 apply Exists.intro
 apply And.intro
 ·refine' Bx.out (zae (zcc (zbn D_check_kinds (hr.mono (by decide)) (by rfl) (zab (bv 0) (zab (zex (zab (bv 1) (zab (bv 2) zai (by rfl)) (by rfl))) zai (by rfl)) (by rfl)) (by decide) (zag (by rfl)) (by rfl)) (by rfl))
 (zaj (zaz (zts (zpk hu (bv 2) (zbo hu (zbn D_roofs_of (hr.mono (by decide)) (by rfl) (zab (bv 0) zai (by rfl)) (by decide) (zag (by rfl)) (by rfl)) (bv 1) (fun _ _=>rfl))) (by rfl)))))
 exact fn_d (f:=zvm) ((zam (zlp (zbc (zaf (zac 0) (zaf (zhr (zaf (zac 1) (zaf (zac 2) zap))) zap)))) (zca (zuu (zac 2) (zafg (zbc (zaf (zac 0) zap)) (zac 1)))))) h
theorem zagj {f : Addr} {fd : FuncData} (F : Fun K "road" "road" zon f fd) (T : Txt mg) (D_check_kinds : zcu P w K mg base) (D_roofs_of : zgs P w K mg base) : FnOk P w K mg base CX0 3 f fd ["web", "kind", "other"] (spD 3 zku):=by
 refine F.ok zagi (fun vs H Q E h=>zcn h) (fun cdv A outer s H vs Q E hr h=>?_)
 have hu:=zgt hr
 apply Exists.intro
 apply And.intro
 ·refine' Bx.out (zae (zcc (zbn D_check_kinds (hr.mono (by decide)) (by rfl) (zab (bv 0) (zab (zex (zab (bv 1) (zab (bv 2) zai (by rfl)) (by rfl))) zai (by rfl)) (by rfl)) (by decide) (zag (by rfl)) (by rfl)) (by rfl))
 (zae (zau (i:=3) zmq rfl (Or.inr rfl) (zbn D_roofs_of (hr.mono (by decide)) (by rfl) (zab (bv 0) zai (by rfl)) (by decide) (zag (by rfl)) (by rfl)) (by rfl) (.inl rfl))
 (zae (zck (zid (zwf hu (bv 2) (zbo hu (bv 3) (bv 1) (fun _ _=>rfl))) (by rfl)) (zaj (zaz zml)) zbh)
 (zae (zau (i:=4) zmq rfl (Or.inl rfl) (ziq (zwb rfl) (by rfl) T.dict zaab (zab (bv 0) zai (by rfl)) (by decide) (by decide) (zag (by rfl)) (by rfl)) (by rfl) (.inl rfl))
 (zae (zau (i:=5) zmq rfl (Or.inl rfl) (zex (zab (bv 1) zai (by rfl))) (by rfl) (.inl rfl))
 (zae (zzt PassesOwn.never (zbk (zks (K:=K) rfl hr.units) (zeq (zhj (K:=K) rfl) (bv 5) (zog znq zao) (fun _ _=>rfl)) (bv 2) (zeo _)) (zae (zzv (i:=6) (zco (N':=["elder", "other", "roofs"]) (own:=["elder"]) (fr:=[2, 3]) (by kernel_rfl)) rfl (zbi (K:=K) rfl (zbo hu (bv 4) (zeq (zhj (K:=K) rfl) (bv 5) (zog znq zao) (fun _ _=>rfl)) (fun _ _=>rfl))) ?hb1 (by rfl) zmq rfl rfl (by intro _; rfl))
 (zaj (zcc (zeb (K:=K) rfl PySem.F.plainAttrs_list PySem.F.slot_list_append PySem.F.type_list_append zcj (bv 5) (zab (zeq (zhj (K:=K) rfl) (bv 6) zao (fun _ _=>rfl)) zai (by rfl)) (by rfl) (by rfl) (by rfl) (zag (by rfl)) (by rfl)) (by rfl)))))
 (zaj (zaz (bv 5)))))))))
  case hb1=>(intro cl C s H fp; refine' ⟨Bx.out (zax (i:=0) zwk rfl (Or.inl rfl) (by first | exact .inl rfl | exact .inr rfl | assumption)), Bx.out (zkl (zid (zpk hu (bv 1) (zbo hu (bv 2) (bv 0) (fun _ _=>rfl))) (by rfl))), Bx.out (bv 0)⟩)
 exact fn_d (f:=zadl) ((zam (zlp (zbc (zaf (zac 0) (zaf (zhr (zaf (zac 1) (zaf (zac 2) zap))) zap)))) (zam (zbd (zbc (zaf (zac 0) zap))) (zam (zgd (st_b (zyb (zac 2) (zbt (zac 1)))) (zca (se_c fun _=>zff)) zdp) (zam (zbd (zgw zafl (zaf (zac 0) zap))) (zam (zbd (zhr (zaf (zac 1) zap))) (zam (zabw 1000 (st_t (zba zqp (zfs (zny (se_c fun _=>zah))) (zac 2))) (zam (zbd (zfq (zcp (zbt (zfs (zny (se_c fun _=>zah))))) zbz (zgy (by decide)) (st_b (zuu (zac 1) (zbt (zac 0)))) (zac 0))) (znx (zfs (se_c fun _=>zah))))) zht))))))) h
theorem zacq {f : Addr} {fd : FuncData} (F : Fun K "hedge" "hedge" zkp f fd) (T : Txt mg) (D_above : zpo P w K mg base) (D_check_kinds : zcu P w K mg base) : FnOk P w K mg base CX0 4 f fd ["web", "kind", "other"] (spD 3 zic):=by
 refine F.ok zaco (fun vs H Q E h=>zcn h) (fun cdv A outer s H vs Q E hr h=>?_)
 have hu:=zgt hr
 apply Exists.intro
 apply And.intro
 ·refine' Bx.out (zae (zcc (zbn D_check_kinds (hr.mono (by decide)) (by rfl) (zab (bv 0) (zab (zex (zab (bv 1) (zab (bv 2) zai (by rfl)) (by rfl))) zai (by rfl)) (by rfl)) (by decide) (zag (by rfl)) (by rfl)) (by rfl))
 (zae (zau (i:=3) zvq rfl (Or.inl rfl) (zbn D_above (hr.mono (by decide)) (by rfl) (zab (bv 0) (zab (bv 1) zai (by rfl)) (by rfl)) (by decide) (zag (by rfl)) (by rfl)) (by rfl) (.inl rfl))
 (zae (zck (zbk (zjl (K:=K) rfl) (bv 2) (bv 3) (by rfl)) (zaj (zaz zml)) zbh)
 (zaj (zaz (bv 3))))))
 exact fn_d (f:=zzm) ((zam (zlp (zbc (zaf (zac 0) (zaf (zhr (zaf (zac 1) (zaf (zac 2) zap))) zap)))) (zam (zbd (zbc (zaf (zac 0) (zaf (zac 1) zap)))) (zam (zgd (st_t (zba zke (zac 2) (zac 3))) (zca (se_c fun _=>zff)) zdp) zht)))) h
theorem zsf {f : Addr} {fd : FuncData} (F : Fun K "_law_names" "_law_names" zef f fd) (T : Txt mg)  : FnOk P w K mg base CX0 1 f fd ["_law_many", "_law_cell"] (spD 2 zdz):=by
 refine F.ok zru (fun vs H Q E h=>zcn h) (fun cdv A outer s H vs Q E hr h=>?_)
 have hu:=zgt hr
 apply Exists.intro
 apply And.intro
 ·refine' Bx.out (zae (zau (i:=2) zby rfl (Or.inl rfl) zagf (by rfl) (.inl rfl))
 (zae (zau (i:=3) zby rfl (Or.inl rfl) (zeq (zhj (K:=K) rfl) (ztr (zab zao (zab zao (zab zao (zab zao (zab zao (zab zao (zab zao (zab zao zai (by rfl)) (by rfl)) (by rfl)) (by rfl)) (by rfl)) (by rfl)) (by rfl)) (by rfl))) (zbe zdi (zbe zfm (bv 1) zao) zao) (fun _ _=>rfl)) (by rfl) (.inl rfl))
 (zae (zau (i:=4) zby rfl (Or.inl rfl) (zbe zdi (zbe zfm (bv 1) zao) zao) (by rfl) (.inl rfl))
 (zae (zau (i:=5) zby rfl (Or.inl rfl) (zbe zgu (zeq (zhj (K:=K) rfl) (bv 2) (zbe zdi (zbe zfm (bv 1) zao) zao) (fun _ _=>rfl)) (zbe zdi (zbe zfm (bv 1) zao) zao)) (by rfl) (.inl rfl))
 (zae (zau (i:=6) zby rfl (Or.inl rfl) (zbe zdi (zbe zfm (bv 1) zao) (zbe (zcb (K:=K) rfl) (zbg (zcz (K:=K) rfl) (by rfl) T.len zen (zab (bv 5) zai (by rfl)) (by decide) (by decide) (zag (by rfl)) (by rfl)) zao)) (by rfl) (.inl rfl))
 (zae (zau (i:=7) zby rfl (Or.inl rfl) (zex zai) (by rfl) (.inl rfl))
 (zae (zcy PassesOwn.never rfl (zkk rfl T.range (zab (bv 0) zai (by rfl)) (by rfl)) (zax (i:=8) zby rfl (Or.inl rfl) (.inl rfl))
  (zae (zau (i:=9) zby rfl (Or.inl rfl) (zeq (zhj (K:=K) rfl) (bv 2) (zbe zdi (zbe (zcb (K:=K) rfl) (bv 4) (zbe zgu (bv 3) (bv 8))) zao) (fun _ _=>rfl)) (by rfl) (.inl rfl))
 (zaj (zck (zbk (zkr (K:=K) rfl hr.units) (zbe zdi (bv 1) zao) zao (zeo _)) (zaj (zcc (zeb (K:=K) rfl PySem.F.plainAttrs_list PySem.F.slot_list_append PySem.F.type_list_append zcj (bv 7) (zab (zbe (zcb (K:=K) rfl) (zbe (zcb (K:=K) rfl) (zfw (zql (K:=K) rfl) (bv 5) zir (zga (bv 6))) (bv 9)) (zfw (zql (K:=K) rfl) (bv 5) (zga (bv 6)) zir)) zai (by rfl)) (by rfl) (by rfl) (by rfl) (zag (by rfl)) (by rfl)) (by rfl))) (zaj (zck (zbk (zkr (K:=K) rfl hr.units) (zbe zdi (bv 1) zao) zao (zeo _)) (zaj (zcc (zeb (K:=K) rfl PySem.F.plainAttrs_list PySem.F.slot_list_append PySem.F.type_list_append zcj (bv 7) (zab (zbe (zcb (K:=K) rfl) (zfw (zql (K:=K) rfl) (bv 5) zir (zga (zbe zdi (zbe zgu (bv 8) (bv 3)) (zbe (zcb (K:=K) rfl) (zbg (zcz (K:=K) rfl) (by rfl) T.len zen (zab (bv 5) zai (by rfl)) (by decide) (by decide) (zag (by rfl)) (by rfl)) zao)))) (bv 9)) zai (by rfl)) (by rfl) (by rfl) (by rfl) (zag (by rfl)) (by rfl)) (by rfl))) (zaj (zcc (zeb (K:=K) rfl PySem.F.plainAttrs_list PySem.F.slot_list_append PySem.F.type_list_append zcj (bv 7) (zab (zbe zgu (zeq (zhj (K:=K) rfl) (bv 2) (zbe zdi (zbe (zcb (K:=K) rfl) (bv 4) (zbe zfm (bv 8) zao)) zao) (fun _ _=>rfl)) (zbe (zcb (K:=K) rfl) zao (zbe zdi (zbe zgu (bv 8) (bv 3)) zao))) zai (by rfl)) (by rfl) (by rfl) (by rfl) (zag (by rfl)) (by rfl)) (by rfl)))))))) (by intro _; rfl))
 (zaj (zaz (bv 7))))))))))
 exact fn_d (f:=zlu) ((zam (zbd (se_c fun _=>zgg)) (zam (zbd (zba zaff (zyc (zaf (se_c fun _=>zah) (zaf (se_c fun _=>zah) (zaf (se_c fun _=>zah) (zaf (se_c fun _=>zah) (zaf (se_c fun _=>zah) (zaf (se_c fun _=>zah) (zaf (se_c fun _=>zah) (zaf (se_c fun _=>zah) zap))))))))) (zba zey (zba zgb (zac 1) (se_c fun _=>zah)) (se_c fun _=>zah)))) (zam (zbd (zba zey (zba zgb (zac 1) (se_c fun _=>zah)) (se_c fun _=>zah))) (zam (zbd (zba zqm (zfs (zba zey (zba zgb (zac 1) (se_c fun _=>zah)) (se_c fun _=>zah))) (zba zey (zba zgb (zac 1) (se_c fun _=>zah)) (se_c fun _=>zah)))) (zam (zbd (zba zey (zba zgb (zac 1) (se_c fun _=>zah)) (zba zhi (zgw zjp (zaf (zac 5) zap)) (se_c fun _=>zah)))) (zam (zbd (zhr zap)) (zam (zfp (zls (zaf (zac 0) zap)) zbz (zam (zbd (zfs (zba zey (zba zhi (zac 4) (zba zqm (zac 3) (zac 8))) (se_c fun _=>zah)))) (zgd (st_t (zba zqo (zba zey (zac 1) (se_c fun _=>zah)) (se_c fun _=>zah))) (znx (zba zhi (zba zhi (zti (zac 5) zkf (zhs (zac 6))) (zac 9)) (zti (zac 5) (zhs (zac 6)) zkf))) (zgd (st_t (zba zqo (zba zey (zac 1) (se_c fun _=>zah)) (se_c fun _=>zah))) (znx (zba zhi (zti (zac 5) zkf (zhs (zba zey (zba zqm (zac 8) (zac 3)) (zba zhi (zgw zjp (zaf (zac 5) zap)) (se_c fun _=>zah))))) (zac 9))) (znx (zba zqm (zfs (zba zey (zba zhi (zac 4) (zba zgb (zac 8) (se_c fun _=>zah))) (se_c fun _=>zah))) (zba zhi (se_c fun _=>zah) (zba zey (zba zqm (zac 8) (zac 3)) (se_c fun _=>zah))))))))) zht)))))))) h
theorem zwn {f : Addr} {fd : FuncData} (F : Fun K "_law_web" "_law_web" zgq f fd) (T : Txt mg)  : FnOk P w K mg base CX0 1 f fd ["_law_cells", "_law_names_here"] (spD 2 zhx):=by
 refine F.ok zwi (fun vs H Q E h=>zcn h) (fun cdv A outer s H vs Q E hr h=>?_)
 have hu:=zgt hr
 apply Exists.intro
 apply And.intro
 ·refine' Bx.out (zae (zau (i:=2) zcm rfl (Or.inl rfl) (zex zai) (by rfl) (.inl rfl))
 (zae (zcy PassesOwn.never rfl (zzw (K:=K) rfl rfl T.enumerate (zab (bv 1) zai (by rfl)) (by rfl)) (zjw (K:=K) (n:=2) rfl rfl (zdb (zax (i:=3) zcm rfl (Or.inl rfl) (.inl rfl)) (zdb (zax (i:=4) zcm rfl (Or.inl rfl) (.inl rfl)) zjv (by rfl)) (by rfl)) (by rfl) (by rfl))
  (zae (zau (i:=5) zcm rfl (Or.inl rfl) (zfw (zql (K:=K) rfl) (bv 1) zir (zga (bv 3))) (by rfl) (.inl rfl))
 (zae (zau (i:=6) zcm rfl (Or.inl rfl) (zbe zfm (zeq (zhj (K:=K) rfl) (bv 0) (bv 3) (fun _ _=>rfl)) zao) (by rfl) (.inl rfl))
 (zae (zau (i:=7) zcm rfl (Or.inl rfl) (zex zai) (by rfl) (.inl rfl))
 (zae (zcy PassesOwn.never rfl (zkk rfl T.range (zab (zbg (zpx rfl) (by rfl) T.min zvn (zab (zbe zdi (zeq (zhj (K:=K) rfl) (bv 0) (bv 3) (fun _ _=>rfl)) zao) (zab (bv 3) zai (by rfl)) (by rfl)) (by decide) (by decide) (zag (by rfl)) (by rfl)) zai (by rfl)) (by rfl)) (zax (i:=8) zcm rfl (Or.inl rfl) (.inl rfl))
  (zae (zau (i:=9) zcm rfl (Or.inl rfl) (zbe zdi (bv 6) (zbg (zcz (K:=K) rfl) (by rfl) T.len zen (zab (bv 5) zai (by rfl)) (by decide) (by decide) (zag (by rfl)) (by rfl))) (by rfl) (.inl rfl))
 (zae (zau (i:=6) zcm rfl (Or.inl rfl) (zbe zfm (bv 6) (zbg (zcz (K:=K) rfl) (by rfl) T.len zen (zab (bv 5) zai (by rfl)) (by decide) (by decide) (zag (by rfl)) (by rfl))) (by rfl) (.inl rfl))
 (zaj (zcc (zeb (K:=K) rfl PySem.F.plainAttrs_list PySem.F.slot_list_append PySem.F.type_list_append zcj (bv 7) (zab (zeb (K:=K) rfl PySem.F.plainAttrs_list PySem.F.slot_list_pop PySem.F.type_list_pop zuo (bv 5) (zab (bv 9) zai (by rfl)) (by rfl) (by rfl) (by rfl) (zag (by rfl)) (by rfl)) zai (by rfl)) (by rfl) (by rfl) (by rfl) (zag (by rfl)) (by rfl)) (by rfl))))) (by intro _; rfl))
 (zaj (zcc (zeb (K:=K) rfl PySem.F.plainAttrs_list PySem.F.slot_list_append PySem.F.type_list_append zcj (bv 2) (zab (ztr (zab (bv 4) (zab (bv 7) zai (by rfl)) (by rfl))) zai (by rfl)) (by rfl) (by rfl) (by rfl) (zag (by rfl)) (by rfl)) (by rfl))))))) (by intro _; rfl))
 (zaj (zaz (bv 2)))))
 exact fn_d (f:=zqx) ((zam (zbd (zhr zap)) (zam (zfp (zzq (zaf (zac 1) zap)) (zqr (zem (zem zlq))) (zam (zbd (zti (zac 1) zkf (zhs (zac 3)))) (zam (zbd (zba zgb (zfs (zac 3)) (se_c fun _=>zah))) (zam (zbd (zhr zap)) (zam (zfp (zls (zaf (zgw zadi (zaf (zba zey (zfs (zac 3)) (se_c fun _=>zah)) (zaf (zac 3) zap))) zap)) zbz (zam (zbd (zba zey (zac 6) (zgw zjp (zaf (zac 5) zap)))) (zam (zbd (zba zgb (zac 6) (zgw zjp (zaf (zac 5) zap)))) (zqw (zac 9))))) (znx (zyc (zaf (zac 4) (zaf (zac 7) zap))))))))) zht))) h
theorem zwo {f : Addr} {fd : FuncData} (F : Fun K "_law_arm" "_law_arm" zgr f fd) (T : Txt mg)  : FnOk P w K mg base CX0 1 f fd ["_law_cell", "_law_names_here"] (spD 2 zie):=by
 refine F.ok zwj (fun vs H Q E h=>zcn h) (fun cdv A outer s H vs Q E hr h=>?_)
 have hu:=zgt hr
 apply Exists.intro
 apply And.intro
 ·refine' Bx.out (zae (zau (i:=2) zeg rfl (Or.inl rfl) (ziq (znv (K:=K) rfl) (by rfl) T.list zjx (zab (bv 1) zai (by rfl)) (by decide) (by decide) (zag (by rfl)) (by rfl)) (by rfl) (.inl rfl))
 (zae (zau (i:=3) zeg rfl (Or.inl rfl) (zbe zfm (bv 0) zao) (by rfl) (.inl rfl))
 (zae (zau (i:=4) zeg rfl (Or.inl rfl) (zex zai) (by rfl) (.inl rfl))
 (zae (zcy PassesOwn.never rfl (zkk rfl T.range (zab (zbg (zpx rfl) (by rfl) T.min zvn (zab (zbe (zcb (K:=K) rfl) zao (zbe zdi (bv 0) zao)) (zab (zbg (zcz (K:=K) rfl) (by rfl) T.len zen (zab (bv 1) zai (by rfl)) (by decide) (by decide) (zag (by rfl)) (by rfl)) zai (by rfl)) (by rfl)) (by decide) (by decide) (zag (by rfl)) (by rfl)) zai (by rfl)) (by rfl)) (zax (i:=5) zeg rfl (Or.inl rfl) (.inl rfl))
  (zae (zau (i:=6) zeg rfl (Or.inl rfl) (zbe zdi (bv 3) (zbg (zcz (K:=K) rfl) (by rfl) T.len zen (zab (bv 2) zai (by rfl)) (by decide) (by decide) (zag (by rfl)) (by rfl))) (by rfl) (.inl rfl))
 (zae (zau (i:=3) zeg rfl (Or.inl rfl) (zbe zfm (bv 3) (zbg (zcz (K:=K) rfl) (by rfl) T.len zen (zab (bv 2) zai (by rfl)) (by decide) (by decide) (zag (by rfl)) (by rfl))) (by rfl) (.inl rfl))
 (zaj (zcc (zeb (K:=K) rfl PySem.F.plainAttrs_list PySem.F.slot_list_append PySem.F.type_list_append zcj (bv 4) (zab (zeb (K:=K) rfl PySem.F.plainAttrs_list PySem.F.slot_list_pop PySem.F.type_list_pop zuo (bv 2) (zab (bv 6) zai (by rfl)) (by rfl) (by rfl) (by rfl) (zag (by rfl)) (by rfl)) zai (by rfl)) (by rfl) (by rfl) (by rfl) (zag (by rfl)) (by rfl)) (by rfl))))) (by intro _; rfl))
 (zaj (zaz (bv 4)))))))
 exact fn_d (f:=zrq) ((zam (zbd (zgw zyd (zaf (zac 1) zap))) (zam (zbd (zba zgb (zac 0) (se_c fun _=>zah))) (zam (zbd (zhr zap)) (zam (zfp (zls (zaf (zgw zadi (zaf (zba zhi (se_c fun _=>zah) (zba zey (zac 0) (se_c fun _=>zah))) (zaf (zgw zjp (zaf (zac 1) zap)) zap))) zap)) zbz (zam (zbd (zba zey (zac 3) (zgw zjp (zaf (zac 2) zap)))) (zam (zbd (zba zgb (zac 3) (zgw zjp (zaf (zac 2) zap)))) (zqw (zac 6))))) zht))))) h
theorem zsg {f : Addr} {fd : FuncData} (F : Fun K "_law_leads" "_law_leads" zeh f fd) (T : Txt mg)  : FnOk P w K mg base CX0 1 f fd ["_law_web_here", "_law_kind", "_law_other", "_law_way"] (spD 4 zcd):=by
 refine F.ok zrx (fun vs H Q E h=>zcn h) (fun cdv A outer s H vs Q E hr h=>?_)
 have hu:=zgt hr
 apply Exists.intro
 apply And.intro
 ·refine' Bx.out (zae (zck (zju (zfv (zbs (K:=K) rfl (zbg (zjn (K:=K) rfl) (by rfl) T.isinstance zdu (zab (bv 3) (zab (zld (v:=.ty "list") (by rfl) T.list zjx rfl (by decide) (by decide)) zai (by rfl)) (by rfl)) (by decide) (by decide) (zag (by rfl)) (by rfl)) (fun _=>rfl))) (zju (zbk (zkr (K:=K) rfl hr.units) (zbg (zcz (K:=K) rfl) (by rfl) T.len zen (zab (bv 3) zai (by rfl)) (by decide) (by decide) (zag (by rfl)) (by rfl)) zao (zeo _)) (zmj (zbk (zks (K:=K) rfl hr.units) (zeq (zhj (K:=K) rfl) (bv 3) zao (fun _ _=>rfl)) (bv 1) (zeo _))))).pt (zaj (zaz zep)) zbh)
 (zae (zau (i:=4) zer rfl (Or.inr rfl) (bv 1) (by rfl) (.inl rfl))
 (zae (zcy PassesOwn.never rfl (zbi (K:=K) rfl (zfw (zql (K:=K) rfl) (bv 3) (zga zao) zir)) (zax (i:=5) zer rfl (Or.inl rfl) (.inl rfl))
  (zae (zau (i:=6) zer rfl (Or.inl rfl) (zeq (zhj (K:=K) rfl) (zda (zco (N':=["_law_one", "_law_row", "_law_last"]) (own:=["_law_one", "_law_row"]) (fr:=[4]) (by kernel_rfl)) rfl (zbi (K:=K) rfl (bv 0)) ?hb1 (by intro _; rfl)) zao (fun _ _=>rfl)) (by rfl) (.inl rfl))
 (zae (zck (zbk (zjm (K:=K) rfl) (bv 5) (bv 6) (by rfl)) (zaj (zaz zep)) zbh)
 (zaj (zau (i:=4) zer rfl (Or.inr rfl) (bv 5) (by rfl) (.inl rfl))))) (by intro _; rfl))
 (zaj (zaz (zhe (zkr (K:=K) rfl hr.units) (bv 4) (bv 2) (zeo _)))))))
  case hb1=>(intro cl C s H fp; refine' ⟨Bx.out (zjw (K:=K) (n:=2) rfl rfl (zdb (zax (i:=0) zih rfl (Or.inl rfl) (by first | exact .inl rfl | exact .inr rfl | assumption)) (zdb (zax (i:=1) zih rfl (Or.inl rfl) (by first | exact .inl rfl | exact .inr rfl | assumption)) zjv (by rfl)) (by rfl)) (by rfl) (by rfl)), Bx.out (zkl (zbk (zkr (K:=K) rfl hr.units) (bv 0) (bv 2) (zeo _))), Bx.out (bv 1)⟩)
 exact fn_d (f:=zif) ((zam (zgd (zpc (zhq (zgj (zux (zac 3) zuy))) (zpc (st_t (zba zqo (zgw zjp (zaf (zac 3) zap)) (se_c fun _=>zah))) (st_t (zba zqp (zfs (se_c fun _=>zah)) (zac 1))))) (zca (se_c fun _=>zas)) zdp) (zam (zbd (zac 1)) (zam (zfp (zcp (zti (zac 3) (zhs (se_c fun _=>zah)) zkf)) zbz (zam (zbd (zba zaff (zfq (zcp (zac 0)) (zqr (zem (zem zlq))) (zadk (zlb (by decide) (zlb (by decide) zyk))) (st_t (zba zqo (zac 0) (zac 2))) (zac 1)) (se_c fun _=>zah))) (zam (zgd (st_t (zba zke (zac 5) (zac 6))) (zca (se_c fun _=>zas)) zdp) (zbd (zac 5))))) (zca (zba zqo (zac 4) (zac 2))))))) h
theorem zsh {f : Addr} {fd : FuncData} (F : Fun K "_law_shuts" "_law_shuts" zei f fd) (T : Txt mg)  : FnOk P w K mg base CX0 1 f fd ["_law_web_here", "_law_kind", "_law_other", "_law_names_here"] (spD 4 zea):=by
 refine F.ok zry (fun vs H Q E h=>zcn h) (fun cdv A outer s H vs Q E hr h=>?_)
 have hu:=zgt hr
 apply Exists.intro
 apply And.intro
 ·refine' Bx.out (zae (zck (zju (zfv (zbs (K:=K) rfl (zbg (zjn (K:=K) rfl) (by rfl) T.isinstance zdu (zab (bv 3) (zab (zld (v:=.ty "list") (by rfl) T.list zjx rfl (by decide) (by decide)) zai (by rfl)) (by rfl)) (by decide) (by decide) (zag (by rfl)) (by rfl)) (fun _=>rfl))) (zju (zbk (zjm (K:=K) rfl) (bv 1) (bv 3) (by rfl)) (zmj (zbk (zjl (K:=K) rfl) (bv 2) (bv 3) (by rfl))))).pt (zaj (zaz zep)) zbh)
 (zae (zau (i:=4) zes rfl (Or.inl rfl) zao (by rfl) (.inl rfl))
 (zae (zcy PassesOwn.never rfl (zbi (K:=K) rfl (bv 0)) (zjw (K:=K) (n:=2) rfl rfl (zdb (zax (i:=5) zes rfl (Or.inl rfl) (.inl rfl)) (zdb (zax (i:=6) zes rfl (Or.inl rfl) (.inl rfl)) zjv (by rfl)) (by rfl)) (by rfl) (by rfl))
  (zaj (zck (zbk (zjl (K:=K) rfl) (bv 5) (bv 3) (by rfl)) (zae (zau (i:=4) zes rfl (Or.inl rfl) (zbe (zcb (K:=K) rfl) (bv 4) zao) (by rfl) (.inl rfl))
 (zaj (zck (zfv (zbs (K:=K) rfl (zbg (zlj (K:=K) rfl rfl) (by rfl) T.all zpl (zab (zda (zco (N':=["_law_elder", "_law_names_here"]) (own:=["_law_elder"]) (fr:=[3]) (by kernel_rfl)) rfl (zbi (K:=K) rfl (bv 6)) ?hb1 (by intro _; rfl)) zai (by rfl)) (by decide) (by decide) (zag (by rfl)) (by rfl)) (fun _=>rfl))) (zaj (zaz zep)) zbh))) zbh)) (by intro _; rfl))
 (zaj (zaz (zhe (zkr (K:=K) rfl hr.units) (bv 4) (zbg (zcz (K:=K) rfl) (by rfl) T.len zen (zab (bv 3) zai (by rfl)) (by decide) (by decide) (zag (by rfl)) (by rfl)) (zeo _)))))))
  case hb1=>(intro cl C s H fp; refine' ⟨Bx.out (zax (i:=0) zmx rfl (Or.inl rfl) (by first | exact .inl rfl | exact .inr rfl | assumption)), Bx.out zmk, Bx.out (zhe (zjl (K:=K) rfl) (bv 0) (bv 1) (by rfl))⟩)
 exact fn_d (f:=zmg) ((zam (zgd (zpc (zhq (zgj (zux (zac 3) zuy))) (zpc (st_t (zba zke (zac 1) (zac 3))) (st_t (zba zke (zac 2) (zac 3))))) (zca (se_c fun _=>zas)) zdp) (zam (zbd (se_c fun _=>zah)) (zam (zfp (zcp (zac 0)) (zqr (zem (zem zlq))) (zgd (st_t (zba zke (zac 5) (zac 3))) (zam (zbd (zba zhi (zac 4) (se_c fun _=>zah))) (zgd (zhq (zgj (zgw zuw (zaf (zfq (zcp (zac 6)) zbz (zgy (by decide)) zqu (zba zke (zac 0) (zac 1))) zap)))) (zca (se_c fun _=>zas)) zdp)) zdp)) (zca (zba zqo (zac 4) (zgw zjp (zaf (zac 3) zap)))))))) h
theorem zsi {f : Addr} {fd : FuncData} (F : Fun K "_law_roads" "_law_roads" zej f fd) (T : Txt mg) (D_law_leads : zna P w K mg base) (D_law_shuts : znb P w K mg base) (D_hedge : zaaj P w K mg base) (D_road : zadu P w K mg base) : FnOk P w K mg base CX0 5 f fd ["_law_web_here", "_law_names_here"] (spD 2 zdg):=by
 refine F.ok zrz (fun vs H Q E h=>zcn h) (fun cdv A outer s H vs Q E hr h=>?_)
 have hu:=zgt hr
 apply Exists.intro
 apply And.intro
 ·refine' Bx.out (zae (zau (i:=2) zdm rfl (Or.inl rfl) zmm (by rfl) (.inl rfl))
 (zae (zcy PassesOwn.never rfl (zbi (K:=K) rfl (bv 1)) (zax (i:=3) zdm rfl (Or.inl rfl) (.inl rfl))
  (zae (zvi hu (bv 2) (bv 3) (zex zai) rfl) (zaj (zcy PassesOwn.never rfl (zbi (K:=K) rfl (bv 1)) (zax (i:=4) zdm rfl (Or.inl rfl) (.inl rfl))
  (zae (zau (i:=5) zdm rfl (Or.inl rfl) (zbn D_road (hr.mono (by decide)) (by rfl) (zab (bv 0) (zab (bv 3) (zab (bv 4) zai (by rfl)) (by rfl)) (by rfl)) (by decide) (zag (by rfl)) (by rfl)) (by rfl) (.inl rfl))
 (zae (zau (i:=6) zdm rfl (Or.inl rfl) (zbn D_hedge (hr.mono (by decide)) (by rfl) (zab (bv 0) (zab (bv 3) (zab (bv 4) zai (by rfl)) (by rfl)) (by rfl)) (by decide) (zag (by rfl)) (by rfl)) (by rfl) (.inl rfl))
 (zae (zck (zbk (zkr (K:=K) rfl hr.units) (zts (zkm (bv 5)) (by first | exact zij _ (by decide) (by decide) | rfl)) (zts (zkm (bv 6)) (by first | exact zij _ (by decide) (by decide) | rfl)) (zeo _)) (zaj (zaz zml)) zbh)
 (zae (zck (zzs (zid (zkm (bv 5)) (by first | exact zij _ (by decide) (by decide) | rfl)) (zvh (zfv (zbs (K:=K) rfl (zbn D_law_shuts (hr.mono (by decide)) (by rfl) (zab (bv 0) (zab (bv 3) (zab (bv 4) (zab (bv 6) zai (by rfl)) (by rfl)) (by rfl)) (by rfl)) (by decide) (zag (by rfl)) (by rfl)) (fun _=>rfl))))).pt (zaj (zaz zml)) zbh)
 (zaj (zck (zid (zkm (bv 6)) (by first | exact zij _ (by decide) (by decide) | rfl)) (zae (zck (zfv (zbs (K:=K) rfl (zbn D_law_leads (hr.mono (by decide)) (by rfl) (zab (bv 0) (zab (bv 3) (zab (bv 4) (zab (bv 5) zai (by rfl)) (by rfl)) (by rfl)) (by rfl)) (by decide) (zag (by rfl)) (by rfl)) (fun _=>rfl))) (zaj (zaz zml)) zbh) (zaj (zcc (zeb (K:=K) rfl PySem.F.plainAttrs_list PySem.F.slot_list_append PySem.F.type_list_append zcj (zbo hu (bv 2) (bv 3) (fun _ _=>rfl)) (zab (bv 4) zai (by rfl)) (by rfl) (by rfl) (by rfl) (zag (by rfl)) (by rfl)) (by rfl)))) zbh)))))) (by intro _; rfl)))) (by intro _; rfl))
 (zaj (zaz (bv 2)))))
 exact fn_d (f:=zmo) ((zam (zbd zth) (zam (zfp (zcp (zac 1)) zbz (zaik (zcp (zac 1)) (zvj (zzx (zbc (zaf (zac 0) (zaf (zac 3) (zaf (zac 4) zap)))) (by decide)) (zvj (zzx (zbc (zaf (zac 0) (zaf (zac 3) (zaf (zac 4) zap)))) (by decide)) (zvj (zzy (st_t (zba zqo (znw (zac 5)) (znw (zac 6)))) (ztu (se_c fun _=>zff)) ztt) (zvj (zzy (zadh (st_b (znw (zac 5))) (zhq (zgj (zbc (zaf (zac 0) (zaf (zac 3) (zaf (zac 4) (zaf (zac 6) zap)))))))) (ztu (se_c fun _=>zff)) ztt) (zaij (st_b (znw (zac 6))) (zzy (zhq (zgj (zbc (zaf (zac 0) (zaf (zac 3) (zaf (zac 4) (zaf (zac 5) zap))))))) (ztu (se_c fun _=>zff)) ztt)))))) (by decide) (by decide))) zht))) h
theorem zsj {f : Addr} {fd : FuncData} (F : Fun K "_law_order" "_law_order" zek f fd) (T : Txt mg)  : FnOk P w K mg base CX0 1 f fd ["_law_under", "_law_names_here"] (spD 2 zdh):=by
 refine F.ok zsa (fun vs H Q E h=>zcn h) (fun cdv A outer s H vs Q E hr h=>?_)
 have hu:=zgt hr
 apply Exists.intro
 apply And.intro
 ·refine' Bx.out (zae (zcy PassesOwn.never rfl (zbi (K:=K) rfl (bv 1)) (zax (i:=2) zig rfl (Or.inr rfl) (.inl rfl))
  (zae (zck (zbk (zjm (K:=K) rfl) (bv 2) (zbo hu (bv 0) (bv 2) (fun _ _=>rfl)) (by rfl)) (zaj (zaz zep)) zbh)
 (zaj (zcy PassesOwn.never rfl (zbi (K:=K) rfl (zbo hu (bv 0) (bv 2) (fun _ _=>rfl))) (zax (i:=3) zig rfl (Or.inl rfl) (.inl rfl))
  (zae (zck (zzs (zbk (zjl (K:=K) rfl) (bv 2) (zbo hu (bv 0) (bv 3) (fun _ _=>rfl)) (by rfl)) (zvh (zbk (zks (K:=K) rfl hr.units) (bv 2) (bv 3) (zeo _)))).pt (zaj (zaz zep)) zbh)
 (zaj (zck (zfv (zbs (K:=K) rfl (zbg (zlj (K:=K) rfl rfl) (by rfl) T.all zpl (zab (zda (zco (N':=["_law_one", "_law_under", "_law_kind"]) (own:=["_law_one"]) (fr:=[0, 2]) (by kernel_rfl)) rfl (zbi (K:=K) rfl (zbo hu (bv 0) (bv 3) (fun _ _=>rfl))) ?hb1 (by intro _; rfl)) zai (by rfl)) (by decide) (by decide) (zag (by rfl)) (by rfl)) (fun _=>rfl))) (zaj (zaz zep)) zbh))) (by intro _; rfl)))) (by intro _; rfl))
 (zaj (zaz zep)))
  case hb1=>(intro cl C s H fp; refine' ⟨Bx.out (zax (i:=0) zmy rfl (Or.inl rfl) (by first | exact .inl rfl | exact .inr rfl | assumption)), Bx.out zmk, Bx.out (zhe (zjl (K:=K) rfl) (bv 0) (zbo hu (bv 1) (bv 2) (fun _ _=>rfl)) (by rfl))⟩)
 exact fn_d (f:=zmp) ((zam (zfp (zcp (zac 1)) zbz (zam (zgd (st_t (zba zke (zac 2) (zbt (zac 2)))) (zca (se_c fun _=>zas)) zdp) (zfp (zcp (zbt (zac 2))) zbz (zam (zgd (zadh (st_t (zba zke (zac 2) (zbt (zac 3)))) (st_t (zba zqp (zac 2) (zac 3)))) (zca (se_c fun _=>zas)) zdp) (zgd (zhq (zgj (zgw zuw (zaf (zfq (zcp (zbt (zac 3))) zbz (zgy (by decide)) zqu (zba zke (zac 0) (zbt (zac 2)))) zap)))) (zca (se_c fun _=>zas)) zdp))))) (zca (se_c fun _=>zas)))) h
theorem zuf {f : Addr} {fd : FuncData} (F : Fun K "_law_told" "_law_told" zfl f fd) (T : Txt mg) (D_above : zpo P w K mg base) (D_beneath : zsc P w K mg base) (D_stands : zvr P w K mg base) : FnOk P w K mg base CX0 4 f fd ["_law_web_here", "_law_names_here", "_law_under"] (spD 3 zec):=by
 refine F.ok zua (fun vs H Q E h=>zcn h) (fun cdv A outer s H vs Q E hr h=>?_)
 have hu:=zgt hr
 apply Exists.intro
 apply And.intro
 ·refine' Bx.out (zae (zcy PassesOwn.never rfl (zbi (K:=K) rfl (bv 1)) (zax (i:=3) zhg rfl (Or.inr rfl) (.inl rfl))
  (zae (zck (zbk (zks (K:=K) rfl hr.units) (zbn D_above (hr.mono (by decide)) (by rfl) (zab (bv 0) (zab (bv 3) zai (by rfl)) (by rfl)) (by decide) (zag (by rfl)) (by rfl)) (zbo hu (bv 2) (bv 3) (fun _ _=>rfl)) (zeo _)) (zaj (zaz zep)) zbh)
 (zae (zck (zbk (zks (K:=K) rfl hr.units) (zbn D_beneath (hr.mono (by decide)) (by rfl) (zab (bv 0) (zab (bv 3) zai (by rfl)) (by rfl)) (by decide) (zag (by rfl)) (by rfl)) (zda (zco (N':=["_law_one", "_law_under", "_law_kind"]) (own:=["_law_one"]) (fr:=[2, 3]) (by kernel_rfl)) rfl (zbi (K:=K) rfl (bv 1)) ?hb1 (by intro _; rfl)) (zeo _)) (zaj (zaz zep)) zbh)
 (zaj (zcy PassesOwn.never rfl (zbi (K:=K) rfl (bv 1)) (zax (i:=4) zhg rfl (Or.inl rfl) (.inl rfl))
  (zae (zau (i:=5) zhg rfl (Or.inl rfl) (zbn D_stands (hr.mono (by decide)) (by rfl) (zab (bv 0) (zab (bv 3) (zab (bv 4) zai (by rfl)) (by rfl)) (by rfl)) (by decide) (zag (by rfl)) (by rfl)) (by rfl) (.inl rfl))
 (zaj (zck (zju (zfv (zbs (K:=K) rfl (zbg (zjn (K:=K) rfl) (by rfl) T.isinstance zdu (zab (bv 5) (zab (zld (v:=.ty "bool") (by rfl) T.bool zaaa rfl (by decide) (by decide)) zai (by rfl)) (by rfl)) (by decide) (by decide) (zag (by rfl)) (by rfl)) (fun _=>rfl))) (zmj (zbk (zks (K:=K) rfl hr.units) (bv 5) (zhe (zjl (K:=K) rfl) (bv 4) (zbo hu (bv 2) (bv 3) (fun _ _=>rfl)) (by rfl)) (zeo _)))).pt (zaj (zaz zep)) zbh))) (by intro _; rfl))))) (by intro _; rfl))
 (zaj (zaz zep)))
  case hb1=>(intro cl C s H fp; refine' ⟨Bx.out (zax (i:=0) zno rfl (Or.inl rfl) (by first | exact .inl rfl | exact .inr rfl | assumption)), Bx.out (zkl (zbk (zjl (K:=K) rfl) (bv 2) (zbo hu (bv 1) (bv 0) (fun _ _=>rfl)) (by rfl))), Bx.out (bv 0)⟩)
 exact fn_d (f:=zoh) ((zam (zfp (zcp (zac 1)) zbz (zam (zgd (st_t (zba zqp (zbc (zaf (zac 0) (zaf (zac 3) zap))) (zbt (zac 3)))) (zca (se_c fun _=>zas)) zdp) (zam (zgd (st_t (zba zqp (zbc (zaf (zac 0) (zaf (zac 3) zap))) (zfq (zcp (zac 1)) zbz (zgy (by decide)) (st_t (zba zke (zac 2) (zbt (zac 0)))) (zac 0)))) (zca (se_c fun _=>zas)) zdp) (zfp (zcp (zac 1)) zbz (zam (zbd (zbc (zaf (zac 0) (zaf (zac 3) (zaf (zac 4) zap))))) (zgd (zpc (zhq (zgj (zux (zac 5) zabr))) (st_t (zba zqp (zac 5) (zba zke (zac 4) (zbt (zac 3)))))) (zca (se_c fun _=>zas)) zdp)))))) (zca (se_c fun _=>zas)))) h
end
end Bc
namespace Bc
open PySem L2
end Bc
namespace Bc
open PySem L2
inductive Arm where
 | one (n : Str)
 | many (ns : List Str)
noncomputable def Arm.parts : Arm → List Str
 | .one n=>[n]
 | .many ns=>ns
noncomputable def armD : Arm → PyData
 | .one n=>.str n
 | .many ns=>.tuple (ns.map .str)
theorem zjb (a : Arm) : zdk [armD a] = some (zaa a.parts, true):=by
 cases a with
 | one n=>rfl
 | many ns=>rfl
noncomputable def upA (W : Web) (a : Arm) : List Str:=a.parts.foldl (fun ks n=>(up W n).foldl insS ks) []
theorem zaal {W : Web} {a : Arm} {x : Str} : x ∈ upA W a ↔ ∃ n ∈ a.parts, x ∈ up W n:=by
 unfold upA
 have : ∀ (l ks : List Str), x ∈ l.foldl (fun ks n=>(up W n).foldl insS ks) ks ↔ x ∈ ks ∨ ∃ n ∈ l, x ∈ up W n:=by
  intro l
  induction l with
  | nil=>intro ks; simp
  | cons n l ih=>intro ks; rw [List.foldl_cons, ih, zia]; simp [or_assoc]
 rw [this]; simp
theorem zwp {W : Web} (h : WebOk W) {a : Arm} (hk : ∀ n ∈ a.parts, n ∈ nm W) : zfu [.dict (dS zat (ups W)), armD a] = some (zat (upA W a), true):=by
 have nd : ∀ (l ks : List Str), ks.Nodup → (∀ x ∈ ks, x ∈ nm W) → (l.foldl (fun ks n=>(up W n).foldl insS ks) ks).Nodup ∧ ∀ x ∈ l.foldl (fun ks n=>(up W n).foldl insS ks) ks, x ∈ nm W:=by
  intro l
  induction l with
  | nil=>intro ks h1 h2; exact ⟨h1, h2⟩
  | cons n l ih =>
   intro ks h1 h2
   refine ih _ (zpf h1) fun x hx=>?_
   rcases zia.mp hx with z | z
   ·exact h2 x z
   ·exact zma h z
 obtain ⟨env', lp, s3, rfl⟩:=zcq (enc:=PyData.str) (g:=gN 3) (body:=sUpd 2 (zan 0 (eVar 3))) (l:=a.parts) (env:=[.pl (.dict (dS zat (ups W))), .pl (armD a), .ac (zat []), .no])
  (fun pre env=>∃ s3, env = [.pl (.dict (dS zat (ups W))), .pl (armD a), .ac (zat (pre.foldl (fun ks n=>(up W n).foldl insS ks) [])), s3]) ⟨_, rfl⟩ (by
   rintro pre n post env hp ⟨s3, rfl⟩
   have hn : n ∈ nm W:=hk n (by rw [← hp]; simp)
   refine ⟨[.pl (.dict (dS zat (ups W))), .pl (armD a), .ac (zat (pre.foldl (fun ks n=>(up W n).foldl insS ks) [])), .pl (.str n)], [.pl (.dict (dS zat (ups W))), .pl (armD a), .ac (zat ((pre ++ [n]).foldl (fun ks n=>(up W n).foldl insS ks) [])), .pl (.str n)], rfl, .inl ?_, _, rfl⟩
   ·have l1:=zyu h n
    obtain ⟨n1, n2⟩:=nd pre [] List.nodup_nil (by simp)
    have l2:=zjk _ _ n1 n2
    have l3:=zhh h
    have lz : (zev (pre.foldl (fun ks n=>(up W n).foldl insS ks) [])).length + (zev (up W n)).length ≤ 100000:=by unfold zev; rw [List.length_map, List.length_map]; omega
    simp only [sUpd, zat, zan, eVar, List.getElem?_cons_succ, List.getElem?_cons_zero, Option.bind_some, keyD, zge, zfh hn, Option.map_some]
    rw [if_pos ⟨lz, by simp⟩, zhc, List.foldl_append]
    simp [frzs])
 exact zgz (env:=[.pl (.dict (dS zat (ups W))), .pl (armD a), .no, .no]) rfl (zak rfl (zak (for_list (zay (n:=1) (rs:=[⟨armD a, false, []⟩]) rfl rfl (zjb a)) lp) rfl))
end Bc
namespace Bc
open PySem L2
noncomputable def bnt (W : Web) (n : Str) : List Str:=(nm W).filter fun x=>decide (n ∈ up W x)
theorem zaam {W : Web} (h : WebOk W) {n : Str} (hn : n ∈ nm W) : zgn [webD W, .str n] = some (zaa (bnt W n), true):=by
 have hl:=zhh h
 have hW : W.length ≤ 12:=h.len
 have e1 : zjq (zaw 2 zbb (zad (eVar 0) (zad (eLst (zad (eVar 1) aNil)) aNil))) [.pl (webD W), .pl (.str n), .no] = some (.nx [.pl (webD W), .pl (.str n), .no]) :=
  zlv (zay (n:=2) (rs:=[⟨webD W, false, []⟩, ⟨zaa [n], true, []⟩]) rfl rfl (zds (by omega) (by simpa using hn)))
 have e2 : sSet 2 (zaw 1 zbw (zad (eVar 0) aNil)) [.pl (webD W), .pl (.str n), .no] = some (.nx [.pl (webD W), .pl (.str n), .ac (.dict (dS zat (ups W)))]) :=
  zbq (r:=⟨.dict (dS zat (ups W)), true, []⟩) (zay (n:=1) (rs:=[⟨webD W, false, []⟩]) rfl rfl (zgm h))
 have c : zfd (gN 0) (zar (eDIn false (eVar 1) (zan 2 (eVar 0)))) (eVar 0) [.no, .pl (.str n), .pl (.dict (dS zat (ups W)))] ((nm W).map .str) = some ((bnt W n).map .str) :=
  zbx (enc:=PyData.str) (out:=PyData.str) (fun x=>decide (n ∈ up W x)) fun x hx=>⟨[.pl (.str x), .pl (.str n), .pl (.dict (dS zat (ups W)))], rfl, zcg (zob (neg:=false) (fr:=false) (bs:=[]) rfl (zrg (d:=zat (up W x)) (.inl rfl) rfl (by rw [zge, zfh hx]; rfl))), fun _=>⟨vs x, rfl, rfl⟩⟩
 have e3 : sRet (zcw ["name"] [1, 2] (zaq (zaw 1 zcs (zad (eVar 0) aNil))) (gN 0) (zar (eDIn false (eVar 1) (zan 2 (eVar 0)))) (eVar 0)) [.pl (webD W), .pl (.str n), .ac (.dict (dS zat (ups W)))] = some (.rt (zaa (bnt W n)) true):=by
  refine zlw (zft (ds:=(nm W).map .str) (bs:=[]) ?_ (by rw [List.length_map]; omega) c)
  unfold zaq
  rw [zay (n:=1) (rs:=[⟨webD W, false, []⟩]) rfl rfl (zin (by omega))]
  rfl
 exact zgz (env:=[.pl (webD W), .pl (.str n), .no]) rfl (zak e1 (zak e2 e3))
theorem zacr {W : Web} (h : WebOk W) {k o : Str} (hk : k ∈ nm W) (ho : o ∈ nm W) : zhf [webD W, .str k, .str o] = some (.bool (decide (o ∈ up W k)), false):=by
 have hW : W.length ≤ 12:=h.len
 have e1 : zjq (zaw 2 zbb (zad (eVar 0) (zad (eLst (zad (eVar 1) (zad (eVar 2) aNil))) aNil))) [.pl (webD W), .pl (.str k), .pl (.str o)] = some (.nx [.pl (webD W), .pl (.str k), .pl (.str o)]) :=
  zlv (zay (n:=2) (rs:=[⟨webD W, false, []⟩, ⟨zaa [k, o], true, []⟩]) rfl rfl (zds (by omega) (by
   intro n hn
   rcases List.mem_cons.mp hn with rfl | hn
   ·exact hk
   ·rw [List.mem_singleton.mp hn]; exact ho)))
 have eg : zxz (zaw 1 zbw (zad (eVar 0) aNil)) (eVar 1) [.pl (webD W), .pl (.str k), .pl (.str o)] = some ⟨zat (up W k), false, []⟩:=by
  unfold zxz
  rw [zay (n:=1) (rs:=[⟨webD W, false, []⟩]) rfl rfl (zgm h)]
  show (Option.bind (ziv (dS zat (ups W)) (Sum.inr k)) _) = _
  rw [zge, zfh hk]
  rfl
 exact zgz (env:=[.pl (webD W), .pl (.str k), .pl (.str o)]) rfl (zak e1 (zlw (zob (neg:=false) rfl eg)))
noncomputable def hdgA (W : Web) (a : Arm) : List Str:=(nm W).filter fun x=>decide (x ∈ upA W a)
theorem zug {W : Web} (h : WebOk W) {a : Arm} (hf : a.parts.length < 300) (hk : ∀ n ∈ a.parts, n ∈ nm W) : zew [webD W, armD a] = some (zaa (hdgA W a), true):=by
 have hl:=zhh h
 have hW : W.length ≤ 12:=h.len
 have e1 : zjq (zaw 2 zbb (zad (eVar 0) (zad (zaw 1 zdk (zad (eVar 1) aNil)) aNil))) [.pl (webD W), .pl (armD a), .no] = some (.nx [.pl (webD W), .pl (armD a), .no]) :=
  zlv (zay (n:=2) (rs:=[⟨webD W, false, []⟩, ⟨zaa a.parts, true, []⟩]) (zdt rfl (zhd (zay (n:=1) (rs:=[⟨armD a, false, []⟩]) rfl rfl (zjb a)))) rfl (zds (by omega) hk))
 have e2 : sSet 2 (zaw 2 zfu (zad (zaw 1 zbw (zad (eVar 0) aNil)) (zad (eVar 1) aNil))) [.pl (webD W), .pl (armD a), .no] = some (.nx [.pl (webD W), .pl (armD a), .ac (zat (upA W a))]) :=
  zbq (r:=⟨zat (upA W a), true, []⟩) (zay (n:=2) (rs:=[⟨.dict (dS zat (ups W)), true, []⟩, ⟨armD a, false, []⟩]) (zdt (zay (n:=1) (rs:=[⟨webD W, false, []⟩]) rfl rfl (zgm h)) (zhd rfl)) rfl (zwp h hk))
 have c : zfd (gN 0) (zar (eDIn false (eVar 0) (eVar 1))) (eVar 0) [.no, .pl (zat (upA W a))] ((nm W).map .str) = some ((hdgA W a).map .str) :=
  zbx (enc:=PyData.str) (out:=PyData.str) (fun x=>decide (x ∈ upA W a)) fun x _=>⟨[.pl (.str x), .pl (zat (upA W a))], rfl, zcg (zob (neg:=false) (fr:=false) (bs:=[]) rfl rfl), fun _=>⟨vs x, rfl, rfl⟩⟩
 have e3 : sRet (zcw ["name"] [2] (zaq (zaw 1 zcs (zad (eVar 0) aNil))) (gN 0) (zar (eDIn false (eVar 0) (eVar 1))) (eVar 0)) [.pl (webD W), .pl (armD a), .ac (zat (upA W a))] = some (.rt (zaa (hdgA W a)) true):=by
  refine zlw (zft (ds:=(nm W).map .str) (bs:=[]) ?_ (by rw [List.length_map]; omega) c)
  unfold zaq
  rw [zay (n:=1) (rs:=[⟨webD W, false, []⟩]) rfl rfl (zin (by omega))]
  rfl
 exact zgz (env:=[.pl (webD W), .pl (armD a), .no]) rfl (zak e1 (zak e2 e3))
theorem zne {c : Str} : ∀ {W : Web}, c ∈ nm W → ∃ r, (W.filter fun p=>decide (p.1 = c)) = (c, upL W c) :: r
 | [], h=>by cases h
 | p :: W, h=>by
  by_cases hp : p.1 = c
  ·refine ⟨W.filter fun p=>decide (p.1 = c), ?_⟩
   rw [List.filter_cons, if_pos (decide_eq_true hp)]
   congr 1
   have : upL (p :: W) c = p.2:=by
    unfold upL
    obtain ⟨a, b⟩:=p
    have hp : a = c:=hp
    subst hp
    simp [List.lookup]
   rw [this, ← hp]
  ·have h' : c ∈ nm W:=by
    unfold nm at h ⊢
    rw [List.map_cons, List.mem_cons] at h
    rcases h with h | h
    ·exact absurd h.symm hp
    ·exact h
   obtain ⟨r, e⟩:=zne h'
   refine ⟨r, ?_⟩
   rw [List.filter_cons, if_neg (by simpa using hp), e]
   have : upL (p :: W) c = upL W c:=by
    unfold upL
    obtain ⟨a, b⟩:=p
    have hp : a ≠ c:=hp
    have : (c == a) = false:=by rw [beq_eq_false_iff_ne]; exact fun z=>hp z.symm
    simp [List.lookup, this]
   rw [this]
theorem zacs {a : EF} {env : DEnv} {d : PyData} {ds : List PyData} {f : Bool} (ha : a env = some ⟨.list (d :: ds), f, []⟩) : eOp ixD a (eC (.int 0)) env = some ⟨d, false, bsOf d []⟩:=by
 unfold eOp
 rw [ha]
 show (((atI (d :: ds) ((0 : Nat) : Int)).map fun d=>(d, false)).bind fun z=>some (⟨z.1, z.2, bsOf z.1 ([] ++ [])⟩ : Val)) = _
 rw [zlf (v:=d) rfl]
 rfl
theorem zpp {W : Web} (h : WebOk W) {c o : Str} {q : List Str} (hc : c ∈ nm W) (w : Walk W c q o) (hl : q.length < W.length) : zcd [webD W, .str c, .str o, zaa (c :: q)] = some (.bool true, false):=by
 have hW:=h.len
 have i1 : sIf (tOrF (zcr (tTru (eIsi "list" (eVar 3)))) (tOrF (zar (eOp eqD (eCB lenD (zad (eVar 3) aNil)) (eC (.int 0)))) (zar (eOp neD (eIxV 3 (eC (.int 0))) (eVar 1))))) (sRet (eC (.bool false))) sNil [.pl (webD W), .pl (.str c), .pl (.str o), .pl (zaa (c :: q)), .no, .no, .no] = some (.nx [.pl (webD W), .pl (.str c), .pl (.str o), .pl (zaa (c :: q)), .no, .no, .no]):=by
  refine if_f ?_ rfl
  have f2 : zar (eOp eqD (eCB lenD (zad (eVar 3) aNil)) (eC (.int 0))) [.pl (webD W), .pl (.str c), .pl (.str o), .pl (zaa (c :: q)), .no, .no, .no] = some false:=by
   rw [zcg (zwc (i:=((c :: q).map PyData.str).length) (j:=0) (zmc rfl) rfl)]
   congr 1
  have f3 : zar (eOp neD (eIxV 3 (eC (.int 0))) (eVar 1)) [.pl (webD W), .pl (.str c), .pl (.str o), .pl (zaa (c :: q)), .no, .no, .no] = some false:=by
   refine zcg ?_
   unfold eOp
   rw [zafs (n:=0) (ds:=(c :: q).map .str) (d:=.str c) rfl rfl rfl]
   show some (vb (!(c == c))) = _
   rw [beq_self_eq_true]; rfl
  unfold tOrF
  rw [show zcr (tTru (eIsi "list" (eVar 3))) [.pl (webD W), .pl (.str c), .pl (.str o), .pl (zaa (c :: q)), .no, .no, .no] = some false from rfl, f2, f3]
  rfl
 have it : zaq (eSl (eVar 3) (zet (eC (.int 1))) ziw) [.pl (webD W), .pl (.str c), .pl (.str o), .pl (zaa (c :: q)), .pl (.str c), .no, .no] = some (q.map .str, []):=by
  have : cutD ((c :: q).map PyData.str) (some 1) none = q.map .str:=by
   unfold cutD
   have e1 : HT.sIx ((c :: q).map PyData.str).length 0 (some 1) = 1:=by
    have:=HT.sIx_nat ((c :: q).map PyData.str).length 0 1
    rw [show (some (1 : Int)) = some ((1 : Nat) : Int) from rfl, this, List.length_map, List.length_cons]
    omega
   rw [e1, HT.sIx_none]
   show List.take ((q.map PyData.str).length + 1 - 1) (q.map PyData.str) = _
   rw [Nat.add_sub_cancel, List.take_length]
  show some (cutD ((c :: q).map PyData.str) (some 1) none, ([] : List Nat)) = _
  rw [this]
 have lp : ∀ (r : List Str) (d : Str) (s5 s6 : Sl), d ∈ nm W → Walk W d r o → ∃ s5' s6', forL (gN 5) (sSeq (sSet 6 (eOp ixD (zcw ["_law_one", "_law_row"] [4] (zaq (eVar 0)) (gT 2 (zcf 0 (zcf 1 zjr))) (zar (eOp eqD (eVar 0) (eVar 2))) (eVar 1)) (eC (.int 0))))
   (sSeq (sIf (zar (eOp (inD true) (eVar 5) (eVar 6))) (sRet (eC (.bool false))) sNil) (sSet 4 (eVar 5)))) (r.map .str) [.pl (webD W), .pl (.str c), .pl (.str o), .pl (zaa (c :: q)), .pl (.str d), s5, s6] = some (.nx [.pl (webD W), .pl (.str c), .pl (.str o), .pl (zaa (c :: q)), .pl (.str o), s5', s6']):=by
  intro r
  induction r with
  | nil=>intro d s5 s6 _ hw; exact ⟨s5, s6, by rw [show d = o from hw]; rfl⟩
  | cons e r ih =>
   intro d s5 s6 hd hw
   obtain ⟨fr, hfr⟩:=zne hd
   have cm : zfd (gT 2 (zcf 0 (zcf 1 zjr))) (zar (eOp eqD (eVar 0) (eVar 2))) (eVar 1) [.no, .no, .pl (.str d)] (W.map rowD) = some ((W.filter fun p=>decide (p.1 = d)).map fun p=>zaa p.2) :=
    zbx (enc:=rowD) (out:=fun p : Str × List Str=>zaa p.2) (fun p=>decide (p.1 = d)) fun p _=>⟨[.pl (.str p.1), .pl (zaa p.2), .pl (.str d)], rfl, by
     rw [zcg (zaie (x:=p.1) (y:=d) rfl rfl)]
     rfl, fun _=>⟨⟨zaa p.2, false, []⟩, rfl, rfl⟩⟩
   rw [hfr] at cm
   have ec:=zft (own:=["_law_one", "_law_row"]) (fr:=[4]) (fi:=zaq (eVar 0)) (env:=[.pl (webD W), .pl (.str c), .pl (.str o), .pl (zaa (c :: q)), .pl (.str d), .pl (.str e), s6]) (ds:=W.map rowD) (bs:=[]) rfl (by rw [List.length_map]; omega) cm
   have s6' : sSet 6 (eOp ixD (zcw ["_law_one", "_law_row"] [4] (zaq (eVar 0)) (gT 2 (zcf 0 (zcf 1 zjr))) (zar (eOp eqD (eVar 0) (eVar 2))) (eVar 1)) (eC (.int 0))) [.pl (webD W), .pl (.str c), .pl (.str o), .pl (zaa (c :: q)), .pl (.str d), .pl (.str e), s6] = some (.nx [.pl (webD W), .pl (.str c), .pl (.str o), .pl (zaa (c :: q)), .pl (.str d), .pl (.str e), .pl (zaa (upL W d))]):=by
    refine zbq (r:=⟨zaa (upL W d), false, []⟩) ?_
    have hb : (if zdw (((d, upL W d) :: fr).map fun p=>zaa p.2) = true then ([] : List Nat) else [] ++ capA [4] [.pl (webD W), .pl (.str c), .pl (.str o), .pl (zaa (c :: q)), .pl (.str d), .pl (.str e), s6]) = []:=by split <;> rfl
    rw [hb] at ec
    exact zacs ec
   have ti : zar (eOp (inD true) (eVar 5) (eVar 6)) [.pl (webD W), .pl (.str c), .pl (.str o), .pl (zaa (c :: q)), .pl (.str d), .pl (.str e), .pl (zaa (upL W d))] = some false:=by
    rw [zcg (e_in (neg:=true) (fr:=false) (bs:=[]) rfl rfl)]
    congr 1
    rw [decide_eq_true hw.1]; rfl
   obtain ⟨s5', s6'', ih⟩:=ih e (.pl (.str e)) (.pl (zaa (upL W d))) (zoc h hw.1).1 hw.2
   refine ⟨s5', s6'', ?_⟩
   rw [List.map_cons]
   unfold forL
   show Option.bind (sSeq _ _ [.pl (webD W), .pl (.str c), .pl (.str o), .pl (zaa (c :: q)), .pl (.str d), .pl (.str e), s6]) _ = _
   rw [zak s6' (zak (if_f ti rfl) (o:=some (.nx [.pl (webD W), .pl (.str c), .pl (.str o), .pl (zaa (c :: q)), .pl (.str e), .pl (.str e), .pl (zaa (upL W d))])) rfl), Option.bind_some]
   exact ih
 obtain ⟨s5, s6, lp⟩:=lp q c .no .no hc w
 refine zgz (env:=[.pl (webD W), .pl (.str c), .pl (.str o), .pl (zaa (c :: q)), .no, .no, .no]) rfl (zak i1 (zak rfl (zak (ziz it lp) (zlw (bs:=[]) ?_))))
 rw [zaie (x:=o) (y:=o) rfl rfl, beq_self_eq_true]
end Bc
namespace Bc
open PySem L2
noncomputable def undr (W : Web) (ks : List Str) : List (Str × List Str):=ks.map fun k=>(k, hdg W k)
noncomputable abbrev zsk : BF:=(bSeq (sSet 5 (zaw 3 zku (zad (eVar 0) (zad (eVar 3) (zad (eVar 4) aNil))))) (bSeq (sSet 6 (zaw 3 zic (zad (eVar 0) (zad (eVar 3) (zad (eVar 4) aNil))))) (bSeq (sIf (zar (eOp eqD (eIsN false (eVar 5)) (eIsN false (eVar 6)))) (sRet (eC .none)) sNil) (bSeq (sIf (znj (zar (eIsN false (eVar 5))) (zcr (tTru (zaw 4 zea (zad (eVar 0) (zad (eVar 3) (zad (eVar 4) (zad (eVar 6) aNil)))))))) (sRet (eC .none)) sNil) (bEnd (zar (eIsN false (eVar 6))) (sIf (zcr (tTru (zaw 4 zcd (zad (eVar 0) (zad (eVar 3) (zad (eVar 4) (zad (eVar 5) aNil))))))) (sRet (eC .none)) sNil) 4)))))
theorem zii {f : SF} {g : BF} {env e1 : DEnv} {z : Option (Out × Option PyData)} (h : f env = some (.nx e1)) (k : g e1 = z) : bSeq f g env = z:=by unfold bSeq; rw [h]; exact k
theorem zagk {W : Web} (h : WebOk W) {N : Sl} {k o : Str} (hk : k ∈ nm W) (ho : o ∈ nm W) (s5 s6 : Sl) : ∃ s5' s6', zsk [.pl (webD W), N, .no, .pl (.str k), .pl (.str o), s5, s6] = some (.nx [.pl (webD W), N, .no, .pl (.str k), .pl (.str o), s5', s6'], if o ∈ up W k then some (.str o) else none):=by
 obtain ⟨g1, g2⟩:=zaig h hk ho
 by_cases hu : o ∈ up W k
 ·obtain ⟨q, gr, w, hq⟩:=g2 hu
  rw [if_pos hu]
  have e5 : sSet 5 (zaw 3 zku (zad (eVar 0) (zad (eVar 3) (zad (eVar 4) aNil)))) [.pl (webD W), N, .no, .pl (.str k), .pl (.str o), s5, s6] = some (.nx [.pl (webD W), N, .no, .pl (.str k), .pl (.str o), .ac (zaa (k :: q)), s6]) :=
   zbq (r:=⟨zaa (k :: q), true, []⟩) (zay (n:=3) (rs:=[⟨webD W, false, []⟩, vs k, vs o]) rfl rfl gr)
  have e6 : sSet 6 (zaw 3 zic (zad (eVar 0) (zad (eVar 3) (zad (eVar 4) aNil)))) [.pl (webD W), N, .no, .pl (.str k), .pl (.str o), .ac (zaa (k :: q)), s6] = some (.nx [.pl (webD W), N, .no, .pl (.str k), .pl (.str o), .ac (zaa (k :: q)), .pl .none]) :=
   zbq (r:=⟨.none, false, []⟩) (zay (n:=3) (rs:=[⟨webD W, false, []⟩, vs k, vs o]) rfl rfl (zwd h hk ho hu))
  have tl : zcr (tTru (zaw 4 zcd (zad (eVar 0) (zad (eVar 3) (zad (eVar 4) (zad (eVar 5) aNil)))))) [.pl (webD W), N, .no, .pl (.str k), .pl (.str o), .ac (zaa (k :: q)), .pl .none] = some false:=by
   refine zkv (c:=true) ?_
   rw [zay (n:=4) (rs:=[⟨webD W, false, []⟩, vs k, vs o, ⟨zaa (k :: q), false, [5]⟩]) rfl rfl (zpp h hk w hq)]
   rfl
  refine ⟨.ac (zaa (k :: q)), .pl .none, zii e5 (zii e6 (zii (e1:=[.pl (webD W), N, .no, .pl (.str k), .pl (.str o), .ac (zaa (k :: q)), .pl .none]) (if_f rfl rfl) (zii (e1:=[.pl (webD W), N, .no, .pl (.str k), .pl (.str o), .ac (zaa (k :: q)), .pl .none]) (if_f rfl rfl) ?_)))⟩
  unfold bEnd
  rw [show zar (eIsN false (eVar 6)) [.pl (webD W), N, .no, .pl (.str k), .pl (.str o), .ac (zaa (k :: q)), .pl .none] = some true from rfl, Option.bind_some, if_pos rfl, if_f (f:=sRet (eC .none)) (g:=sNil) tl rfl]
  rfl
 ·rw [if_neg hu]
  have e5 : sSet 5 (zaw 3 zku (zad (eVar 0) (zad (eVar 3) (zad (eVar 4) aNil)))) [.pl (webD W), N, .no, .pl (.str k), .pl (.str o), s5, s6] = some (.nx [.pl (webD W), N, .no, .pl (.str k), .pl (.str o), .pl .none, s6]) :=
   zbq (r:=⟨.none, false, []⟩) (zay (n:=3) (rs:=[⟨webD W, false, []⟩, vs k, vs o]) rfl rfl (g1 hu))
  have e6 : sSet 6 (zaw 3 zic (zad (eVar 0) (zad (eVar 3) (zad (eVar 4) aNil)))) [.pl (webD W), N, .no, .pl (.str k), .pl (.str o), .pl .none, s6] = some (.nx [.pl (webD W), N, .no, .pl (.str k), .pl (.str o), .pl .none, .ac (zaa (hdg W k))]) :=
   zbq (r:=⟨zaa (hdg W k), true, []⟩) (zay (n:=3) (rs:=[⟨webD W, false, []⟩, vs k, vs o]) rfl rfl (zagc h hk ho hu))
  have tl : zcr (tTru (zaw 4 zea (zad (eVar 0) (zad (eVar 3) (zad (eVar 4) (zad (eVar 6) aNil)))))) [.pl (webD W), N, .no, .pl (.str k), .pl (.str o), .pl .none, .ac (zaa (hdg W k))] = some false:=by
   refine zkv (c:=true) ?_
   rw [zay (n:=4) (rs:=[⟨webD W, false, []⟩, vs k, vs o, ⟨zaa (hdg W k), false, [6]⟩]) rfl rfl (ztq h hk hu)]
   rfl
  refine ⟨.pl .none, .ac (zaa (hdg W k)), zii e5 (zii e6 (zii (e1:=[.pl (webD W), N, .no, .pl (.str k), .pl (.str o), .pl .none, .ac (zaa (hdg W k))]) (if_f rfl rfl) (zii (e1:=[.pl (webD W), N, .no, .pl (.str k), .pl (.str o), .pl .none, .ac (zaa (hdg W k))]) (if_f ?_ rfl) ?_)))⟩
  ·unfold znj
   rw [show zar (eIsN false (eVar 5)) [.pl (webD W), N, .no, .pl (.str k), .pl (.str o), .pl .none, .ac (zaa (hdg W k))] = some true from rfl, tl]
   rfl
  ·rfl
theorem zadv {W : Web} (h : WebOk W) {N : Sl} {k : Str} (hk : k ∈ nm W) : ∀ (os : List Str) (acc : List PyData) (s4 s5 s6 : Sl), (∀ o ∈ os, o ∈ nm W) → ∃ s4' s5' s6', rowL 4 zsk (os.map .str) [.pl (webD W), N, .no, .pl (.str k), s4, s5, s6] acc = some (.nx [.pl (webD W), N, .no, .pl (.str k), s4', s5', s6'], acc ++ (os.filter fun o=>decide (o ∈ up W k)).map .str)
 | [], acc, s4, s5, s6, _=>⟨s4, s5, s6, by rw [List.filter_nil, List.map_nil, List.append_nil]; rfl⟩
 | o :: os, acc, s4, s5, s6, ho=>by
  obtain ⟨s5', s6', e⟩:=zagk h (N:=N) hk (ho o List.mem_cons_self) s5 s6
  obtain ⟨t4, t5, t6, ih⟩:=zadv h (N:=N) hk os (acc ++ (if o ∈ up W k then some (PyData.str o) else none).toList) (.pl (.str o)) s5' s6' fun x hx=>ho x (List.mem_cons_of_mem _ hx)
  refine ⟨t4, t5, t6, ?_⟩
  rw [List.map_cons]
  unfold rowL
  show Option.bind (zsk [.pl (webD W), N, .no, .pl (.str k), .pl (.str o), s5, s6]) _ = _
  rw [e, Option.bind_some]
  refine ih.trans ?_
  rw [List.append_assoc, List.filter_cons]
  by_cases hu : o ∈ up W k
  ·rw [if_pos hu, if_pos (decide_eq_true hu)]; rfl
  ·rw [if_neg hu, if_neg (by simpa using hu)]; rfl
theorem znf {W : Web} (h : WebOk W) : zdg [webD W, zaa (nm W)] = some (.dict (dS zaa (undr W (nm W))), true):=by
 have hl:=zhh h
 obtain ⟨env', lp, s3, s4, s5, s6, rfl⟩:=zcq (enc:=PyData.str) (g:=gN 3) (body:=sRow 2 3 4 (zaq (eVar 1)) zsk) (l:=nm W) (env:=[.pl (webD W), .pl (zaa (nm W)), .ac (.dict (dS zaa [])), .no, .no, .no, .no])
  (fun pre env=>∃ s3 s4 s5 s6, env = [.pl (webD W), .pl (zaa (nm W)), .ac (.dict (dS zaa (undr W pre))), s3, s4, s5, s6]) ⟨_, _, _, _, rfl⟩ (by
   rintro pre k post env hp ⟨s3, s4, s5, s6, rfl⟩
   have hk : k ∈ nm W:=by rw [← hp]; simp
   have hnk : k ∉ pre:=fun hm=>by
    have nd:=h.nd
    rw [← hp] at nd
    exact (List.nodup_append.mp nd).2.2 k hm k (by simp) rfl
   have hpl : pre.length ≤ 12:=by
    have:=congrArg List.length hp
    rw [List.length_append] at this
    omega
   obtain ⟨t4, t5, t6, e⟩:=zadv h (N:=.pl (zaa (nm W))) hk (nm W) [] s4 s5 s6 fun o ho=>ho
   refine ⟨[.pl (webD W), .pl (zaa (nm W)), .ac (.dict (dS zaa (undr W pre))), .pl (.str k), s4, s5, s6], [.pl (webD W), .pl (zaa (nm W)), .ac (.dict (dS zaa (undr W (pre ++ [k])))), .pl (.str k), t4, t5, t6], rfl, .inl ?_, _, _, _, _, rfl⟩
   show (if (dS zaa (undr W pre)).length < 100000 ∧ 2 ≠ 3 then (some ((nm W).map PyData.str, ([] : List Nat))).bind fun z=>if z.2 = [] ∧ z.1.length < 100000 then (rowL 4 zsk z.1 [.pl (webD W), .pl (zaa (nm W)), .no, .pl (.str k), s4, s5, s6] []).bind fun w=>(match w.1 with
    | .nx e=>some (Out.nx (e.set 2 (.ac (.dict (zhp (dS zaa (undr W pre)) (.str k) (.list w.2))))))
    | .rt d fr=>some (.rt d fr)
    | _=>none) else none else none) = _
   rw [if_pos ⟨by unfold dS undr; rw [List.length_map, List.length_map]; omega, by decide⟩, Option.bind_some, if_pos ⟨rfl, by rw [List.length_map]; omega⟩, e, Option.bind_some]
   show some (Out.nx [.pl (webD W), .pl (zaa (nm W)), .ac (.dict (zhp (dS zaa (undr W pre)) (.str k) (zaa (hdg W k)))), .pl (.str k), t4, t5, t6]) = _
   rw [ztm zaa (by unfold undr; rw [List.map_map]; show k ∉ pre.map (fun x=>x); rw [List.map_id']; exact hnk)]
   unfold undr
   rw [List.map_append]
   rfl)
 exact zgz (env:=[.pl (webD W), .pl (zaa (nm W)), .no, .no, .no, .no, .no]) rfl (zak rfl (zak (ziz (ds:=(nm W).map .str) (bs:=[]) rfl lp) rfl))
theorem zagl {W : Web} {ks : List Str} {k : Str} (h : k ∈ ks) : ziv (dS zaa (undr W ks)) (Sum.inr k) = some (zaa (hdg W k)):=by
 rw [zge]
 have : (undr W ks).lookup k = some (hdg W k):=by
  unfold undr
  induction ks with
  | nil=>cases h
  | cons x ks ih =>
   rw [List.map_cons]
   by_cases hx : k = x
   ·subst hx; simp [List.lookup]
   ·have : (k == x) = false:=by rw [beq_eq_false_iff_ne]; exact hx
    rw [List.lookup_cons, this]
    rcases List.mem_cons.mp h with h | h
    ·exact absurd h hx
    ·exact ih h
 rw [this]; rfl
end Bc
namespace Bc
open PySem L2
theorem zajk {α : Type} {f : α → Bool} {l : List α} {a : EF} {env : DEnv} {fr : Bool} {bs : List Nat} (ha : a env = some ⟨.list (l.map fun x=>.bool (f x)), fr, bs⟩) : eCB (anyD fun bs=>bs.any id) (zad a aNil) env = some (vb (l.any f)):=by
 unfold eCB
 rw [zhd ha, Option.bind_some]
 show ((zln (l.map fun x=>.bool (f x))).map _).bind _ = _
 rw [zmh]
 simp only [Option.map_some, Option.bind_some, List.any_map]
 rfl
end Bc
namespace Bc
open PySem L2
end Bc
namespace Bc
open PySem L2
end Bc
namespace Bc
open PySem L2
end Bc
namespace Bc
open PySem L2
end Bc
namespace Bc
open PySem L2
section
variable {A0 A2 A6 s8 s9 : Sl} {ds : List PyData} {xs : List Str} {r : Int} {n at_ : Nat}
end
end Bc
namespace Bc
open PySem L2
end Bc
namespace Bc
open PySem L2
section
variable {A0 A2 A6 s8 s9 : Sl} {ds : List PyData} {xs : List Str} {r : Int} {n at_ : Nat}
end
end Bc
namespace Bc
open PySem L2
end Bc
namespace Bc
open PySem L2
end Bc
namespace Bc
open PySem L2
theorem zaan {W : Web} (h : WebOk W) : ∀ (m : Nat) {x y : Str}, (nm W).idxOf y < m → y ∈ nm W → x ∈ up W y → x = y ∨ (nm W).idxOf x < (nm W).idxOf y
 | 0, _, _, hm, _, _=>absurd hm (Nat.not_lt_zero _)
 | m + 1, x, y, hm, hy, hx=>by
  rcases (zrj h hy).mp hx with rfl | ⟨e, he, hxe⟩
  ·exact .inl rfl
  ·obtain ⟨g1, g2⟩:=zoc h he
   rcases zaan h m (by omega) g1 hxe with rfl | hlt
   ·exact .inr g2
   ·exact .inr (by omega)
theorem zagm {W : Web} (h : WebOk W) {x y : Str} (hx : x ∈ nm W) (hy : y ∈ nm W) (h1 : x ∈ up W y) (h2 : y ∈ up W x) : x = y:=by
 rcases zaan h _ (Nat.lt_succ_self _) hy h1 with e | e
 ·exact e
 ·rcases zaan h _ (Nat.lt_succ_self _) hx h2 with e' | e'
  ·exact e'.symm
  ·omega
end Bc
namespace Bc
open PySem L2
theorem zky {W : Web} {ks : List Str} {k : Str} (h : k ∈ ks) {i : Nat} {b : EF} {env : DEnv} (he : env[i]? = some (.pl (.dict (dS zaa (undr W ks)))) ∨ env[i]? = some (.ac (.dict (dS zaa (undr W ks))))) (hb : b env = some (vs k)) : zan i b env = some ⟨zaa (hdg W k), false, []⟩:=zrg he hb (zagl h)
theorem zng {W : Web} (h : WebOk W) : zdh [.dict (dS zaa (undr W (nm W))), zaa (nm W)] = some (.bool true, false):=by
 have hl:=zhh h
 obtain ⟨env', lp, s2, s3, rfl⟩:=zcq (enc:=PyData.str) (g:=gN 2) (l:=nm W) (env:=[.pl (.dict (dS zaa (undr W (nm W)))), .pl (zaa (nm W)), .no, .no])
  (body:=(sSeq (sIf (zar (eOp (inD true) (eVar 2) (zan 0 (eVar 2)))) (sRet (eC (.bool false))) sNil)
  (sFor (zaq (zan 0 (eVar 2))) (gN 3)
  (sSeq (sIf (znj (zar (eOp (inD false) (eVar 2) (zan 0 (eVar 3)))) (zar (eOp neD (eVar 2) (eVar 3)))) (sRet (eC (.bool false))) sNil)
  (sIf (zcr (tTru (eCB (anyD fun bs=>bs.all id) (zad (zcw ["_law_one"] [0, 2] (zaq (zan 0 (eVar 3))) (gN 0) zhk (eOp (inD false) (eVar 0) (zan 1 (eVar 2)))) aNil)))) (sRet (eC (.bool false))) sNil)))))
  (fun _ env=>∃ s2 s3, env = [.pl (.dict (dS zaa (undr W (nm W)))), .pl (zaa (nm W)), s2, s3]) ⟨_, _, rfl⟩ (by
   rintro pre k post env hp ⟨s2, s3, rfl⟩
   have hk : k ∈ nm W:=by rw [← hp]; simp
   have t1 : zar (eOp (inD true) (eVar 2) (zan 0 (eVar 2))) [.pl (.dict (dS zaa (undr W (nm W)))), .pl (zaa (nm W)), .pl (.str k), s3] = some false:=by
    rw [zcg (e_in (neg:=true) rfl (zky hk (.inl rfl) rfl))]
    congr 1
    rw [decide_eq_true ((zcx h).mpr (zlz h hk))]; rfl
   obtain ⟨env2, lp2, t3, rfl⟩:=zcq (enc:=PyData.str) (g:=gN 3) (l:=hdg W k) (env:=[.pl (.dict (dS zaa (undr W (nm W)))), .pl (zaa (nm W)), .pl (.str k), s3])
    (body:=(sSeq (sIf (znj (zar (eOp (inD false) (eVar 2) (zan 0 (eVar 3)))) (zar (eOp neD (eVar 2) (eVar 3)))) (sRet (eC (.bool false))) sNil)
     (sIf (zcr (tTru (eCB (anyD fun bs=>bs.all id) (zad (zcw ["_law_one"] [0, 2] (zaq (zan 0 (eVar 3))) (gN 0) zhk (eOp (inD false) (eVar 0) (zan 1 (eVar 2)))) aNil)))) (sRet (eC (.bool false))) sNil)))
    (fun _ env=>∃ t3, env = [.pl (.dict (dS zaa (undr W (nm W)))), .pl (zaa (nm W)), .pl (.str k), t3]) ⟨_, rfl⟩ (by
     rintro pre2 o post2 env hp2 ⟨t3, rfl⟩
     have hok : o ∈ hdg W k:=by rw [← hp2]; simp
     have huk:=(zcx h).mp hok
     have ho : o ∈ nm W:=zma h huk
     have t2 : znj (zar (eOp (inD false) (eVar 2) (zan 0 (eVar 3)))) (zar (eOp neD (eVar 2) (eVar 3))) [.pl (.dict (dS zaa (undr W (nm W)))), .pl (zaa (nm W)), .pl (.str k), .pl (.str o)] = some false:=by
      unfold znj
      rw [zcg (e_in (neg:=false) rfl (zky ho (.inl rfl) rfl)), show zar (eOp neD (eVar 2) (eVar 3)) [.pl (.dict (dS zaa (undr W (nm W)))), .pl (zaa (nm W)), .pl (.str k), .pl (.str o)] = some (!(k == o)) from rfl]
      by_cases hko : k ∈ hdg W o
      ·have : k = o:=zagm h hk ho ((zcx h).mp hko) huk
       rw [this, beq_self_eq_true]
       cases (if (false : Bool) then !decide (o ∈ hdg W o) else decide (o ∈ hdg W o)) <;> rfl
      ·show (if (decide (k ∈ hdg W o)) = true then _ else _) = _
       rw [decide_eq_false hko]; rfl
     have cm : zfd (gN 0) zhk (eOp (inD false) (eVar 0) (zan 1 (eVar 2))) [.no, .pl (.dict (dS zaa (undr W (nm W)))), .pl (.str k)] ((hdg W o).map .str) = some ((hdg W o).map fun x=>.bool (decide (x ∈ hdg W k))) :=
      zhy fun x _=>⟨[.pl (.str x), .pl (.dict (dS zaa (undr W (nm W)))), .pl (.str k)], rfl, rfl, vb (decide (x ∈ hdg W k)), e_in (neg:=false) rfl (zky hk (.inl rfl) rfl), rfl⟩
     have it : zaq (zan 0 (eVar 3)) [.pl (.dict (dS zaa (undr W (nm W)))), .pl (zaa (nm W)), .pl (.str k), .pl (.str o)] = some ((hdg W o).map .str, []):=by
      unfold zaq
      rw [zky ho (.inl rfl) rfl]; rfl
     have hol:=zzn h (n:=o)
     have ta:=zkv (zagd (f:=fun x : Str=>decide (x ∈ hdg W k)) (zft (own:=["_law_one"]) (fr:=[0, 2]) it (by rw [List.length_map]; omega) cm))
     have al : ((hdg W o).all fun x=>decide (x ∈ hdg W k)) = true:=List.all_eq_true.mpr fun x hx=>decide_eq_true ((zcx h).mpr (zpi h _ (Nat.lt_succ_self _) hk huk ((zcx h).mp hx)))
     rw [al] at ta
     exact ⟨_, _, rfl, .inl (zak (if_f t2 rfl) (if_f ta rfl)), _, rfl⟩)
   have it2 : zaq (zan 0 (eVar 2)) [.pl (.dict (dS zaa (undr W (nm W)))), .pl (zaa (nm W)), .pl (.str k), s3] = some ((hdg W k).map .str, []):=by
    unfold zaq
    rw [zky hk (.inl rfl) rfl]; rfl
   exact ⟨[.pl (.dict (dS zaa (undr W (nm W)))), .pl (zaa (nm W)), .pl (.str k), s3], _, rfl, .inl (zak (if_f t1 rfl) (ziz it2 lp2)), _, _, rfl⟩)
 exact zgz (env:=[.pl (.dict (dS zaa (undr W (nm W)))), .pl (zaa (nm W)), .no, .no]) rfl (zak (ziz (ds:=(nm W).map .str) (bs:=[]) rfl lp) rfl)
theorem zfx {xs : List Str} (h : ∀ x ∈ xs, PyData.strOk x = true) : SeqAt.shaped (zaa xs) = true:=by
 obtain ⟨h1, h2⟩:=zvg xs h
 unfold SeqAt.shaped zaa
 rw [Bool.and_eq_true]
 refine ⟨h1, decide_eq_true ?_⟩
 show PyData.depthAll (xs.map .str) + 1 ≤ 64
 omega
theorem neS {d : PyData} (s : SeqAt.shaped d = true) : neD d d = some (.bool false, false):=by
 unfold neD eqOk
 rw [s, if_pos (by simp), PySem.SeqAt.eqv_refl _ (SeqAt.canLay_of_shaped s)]; rfl
theorem zact {a b : EF} {env : DEnv} {d : PyData} {f1 f2 : Bool} {b1 b2 : List Nat} (ha : a env = some ⟨d, f1, b1⟩) (hb : b env = some ⟨d, f2, b2⟩) (s : SeqAt.shaped d = true) : zar (eOp neD a b) env = some false:=by
 refine zcg ?_
 unfold eOp
 rw [ha, hb]
 show ((neD d d).bind fun z=>some (⟨z.1, z.2, bsOf z.1 (b1 ++ b2)⟩ : Val)) = _
 rw [neS s]; rfl
theorem zoq {W : Web} (h : WebOk W) (lo : ∀ x ∈ nm W, Low x) : zec [webD W, zaa (nm W), .dict (dS zaa (undr W (nm W)))] = some (.bool true, false):=by
 have hl:=zhh h
 have sk : ∀ x ∈ nm W, PyData.strOk x = true:=fun x hx=>zjs (lo x hx)
 obtain ⟨env', lp, s3, s4, s5, rfl⟩:=zcq (enc:=PyData.str) (g:=gN 3) (l:=nm W) (env:=[.pl (webD W), .pl (zaa (nm W)), .pl (.dict (dS zaa (undr W (nm W)))), .no, .no, .no])
  (body:=(sSeq (sIf (zar (eOp neD (zaw 2 zew (zad (eVar 0) (zad (eVar 3) aNil))) (zan 2 (eVar 3)))) (sRet (eC (.bool false))) sNil)
  (sSeq (sIf (zar (eOp neD (zaw 2 zgn (zad (eVar 0) (zad (eVar 3) aNil))) (zcw ["_law_one"] [2, 3] (zaq (eVar 1)) (gN 0) (zar (eOp (inD false) (eVar 2) (zan 1 (eVar 0)))) (eVar 0)))) (sRet (eC (.bool false))) sNil)
  (sFor (zaq (eVar 1)) (gN 4)
  (sSeq (sSet 5 (zaw 3 zhf (zad (eVar 0) (zad (eVar 3) (zad (eVar 4) aNil)))))
  (sIf (tOrF (zcr (tTru (eIsi "bool" (eVar 5)))) (zar (eOp neD (eVar 5) (eOp (inD false) (eVar 4) (zan 2 (eVar 3)))))) (sRet (eC (.bool false))) sNil))))))
  (fun _ env=>∃ s3 s4 s5, env = [.pl (webD W), .pl (zaa (nm W)), .pl (.dict (dS zaa (undr W (nm W)))), s3, s4, s5]) ⟨_, _, _, rfl⟩ (by
   rintro pre k post env hp ⟨s3, s4, s5, rfl⟩
   have hk : k ∈ nm W:=by rw [← hp]; simp
   have t1 : zar (eOp neD (zaw 2 zew (zad (eVar 0) (zad (eVar 3) aNil))) (zan 2 (eVar 3))) [.pl (webD W), .pl (zaa (nm W)), .pl (.dict (dS zaa (undr W (nm W)))), .pl (.str k), s4, s5] = some false :=
    zact (zay (n:=2) (rs:=[⟨webD W, false, []⟩, vs k]) rfl rfl (ztp h hk)) (zky hk (.inl rfl) rfl) (zfx fun x hx=>sk x (List.mem_filter.mp hx).1)
   have cm : zfd (gN 0) (zar (eOp (inD false) (eVar 2) (zan 1 (eVar 0)))) (eVar 0) [.no, .pl (.dict (dS zaa (undr W (nm W)))), .pl (.str k)] ((nm W).map .str) = some ((bnt W k).map .str):=by
    have q:=zbx (enc:=PyData.str) (out:=PyData.str) (g:=gN 0) (t:=zar (eOp (inD false) (eVar 2) (zan 1 (eVar 0)))) (e:=eVar 0) (env:=[.no, .pl (.dict (dS zaa (undr W (nm W)))), .pl (.str k)]) (fun x=>decide (k ∈ hdg W x)) (l:=nm W) fun x hx=>⟨[.pl (.str x), .pl (.dict (dS zaa (undr W (nm W)))), .pl (.str k)], rfl, zcg (e_in (neg:=false) rfl (zky hx (.inl rfl) rfl)), fun _=>⟨vs x, rfl, rfl⟩⟩
    rw [q]
    unfold bnt
    congr 3
    funext x
    exact decide_eq_decide.mpr (zcx h)
   have t2 : zar (eOp neD (zaw 2 zgn (zad (eVar 0) (zad (eVar 3) aNil))) (zcw ["_law_one"] [2, 3] (zaq (eVar 1)) (gN 0) (zar (eOp (inD false) (eVar 2) (zan 1 (eVar 0)))) (eVar 0))) [.pl (webD W), .pl (zaa (nm W)), .pl (.dict (dS zaa (undr W (nm W)))), .pl (.str k), s4, s5] = some false :=
    zact (d:=zaa (bnt W k)) (zay (n:=2) (rs:=[⟨webD W, false, []⟩, vs k]) rfl rfl (zaam h hk)) (zft (own:=["_law_one"]) (fr:=[2, 3]) (fi:=zaq (eVar 1)) (ds:=(nm W).map .str) (bs:=[]) rfl (by rw [List.length_map]; omega) cm) (zfx fun x hx=>sk x (List.mem_filter.mp hx).1)
   obtain ⟨env2, lp2, t4, t5, rfl⟩:=zcq (enc:=PyData.str) (g:=gN 4) (l:=nm W) (env:=[.pl (webD W), .pl (zaa (nm W)), .pl (.dict (dS zaa (undr W (nm W)))), .pl (.str k), s4, s5])
    (body:=(sSeq (sSet 5 (zaw 3 zhf (zad (eVar 0) (zad (eVar 3) (zad (eVar 4) aNil)))))
     (sIf (tOrF (zcr (tTru (eIsi "bool" (eVar 5)))) (zar (eOp neD (eVar 5) (eOp (inD false) (eVar 4) (zan 2 (eVar 3)))))) (sRet (eC (.bool false))) sNil)))
    (fun _ env=>∃ t4 t5, env = [.pl (webD W), .pl (zaa (nm W)), .pl (.dict (dS zaa (undr W (nm W)))), .pl (.str k), t4, t5]) ⟨_, _, rfl⟩ (by
     rintro pre2 o post2 env hp2 ⟨t4, t5, rfl⟩
     have ho : o ∈ nm W:=by rw [← hp2]; simp
     have s5' : sSet 5 (zaw 3 zhf (zad (eVar 0) (zad (eVar 3) (zad (eVar 4) aNil)))) [.pl (webD W), .pl (zaa (nm W)), .pl (.dict (dS zaa (undr W (nm W)))), .pl (.str k), .pl (.str o), t5] = some (.nx [.pl (webD W), .pl (zaa (nm W)), .pl (.dict (dS zaa (undr W (nm W)))), .pl (.str k), .pl (.str o), .pl (.bool (decide (o ∈ up W k)))]) :=
      zbq (r:=vb (decide (o ∈ up W k))) (zay (n:=3) (rs:=[⟨webD W, false, []⟩, vs k, vs o]) rfl rfl (zacr h hk ho))
     have t6 : tOrF (zcr (tTru (eIsi "bool" (eVar 5)))) (zar (eOp neD (eVar 5) (eOp (inD false) (eVar 4) (zan 2 (eVar 3))))) [.pl (webD W), .pl (zaa (nm W)), .pl (.dict (dS zaa (undr W (nm W)))), .pl (.str k), .pl (.str o), .pl (.bool (decide (o ∈ up W k)))] = some false:=by
      unfold tOrF
      have : zar (eOp neD (eVar 5) (eOp (inD false) (eVar 4) (zan 2 (eVar 3)))) [.pl (webD W), .pl (zaa (nm W)), .pl (.dict (dS zaa (undr W (nm W)))), .pl (.str k), .pl (.str o), .pl (.bool (decide (o ∈ up W k)))] = some false:=by
       refine zcg ?_
       show (Option.bind (eVar 5 [.pl (webD W), .pl (zaa (nm W)), .pl (.dict (dS zaa (undr W (nm W)))), .pl (.str k), .pl (.str o), .pl (.bool (decide (o ∈ up W k)))]) fun x=>Option.bind (eOp (inD false) (eVar 4) (zan 2 (eVar 3)) [.pl (webD W), .pl (zaa (nm W)), .pl (.dict (dS zaa (undr W (nm W)))), .pl (.str k), .pl (.str o), .pl (.bool (decide (o ∈ up W k)))]) fun y=>(neD x.d y.d).bind fun z=>some (⟨z.1, z.2, bsOf z.1 (x.bs ++ y.bs)⟩ : Val)) = _
       rw [e_in (neg:=false) rfl (zky hk (.inl rfl) rfl), show decide (o ∈ hdg W k) = decide (o ∈ up W k) from decide_eq_decide.mpr (zcx h)]
       show ((neD (.bool (decide (o ∈ up W k))) (.bool (decide (o ∈ up W k)))).bind fun z=>some (⟨z.1, z.2, bsOf z.1 ([] ++ [])⟩ : Val)) = _
       rw [zyq]; rfl
      rw [show zcr (tTru (eIsi "bool" (eVar 5))) [.pl (webD W), .pl (zaa (nm W)), .pl (.dict (dS zaa (undr W (nm W)))), .pl (.str k), .pl (.str o), .pl (.bool (decide (o ∈ up W k)))] = some false from rfl, this]
      rfl
     exact ⟨_, _, rfl, .inl (zak s5' (if_f t6 rfl)), _, _, rfl⟩)
   exact ⟨[.pl (webD W), .pl (zaa (nm W)), .pl (.dict (dS zaa (undr W (nm W)))), .pl (.str k), s4, s5], _, rfl, .inl (zak (if_f t1 rfl) (zak (if_f t2 rfl) (ziz (ds:=(nm W).map .str) (bs:=[]) rfl lp2))), _, _, _, rfl⟩)
 exact zgz (env:=[.pl (webD W), .pl (zaa (nm W)), .pl (.dict (dS zaa (undr W (nm W)))), .no, .no, .no]) rfl (zak (ziz (ds:=(nm W).map .str) (bs:=[]) rfl lp) rfl)
end Bc
namespace Bc
open PySem L2
theorem zajl {g : GF} {f : AF} {env : DEnv} {rs : List Val} {d : PyData} {fr : Bool} (h : f env = some rs) (k : g (zje rs) = some (d, fr)) : eCB g f env = some ⟨d, fr, bsOf d (bss rs)⟩:=by
 unfold eCB; rw [h, Option.bind_some, k]; rfl
theorem zsl {A B : Sl} {xs : List Str} (hx : xs.length ≤ 12) : ∀ (t : Nat) (ls es : List Str) (rs : Int) (s5 s6 : Sl), (es ++ ls).Perm xs → t + es.length ≤ 4 → t ≤ ls.length →
  ∃ es' s2 s3 s5' s6', forL (gN 5) (sSeq (sSet 6 (eOp modD (eVar 3) (eCB lenD (zad (eVar 2) aNil)))) (sSeq (sSet 3 (eOp zfc (eVar 3) (eCB lenD (zad (eVar 2) aNil)))) (zfr 4 2 (eVar 6)))) ((List.range' es.length t).map fun (k : Nat)=>PyData.int (k : Int)) [A, B, .ac (zaa ls), .pl (.int rs), .ac (zaa es), s5, s6] =
   some (.nx [A, B, s2, s3, .ac (zaa es'), s5', s6']) ∧ (∃ ls', (es' ++ ls').Perm xs) ∧ es'.length = t + es.length
 | 0, ls, es, rs, s5, s6, pm, _, _=>⟨es, _, _, s5, s6, rfl, ⟨ls, pm⟩, by simp⟩
 | t + 1, ls, es, rs, s5, s6, pm, h4, hl=>by
  have hls : 0 < ls.length:=by omega
  have pl:=pm.length_eq
  rw [List.length_append] at pl
  have a0:=Int.emod_nonneg rs (show ((ls.length : Nat) : Int) ≠ 0 by omega)
  have a1:=Int.emod_lt_of_pos rs (show (0 : Int) < ((ls.length : Nat) : Int) by omega)
  have hk : (rs % ((ls.length : Nat) : Int)).toNat < ls.length:=by omega
  have e9 : ((rs % ((ls.length : Nat) : Int)).toNat : Int) = rs % ((ls.length : Nat) : Int):=by omega
  generalize eA : (rs % ((ls.length : Nat) : Int)).toNat = at_ at hk e9
  have pm2 : ((es ++ [ls[at_]]) ++ ls.eraseIdx at_).Perm xs:=by
   refine List.Perm.trans ?_ pm
   rw [List.append_assoc]
   exact List.Perm.append_left es (zkj ls at_ hk)
  obtain ⟨es', s2, s3, s5', s6', q, hp, hlen⟩:=zsl (A:=A) (B:=B) hx t (ls.eraseIdx at_) (es ++ [ls[at_]]) (rs / ((ls.length : Nat) : Int)) (.pl (.int (es.length : Int))) (.pl (.int (at_ : Int))) pm2 (by simp; omega) (by rw [List.length_eraseIdx_of_lt hk]; omega)
  refine ⟨es', s2, s3, s5', s6', ?_, hp, by rw [hlen]; simp; omega⟩
  rw [List.range'_succ, List.map_cons]
  unfold forL
  simp only [gN, Option.bind_some, List.set_cons_succ, List.set_cons_zero]
  have st1 : sSet 6 (eOp modD (eVar 3) (eCB lenD (zad (eVar 2) aNil))) [A, B, .ac (zaa ls), .pl (.int rs), .ac (zaa es), .pl (.int (es.length : Int)), s6] = some (.nx [A, B, .ac (zaa ls), .pl (.int rs), .ac (zaa es), .pl (.int (es.length : Int)), .pl (.int (at_ : Int))]):=by
   have:=zbq (i:=6) (zjt (a:=eVar 3) (env:=[A, B, .ac (zaa ls), .pl (.int rs), .ac (zaa es), .pl (.int (es.length : Int)), s6]) rfl (zmc (a:=eVar 2) rfl) (by rw [List.length_map]; omega))
   rw [this, List.length_map, ← e9]; rfl
  have st2 : sSet 3 (eOp zfc (eVar 3) (eCB lenD (zad (eVar 2) aNil))) [A, B, .ac (zaa ls), .pl (.int rs), .ac (zaa es), .pl (.int (es.length : Int)), .pl (.int (at_ : Int))] = some (.nx [A, B, .ac (zaa ls), .pl (.int (rs / ((ls.length : Nat) : Int))), .ac (zaa es), .pl (.int (es.length : Int)), .pl (.int (at_ : Int))]):=by
   have:=zbq (i:=3) (zrb (a:=eVar 3) (env:=[A, B, .ac (zaa ls), .pl (.int rs), .ac (zaa es), .pl (.int (es.length : Int)), .pl (.int (at_ : Int))]) rfl (zmc (a:=eVar 2) rfl) (by rw [List.length_map]; omega) (by rw [List.length_map]; omega))
   rw [this, List.length_map]; rfl
  have st3 : zfr 4 2 (eVar 6) [A, B, .ac (zaa ls), .pl (.int (rs / ((ls.length : Nat) : Int))), .ac (zaa es), .pl (.int (es.length : Int)), .pl (.int (at_ : Int))] = some (.nx [A, B, .ac (zaa (ls.eraseIdx at_)), .pl (.int (rs / ((ls.length : Nat) : Int))), .ac (zaa (es ++ [ls[at_]])), .pl (.int (es.length : Int)), .pl (.int (at_ : Int))]):=by
   simp only [zfr, zaa, eVar, List.getElem?_cons_succ, List.getElem?_cons_zero, Option.bind_some]
   rw [if_pos ⟨by omega, by omega, by rw [List.length_map]; omega, by decide⟩, Int.toNat_natCast, List.getElem?_map, List.getElem?_eq_getElem hk]
   simp [zme]
  rw [zak st1 (zak st2 st3), Option.bind_some]
  rw [show (es ++ [ls[at_]]).length = es.length + 1 by simp] at q
  exact q
theorem zaao {c : Int} {xs : List Str} (h12 : xs.length ≤ 12) : ∃ ar, zie [.int c, zaa xs] = some (zaa ar, true) ∧ (∀ x ∈ ar, x ∈ xs) ∧ ar.length ≤ 4:=by
 have m4:=Int.emod_nonneg c (show (4 : Int) ≠ 0 by decide)
 have m4':=Int.emod_lt_of_pos c (show (0 : Int) < 4 by decide)
 generalize eN : (if ((xs.length : Nat) : Int) < 1 + c % 4 then ((xs.length : Nat) : Int) else 1 + c % 4) = N
 have hN : 0 ≤ N ∧ N ≤ xs.length ∧ N ≤ 4:=by rw [← eN]; split <;> omega
 obtain ⟨es, s2, s3, s5, s6, q, ⟨ls, pm⟩, hes⟩:=zsl (A:=.pl (.int c)) (B:=.pl (zaa xs)) h12 N.toNat xs [] (c / 4) .no .no (List.Perm.refl _) (by simp; omega) (by omega)
 refine ⟨es, zgz (env:=[.pl (.int c), .pl (zaa xs), .no, .no, .no, .no, .no]) rfl (zak (e1:=[.pl (.int c), .pl (zaa xs), .ac (zaa xs), .no, .no, .no, .no]) rfl (zak (zbq (r:=vi _) (zrb rfl rfl (by decide) (by decide))) (zak rfl (zak (ziz (ds:=(List.range' ([] : List Str).length N.toNat).map fun (k : Nat)=>PyData.int (k : Int)) (bs:=[]) ?_ q) rfl)))), fun x hx=>pm.mem_iff.mp (List.mem_append_left _ hx), by rw [hes]; simp; omega⟩
 have : eCB minD (zad (eOp addD (eC (.int 1)) (eOp modD (eVar 0) (eC (.int 4)))) (zad (eCB lenD (zad (eVar 1) aNil)) aNil)) [.pl (.int c), .pl (zaa xs), .ac (zaa xs), .pl (.int (c / 4)), .ac (.list []), .no, .no] = some (vi N):=by
  have k : minD [.int (1 + c % 4), .int (((xs.map PyData.str).length : Nat) : Int)] = some (.int N, false):=by
   rw [List.length_map]
   show some (PyData.int (if ((xs.length : Nat) : Int) < 1 + c % 4 then ((xs.length : Nat) : Int) else 1 + c % 4), false) = _
   rw [eN]
  exact zajl (zdt (zrc (i:=1) (j:=c % 4) (a:=eC (.int 1)) rfl (zjt (a:=eVar 0) (b:=eC (.int 4)) rfl rfl (by decide))) (zhd (zmc (a:=eVar 1) (ds:=xs.map .str) rfl))) k
 show zfo _ [.pl (.int c), .pl (zaa xs), .ac (zaa xs), .pl (.int (c / 4)), .ac (.list []), .no, .no] = _
 unfold zfo
 rw [zhd this]
 simp only [Option.bind_some]
 rw [if_pos ⟨by omega, by omega⟩, zmd, List.range_eq_range']
 rfl
theorem eqS {d : PyData} (s : SeqAt.shaped d = true) : eqD d d = some (.bool true, false):=by
 unfold eqD eqOk
 rw [s, if_pos (by simp), PySem.SeqAt.eqv_refl _ (SeqAt.canLay_of_shaped s)]
theorem zpq {W : Web} (h : WebOk W) : ∀ (ks : List Str), (∀ k ∈ ks, k ∈ nm W) → zrn (dS zaa (undr W ks)) = true
 | [], _=>rfl
 | k :: ks, hk=>by
  have ih:=zpq h ks fun x hx=>hk x (List.mem_cons_of_mem _ hx)
  have hm:=(zcx h).mpr (zlz h (hk k List.mem_cons_self))
  show (txtL (zaa (hdg W k)) && zrn (dS zaa (undr W ks))) = true
  rw [ih, Bool.and_true]
  cases e : hdg W k with
  | nil=>rw [e] at hm; cases hm
  | cons a r =>
   show zdw (r.map .str) = true
   exact zim r
theorem zacu (ys : List Str) (x : Str) : cutD ((ys ++ [x]).map PyData.str) none (some (-1)) = ys.map .str:=by
 unfold cutD
 have e1 : HT.sIx ((ys ++ [x]).map PyData.str).length 0 none = 0:=rfl
 have e2 : HT.sIx ((ys ++ [x]).map PyData.str).length ((ys ++ [x]).map PyData.str).length (some (-1)) = ys.length:=by
  unfold HT.sIx
  simp
  omega
 rw [e1, e2]
 simp
theorem zuh {k : Nat} {env : DEnv} {ys : List Str} {x : Str} (he : env[k]? = some (.pl (zaa (ys ++ [x])))) : eIxV k (eNeg (eC (.int 1))) env = some (vs x):=by
 rw [zafy (ds:=(ys ++ [x]).map .str) he (by simp), List.getLast_map]
 simp
theorem zvs {i : Nat} {f : EF} {env : DEnv} {kvs : List (PyData × PyData)} (h : f env = some ⟨.dict kvs, true, [i]⟩) (h1 : zrn kvs = true) (h2 : zro env[i]? = true) : zmn i f env = some ⟨.dict kvs, true, []⟩:=by
 unfold zmn
 rw [h]
 show some (if zrn kvs = true ∧ zro env[i]? = true then (⟨.dict kvs, true, [i].filter fun j=>decide (j ≠ i)⟩ : Val) else _) = _
 rw [if_pos ⟨h1, h2⟩]
 simp
theorem zaap {f : EF} {env : DEnv} {xs : List Str} {bs : List Nat} (h : f env = some ⟨zaa xs, true, bs⟩) : zto f env = some ⟨zaa xs, true, []⟩:=by
 unfold zto
 rw [h]
 show some (if zdw (xs.map .str) = true then (⟨.list (xs.map .str), true, []⟩ : Val) else _) = _
 rw [if_pos (zim xs)]
 rfl
theorem zvt {W : Web} (h : nm W ≠ []) : zro (some (.ac (webD W))) = true:=by
 cases W with
 | nil=>exact absurd rfl h
 | cons p W=>rfl
theorem zacv {W : Web} {x : Str} {ar : List Str} (h : WebOk (W ++ [(x, ar)])) (hx : x ∉ nm W) (hs : ∀ n ∈ ar, n ∈ nm W) : hdg (W ++ [(x, ar)]) x = hdgA W (.many ar) ++ [x]:=by
 unfold hdg hdgA
 rw [zeu, List.filter_append]
 congr 1
 ·refine List.filter_congr fun y hy=>decide_eq_decide.mpr ?_
  rw [zyt hx, zlx, zaal]
  constructor
  ·rintro (z | z)
   ·rw [List.mem_singleton] at z
    rw [z] at hy
    exact absurd hy hx
   ·exact z
  ·exact .inr
 ·have : x ∈ up (W ++ [(x, ar)]) x:=zlz h (by rw [zeu]; simp)
  simp [this]
theorem zacw {W : Web} {x : Str} {ar : List Str} (hW : WebOk W) (hx : x ∉ nm W) {n : Str} (hn : n ∈ nm W) : hdg (W ++ [(x, ar)]) n = hdg W n:=by
 unfold hdg
 rw [zeu, List.filter_append, zjf hn]
 have : x ∉ up W n:=fun z=>hx (zma hW z)
 simp [this]
noncomputable def zsm : SF:=(sSeq (sSet 2 (zaw 2 zdz (zad (eOp addD (eC (.int 2)) (eOp modD (eIxV 1 (eC (.int 0))) (eC (.int 7)))) (zad (eIxV 1 (eC (.int 1))) aNil))))
  (sSeq (sSet 3 (eSl (eVar 2) ziw (zet (eNeg (eC (.int 1))))))
  (sSeq (sSet 4 (zaw 2 zhx (zad (eSl (eVar 1) (zet (eC (.int 3))) (zet (eC (.int 11)))) (zad (eVar 3) aNil))))
  (sSeq (sSet 5 (zmn 4 (zaw 2 zdg (zad (eVar 4) (zad (eVar 3) aNil)))))
  (sSeq (sIf (tOrF (zar (eIsN false (eVar 5))) (tOrF (zcr (tTru (zaw 2 zdh (zad (eVar 5) (zad (eVar 3) aNil))))) (zcr (tTru (zaw 3 zec (zad (eVar 4) (zad (eVar 3) (zad (eVar 5) aNil)))))))) (sRet (eC (.bool false))) sNil)
  (sSeq (sSet 6 (zto (zaw 2 zie (zad (eIxV 1 (eC (.int 2))) (zad (eVar 3) aNil)))))
  (sSeq (sSet 7 (zto (zaw 2 zew (zad (eVar 4) (zad (eCB zuv (zad (eVar 6) aNil)) aNil)))))
  (sSeq (sIf (zar (eOp neD (eVar 7) (zcw ["_law_name"] [5, 6] (zaq (eVar 3)) (gN 0) (tTru (eCB (anyD fun bs=>bs.any id) (zad (zcw ["_law_one"] [0, 1] (zaq (eVar 2)) (gN 0) zhk (eOp (inD false) (eVar 1) (zan 2 (eVar 0)))) aNil))) (eVar 0)))) (sRet (eC (.bool false))) sNil)
  (sSeq (sApp 4 (eTup (zad (eIxV 2 (eNeg (eC (.int 1)))) (zad (eVar 6) aNil))))
  (sSeq (sSet 8 (zmn 4 (zaw 2 zdg (zad (eVar 4) (zad (eVar 2) aNil)))))
  (sSeq (sIf (tOrF (zar (eIsN false (eVar 8))) (tOrF (zcr (tTru (zaw 2 zdh (zad (eVar 8) (zad (eVar 2) aNil))))) (zcr (tTru (zaw 3 zec (zad (eVar 4) (zad (eVar 2) (zad (eVar 8) aNil)))))))) (sRet (eC (.bool false))) sNil)
  (sSeq (sIf (zar (eOp neD (zan 8 (eIxV 2 (eNeg (eC (.int 1))))) (eOp addD (eVar 7) (eLst (zad (eIxV 2 (eNeg (eC (.int 1)))) aNil))))) (sRet (eC (.bool false))) sNil)
  (sRet (eCB (anyD fun bs=>bs.all id) (zad (zcw ["_law_name"] [5, 8] (zaq (eVar 3)) (gN 0) zhk (eOp eqD (zan 2 (eVar 0)) (zan 1 (eVar 0)))) aNil)))))))))))))))
theorem zacx {cs : List Int} (hl : cs.length = 12) (h0 : ∀ c ∈ cs, 0 ≤ c) : zsm (envL 7 cs) = some (.rt (.bool true) false):=by
 have g1 : 0 ≤ cs[1]'(by omega):=h0 _ (List.getElem_mem _)
 have m7:=Int.emod_nonneg (cs[0]'(by omega)) (show (7 : Int) ≠ 0 by decide)
 have m7':=Int.emod_lt_of_pos (cs[0]'(by omega)) (show (0 : Int) < 7 by decide)
 obtain ⟨xs, gx, lx, nx, lo⟩:=ztn (m:=2 + cs[0]'(by omega) % 7) (c:=cs[1]'(by omega)) (by omega) (by omega) g1
 have hx : 2 ≤ xs.length ∧ xs.length ≤ 8:=by omega
 have hne : xs ≠ []:=fun z=>by rw [z] at hx; simp at hx
 obtain ⟨ys, x, rfl⟩ : ∃ ys x, xs = ys ++ [x]:=⟨xs.dropLast, xs.getLast hne, (List.dropLast_concat_getLast hne).symm⟩
 have hy : 1 ≤ ys.length ∧ ys.length ≤ 7:=by simp at hx; omega
 have ndy : ys.Nodup:=(List.nodup_append.mp nx).1
 have nxy : x ∉ ys:=fun z=>(List.nodup_append.mp nx).2.2 x z x (by simp) rfl
 obtain ⟨W, gw, hnm, ok⟩:=zzg (cs:=(cs.drop 3).take 8) (xs:=ys) (by rw [List.length_take, List.length_drop]; omega) (by omega) ndy
 subst hnm
 obtain ⟨ar, ga, ha, h4⟩:=zaao (c:=cs[2]'(by omega)) (xs:=nm W) (by omega)
 have hW:=ok.len
 have hWl : W.length = (nm W).length:=by unfold nm; rw [List.length_map]
 have ok' : WebOk (W ++ [(x, ar)]):=zre ok nxy ha h4 (by omega)
 have hnm' : nm (W ++ [(x, ar)]) = nm W ++ [x]:=zeu W (x, ar)
 have lo1 : ∀ y ∈ nm W, Low y:=fun y hy=>lo y (List.mem_append_left _ hy)
 have lo2 : ∀ y ∈ nm (W ++ [(x, ar)]), Low y:=by rw [hnm']; exact lo
 have nne : nm W ≠ []:=fun z=>by rw [z] at hy; simp at hy
 have r1:=znf ok
 have r2:=znf ok'
 have o1:=zng ok
 have o2:=zng ok'
 have t1:=zoq ok lo1
 have t2:=zoq ok' lo2
 have x1:=zpq ok (nm W) fun _ h=>h
 have x2:=zpq ok' (nm (W ++ [(x, ar)])) fun _ h=>h
 have hk:=zacv ok' nxy ha
 have hA:=zug (a:=.many ar) ok (by show ar.length < 300; omega) ha
 have e2 : sSet 2 (zaw 2 zdz (zad (eOp addD (eC (.int 2)) (eOp modD (eIxV 1 (eC (.int 0))) (eC (.int 7)))) (zad (eIxV 1 (eC (.int 1))) aNil))) (envL 7 cs) = some (.nx [.no, .pl (zbv cs), .ac (zaa (nm W ++ [x])), .no, .no, .no, .no, .no, .no]) :=
  zbq (r:=⟨zaa (nm W ++ [x]), true, []⟩) (zay (n:=2) (rs:=[vi (2 + cs[0]'(by omega) % 7), vi (cs[1]'(by omega))]) (zdt (zrc rfl (zjt (zzj (n:=0) rfl rfl (by omega)) rfl (by decide))) (zhd (zzj (n:=1) rfl rfl (by omega)))) rfl gx)
 have e3 : sSet 3 (eSl (eVar 2) ziw (zet (eNeg (eC (.int 1))))) [.no, .pl (zbv cs), .ac (zaa (nm W ++ [x])), .no, .no, .no, .no, .no, .no] = some (.nx [.no, .pl (zbv cs), .pl (zaa (nm W ++ [x])), .ac (zaa (nm W)), .no, .no, .no, .no, .no]):=by
  refine zbq (r:=⟨zaa (nm W), true, [2]⟩) ?_
  show some (⟨.list (cutD ((nm W ++ [x]).map PyData.str) none (some (-1))), true, [2]⟩ : Val) = _
  rw [zacu]; rfl
 have e4 : sSet 4 (zaw 2 zhx (zad (eSl (eVar 1) (zet (eC (.int 3))) (zet (eC (.int 11)))) (zad (eVar 3) aNil))) [.no, .pl (zbv cs), .pl (zaa (nm W ++ [x])), .ac (zaa (nm W)), .no, .no, .no, .no, .no] = some (.nx [.no, .pl (zbv cs), .pl (zaa (nm W ++ [x])), .pl (zaa (nm W)), .ac (webD W), .no, .no, .no, .no]):=by
  have es : eSl (eVar 1) (zet (eC (.int 3))) (zet (eC (.int 11))) [.no, .pl (zbv cs), .pl (zaa (nm W ++ [x])), .ac (zaa (nm W)), .no, .no, .no, .no, .no] = some ⟨zbv ((cs.drop 3).take 8), true, []⟩:=by
   show ((slD (.list (cs.map .int)) (some ((3 : Nat) : Int)) (some ((11 : Nat) : Int))).bind fun z=>some (⟨z.1, z.2, bsOf z.1 []⟩ : Val)) = _
   simp only [slD, Option.bind_some]
   rw [zace cs 3 11 (by omega) (by omega)]
   rfl
  exact zbq (r:=⟨webD W, true, [3]⟩) (zay (n:=2) (rs:=[⟨zbv ((cs.drop 3).take 8), true, []⟩, ⟨zaa (nm W), false, [3]⟩]) (zdt es (zhd rfl)) rfl gw)
 generalize eD : (PyData.dict (dS zaa (undr W (nm W)))) = D at r1 o1 t1
 have e5 : sSet 5 (zmn 4 (zaw 2 zdg (zad (eVar 4) (zad (eVar 3) aNil)))) [.no, .pl (zbv cs), .pl (zaa (nm W ++ [x])), .pl (zaa (nm W)), .ac (webD W), .no, .no, .no, .no] = some (.nx [.no, .pl (zbv cs), .pl (zaa (nm W ++ [x])), .pl (zaa (nm W)), .ac (webD W), .ac D, .no, .no, .no]):=by
  refine zbq (r:=⟨D, true, []⟩) ?_
  subst eD
  exact zvs (zay (n:=2) (rs:=[⟨webD W, false, [4]⟩, ⟨zaa (nm W), false, []⟩]) rfl rfl r1) x1 (zvt nne)
 have nD : eIsN false (eVar 5) [.no, .pl (zbv cs), .pl (zaa (nm W ++ [x])), .pl (zaa (nm W)), .ac (webD W), .ac D, .no, .no, .no] = some (vb false):=by subst eD; rfl
 have i5 : sIf (tOrF (zar (eIsN false (eVar 5))) (tOrF (zcr (tTru (zaw 2 zdh (zad (eVar 5) (zad (eVar 3) aNil))))) (zcr (tTru (zaw 3 zec (zad (eVar 4) (zad (eVar 3) (zad (eVar 5) aNil)))))))) (sRet (eC (.bool false))) sNil [.no, .pl (zbv cs), .pl (zaa (nm W ++ [x])), .pl (zaa (nm W)), .ac (webD W), .ac D, .no, .no, .no] = some (.nx [.no, .pl (zbv cs), .pl (zaa (nm W ++ [x])), .pl (zaa (nm W)), .ac (webD W), .ac D, .no, .no, .no]):=by
  refine if_f ?_ rfl
  unfold tOrF
  rw [zcg nD, zkv (c:=true) (zay (n:=2) (rs:=[⟨D, false, [5]⟩, ⟨zaa (nm W), false, []⟩]) rfl rfl o1), zkv (c:=true) (zay (n:=3) (rs:=[⟨webD W, false, [4]⟩, ⟨zaa (nm W), false, []⟩, ⟨D, false, [5]⟩]) rfl rfl t1)]
  rfl
 have e6 : sSet 6 (zto (zaw 2 zie (zad (eIxV 1 (eC (.int 2))) (zad (eVar 3) aNil)))) [.no, .pl (zbv cs), .pl (zaa (nm W ++ [x])), .pl (zaa (nm W)), .ac (webD W), .ac D, .no, .no, .no] = some (.nx [.no, .pl (zbv cs), .pl (zaa (nm W ++ [x])), .pl (zaa (nm W)), .ac (webD W), .ac D, .ac (zaa ar), .no, .no]) :=
  zbq (r:=⟨zaa ar, true, []⟩) (zaap (zay (n:=2) (rs:=[vi (cs[2]'(by omega)), ⟨zaa (nm W), false, []⟩]) (zdt (zzj (n:=2) rfl rfl (by omega)) (zhd rfl)) rfl ga))
 have e7 : sSet 7 (zto (zaw 2 zew (zad (eVar 4) (zad (eCB zuv (zad (eVar 6) aNil)) aNil)))) [.no, .pl (zbv cs), .pl (zaa (nm W ++ [x])), .pl (zaa (nm W)), .ac (webD W), .ac D, .ac (zaa ar), .no, .no] = some (.nx [.no, .pl (zbv cs), .pl (zaa (nm W ++ [x])), .pl (zaa (nm W)), .ac (webD W), .ac D, .ac (zaa ar), .ac (zaa (hdgA W (.many ar))), .no]) :=
  zbq (r:=⟨zaa (hdgA W (.many ar)), true, []⟩) (zaap (zay (n:=2) (rs:=[⟨webD W, false, [4]⟩, ⟨armD (.many ar), false, bsOf (.tuple (ar.map .str)) [6]⟩]) rfl rfl hA))
 have i8 : zar (eOp neD (eVar 7) (zcw ["_law_name"] [5, 6] (zaq (eVar 3)) (gN 0) (tTru (eCB (anyD fun bs=>bs.any id) (zad (zcw ["_law_one"] [0, 1] (zaq (eVar 2)) (gN 0) zhk (eOp (inD false) (eVar 1) (zan 2 (eVar 0)))) aNil))) (eVar 0))) [.no, .pl (zbv cs), .pl (zaa (nm W ++ [x])), .pl (zaa (nm W)), .ac (webD W), .ac D, .ac (zaa ar), .ac (zaa (hdgA W (.many ar))), .no] = some false:=by
  subst eD
  have cm : zfd (gN 0) (tTru (eCB (anyD fun bs=>bs.any id) (zad (zcw ["_law_one"] [0, 1] (zaq (eVar 2)) (gN 0) zhk (eOp (inD false) (eVar 1) (zan 2 (eVar 0)))) aNil))) (eVar 0) [.no, .pl (.dict (dS zaa (undr W (nm W)))), .pl (zaa ar)] ((nm W).map .str) = some ((hdgA W (.many ar)).map .str):=by
   have q:=zbx (enc:=PyData.str) (out:=PyData.str) (g:=gN 0) (t:=tTru (eCB (anyD fun bs=>bs.any id) (zad (zcw ["_law_one"] [0, 1] (zaq (eVar 2)) (gN 0) zhk (eOp (inD false) (eVar 1) (zan 2 (eVar 0)))) aNil))) (e:=eVar 0) (env:=[.no, .pl (.dict (dS zaa (undr W (nm W)))), .pl (zaa ar)]) (fun n=>ar.any fun a=>decide (n ∈ hdg W a)) (l:=nm W) fun n hn=>⟨[.pl (.str n), .pl (.dict (dS zaa (undr W (nm W)))), .pl (zaa ar)], rfl, by
     have c2 : zfd (gN 0) zhk (eOp (inD false) (eVar 1) (zan 2 (eVar 0))) [.no, .pl (.str n), .pl (.dict (dS zaa (undr W (nm W))))] (ar.map .str) = some (ar.map fun a=>.bool (decide (n ∈ hdg W a))) :=
      zhy fun a haa=>⟨[.pl (.str a), .pl (.str n), .pl (.dict (dS zaa (undr W (nm W))))], rfl, rfl, vb (decide (n ∈ hdg W a)), e_in (neg:=false) rfl (zky (ha a haa) (.inl rfl) rfl), rfl⟩
     unfold tTru
     rw [zajk (f:=fun a : Str=>decide (n ∈ hdg W a)) (zft (own:=["_law_one"]) (fr:=[0, 1]) (fi:=zaq (eVar 2)) (ds:=ar.map .str) (bs:=[]) rfl (by rw [List.length_map]; omega) c2)]
     rfl, fun _=>⟨vs n, rfl, rfl⟩⟩
   rw [q]
   unfold hdgA
   congr 2
   refine List.filter_congr fun n _=>?_
   rw [Bool.eq_iff_iff, decide_eq_true_iff, zaal, List.any_eq_true]
   constructor
   ·rintro ⟨a, h1, h2⟩; exact ⟨a, h1, (zcx ok).mp (of_decide_eq_true h2)⟩
   ·rintro ⟨a, h1, h2⟩; exact ⟨a, h1, decide_eq_true ((zcx ok).mpr h2)⟩
  exact zact (d:=zaa (hdgA W (.many ar))) rfl (zft (own:=["_law_name"]) (fr:=[5, 6]) (fi:=zaq (eVar 3)) (ds:=(nm W).map .str) (bs:=[]) rfl (by rw [List.length_map]; omega) cm) (zfx fun y hy=>zjs (lo1 y (List.mem_filter.mp hy).1))
 have e9 : sApp 4 (eTup (zad (eIxV 2 (eNeg (eC (.int 1)))) (zad (eVar 6) aNil))) [.no, .pl (zbv cs), .pl (zaa (nm W ++ [x])), .pl (zaa (nm W)), .ac (webD W), .ac D, .ac (zaa ar), .ac (zaa (hdgA W (.many ar))), .no] = some (.nx [.no, .pl (zbv cs), .pl (zaa (nm W ++ [x])), .pl (zaa (nm W)), .ac (webD (W ++ [(x, ar)])), .ac D, .pl (zaa ar), .ac (zaa (hdgA W (.many ar))), .no]):=by
  have et : eTup (zad (eIxV 2 (eNeg (eC (.int 1)))) (zad (eVar 6) aNil)) [.no, .pl (zbv cs), .pl (zaa (nm W ++ [x])), .pl (zaa (nm W)), .ac (webD W), .ac D, .ac (zaa ar), .ac (zaa (hdgA W (.many ar))), .no] = some ⟨rowD (x, ar), false, [6]⟩:=by
   unfold eTup
   rw [zdt (zuh rfl) (zhd (r:=⟨zaa ar, false, [6]⟩) rfl)]
   rfl
  show (Option.bind (eTup (zad (eIxV 2 (eNeg (eC (.int 1)))) (zad (eVar 6) aNil)) _) _) = _
  rw [et, Option.bind_some, if_pos ⟨by rw [List.length_map]; omega, by simp⟩]
  show some (Out.nx [.no, .pl (zbv cs), .pl (zaa (nm W ++ [x])), .pl (zaa (nm W)), .ac (.list (W.map rowD ++ [rowD (x, ar)])), .ac D, .pl (zaa ar), .ac (zaa (hdgA W (.many ar))), .no]) = _
  unfold webD
  rw [List.map_append]; rfl
 rw [hnm'] at r2 o2 t2 x2
 generalize eD2 : (PyData.dict (dS zaa (undr (W ++ [(x, ar)]) (nm W ++ [x])))) = D2 at r2 o2 t2
 have e10 : sSet 8 (zmn 4 (zaw 2 zdg (zad (eVar 4) (zad (eVar 2) aNil)))) [.no, .pl (zbv cs), .pl (zaa (nm W ++ [x])), .pl (zaa (nm W)), .ac (webD (W ++ [(x, ar)])), .ac D, .pl (zaa ar), .ac (zaa (hdgA W (.many ar))), .no] = some (.nx [.no, .pl (zbv cs), .pl (zaa (nm W ++ [x])), .pl (zaa (nm W)), .ac (webD (W ++ [(x, ar)])), .ac D, .pl (zaa ar), .ac (zaa (hdgA W (.many ar))), .ac D2]):=by
  refine zbq (r:=⟨D2, true, []⟩) ?_
  subst eD2
  exact zvs (zay (n:=2) (rs:=[⟨webD (W ++ [(x, ar)]), false, [4]⟩, ⟨zaa (nm W ++ [x]), false, []⟩]) rfl rfl r2) x2 (zvt (by rw [hnm']; simp))
 have nD2 : eIsN false (eVar 8) [.no, .pl (zbv cs), .pl (zaa (nm W ++ [x])), .pl (zaa (nm W)), .ac (webD (W ++ [(x, ar)])), .ac D, .pl (zaa ar), .ac (zaa (hdgA W (.many ar))), .ac D2] = some (vb false):=by subst eD2; rfl
 have i10 : sIf (tOrF (zar (eIsN false (eVar 8))) (tOrF (zcr (tTru (zaw 2 zdh (zad (eVar 8) (zad (eVar 2) aNil))))) (zcr (tTru (zaw 3 zec (zad (eVar 4) (zad (eVar 2) (zad (eVar 8) aNil)))))))) (sRet (eC (.bool false))) sNil [.no, .pl (zbv cs), .pl (zaa (nm W ++ [x])), .pl (zaa (nm W)), .ac (webD (W ++ [(x, ar)])), .ac D, .pl (zaa ar), .ac (zaa (hdgA W (.many ar))), .ac D2] = some (.nx [.no, .pl (zbv cs), .pl (zaa (nm W ++ [x])), .pl (zaa (nm W)), .ac (webD (W ++ [(x, ar)])), .ac D, .pl (zaa ar), .ac (zaa (hdgA W (.many ar))), .ac D2]):=by
  refine if_f ?_ rfl
  unfold tOrF
  rw [zcg nD2, zkv (c:=true) (zay (n:=2) (rs:=[⟨D2, false, [8]⟩, ⟨zaa (nm W ++ [x]), false, []⟩]) rfl rfl o2), zkv (c:=true) (zay (n:=3) (rs:=[⟨webD (W ++ [(x, ar)]), false, [4]⟩, ⟨zaa (nm W ++ [x]), false, []⟩, ⟨D2, false, [8]⟩]) rfl rfl t2)]
  rfl
 have i12 : zar (eOp neD (zan 8 (eIxV 2 (eNeg (eC (.int 1))))) (eOp addD (eVar 7) (eLst (zad (eIxV 2 (eNeg (eC (.int 1)))) aNil)))) [.no, .pl (zbv cs), .pl (zaa (nm W ++ [x])), .pl (zaa (nm W)), .ac (webD (W ++ [(x, ar)])), .ac D, .pl (zaa ar), .ac (zaa (hdgA W (.many ar))), .ac D2] = some false:=by
  subst eD2
  have hAl : (hdgA W (.many ar)).length ≤ 12:=Nat.le_trans (List.length_filter_le _ _) (zhh ok)
  refine zact (d:=zaa (hdgA W (.many ar) ++ [x])) (f2:=true) (b2:=[7]) (by rw [zky (k:=x) (by simp) (.inr rfl) (zuh rfl), hk]) ?_ (zfx fun y hy=>zjs ?_)
  ·have el : eLst (zad (eIxV 2 (eNeg (eC (.int 1)))) aNil) [.no, .pl (zbv cs), .pl (zaa (nm W ++ [x])), .pl (zaa (nm W)), .ac (webD (W ++ [(x, ar)])), .ac D, .pl (zaa ar), .ac (zaa (hdgA W (.many ar))), .ac (.dict (dS zaa (undr (W ++ [(x, ar)]) (nm W ++ [x]))))] = some ⟨zaa [x], true, []⟩:=by
    unfold eLst
    rw [zhd (zuh rfl)]; rfl
   unfold eOp
   rw [el]
   show ((addD (.list ((hdgA W (.many ar)).map .str)) (.list [.str x])).bind fun z=>some (⟨z.1, z.2, bsOf z.1 ([7] ++ [])⟩ : Val)) = _
   show ((if ((hdgA W (.many ar)).map PyData.str).length + [PyData.str x].length ≤ 100000 then some (PyData.list ((hdgA W (.many ar)).map .str ++ [.str x]), true) else none).bind fun z=>some (⟨z.1, z.2, bsOf z.1 ([7] ++ [])⟩ : Val)) = _
   rw [if_pos (by rw [List.length_map]; show _ + 1 ≤ _; omega)]
   show some (⟨.list ((hdgA W (.many ar)).map .str ++ [.str x]), true, [7]⟩ : Val) = _
   unfold zaa
   rw [List.map_append]; rfl
  ·rcases List.mem_append.mp hy with z | z
   ·exact lo1 y (List.mem_filter.mp z).1
   ·exact lo y (List.mem_append_right _ z)
 have e13 : eCB (anyD fun bs=>bs.all id) (zad (zcw ["_law_name"] [5, 8] (zaq (eVar 3)) (gN 0) zhk (eOp eqD (zan 2 (eVar 0)) (zan 1 (eVar 0)))) aNil) [.no, .pl (zbv cs), .pl (zaa (nm W ++ [x])), .pl (zaa (nm W)), .ac (webD (W ++ [(x, ar)])), .ac D, .pl (zaa ar), .ac (zaa (hdgA W (.many ar))), .ac D2] = some (vb true):=by
  subst eD eD2
  have cm : zfd (gN 0) zhk (eOp eqD (zan 2 (eVar 0)) (zan 1 (eVar 0))) [.no, .pl (.dict (dS zaa (undr W (nm W)))), .pl (.dict (dS zaa (undr (W ++ [(x, ar)]) (nm W ++ [x]))))] ((nm W).map .str) = some ((nm W).map fun _=>.bool true) :=
   zhy fun n hn=>⟨[.pl (.str n), .pl (.dict (dS zaa (undr W (nm W)))), .pl (.dict (dS zaa (undr (W ++ [(x, ar)]) (nm W ++ [x]))))], rfl, rfl, vb true, by
    unfold eOp
    rw [zky (k:=n) (List.mem_append_left _ hn) (.inl rfl) rfl, zky (k:=n) hn (.inl rfl) rfl, zacw ok nxy hn]
    show ((eqD (zaa (hdg W n)) (zaa (hdg W n))).bind fun z=>some (⟨z.1, z.2, bsOf z.1 ([] ++ [])⟩ : Val)) = _
    rw [eqS (d:=zaa (hdg W n)) (zfx fun y hy=>zjs (lo1 y (List.mem_filter.mp hy).1))]
    rfl, rfl⟩
  rw [zagd (f:=fun _ : Str=>true) (zft (own:=["_law_name"]) (fr:=[5, 8]) (fi:=zaq (eVar 3)) (ds:=(nm W).map .str) (bs:=[]) rfl (by rw [List.length_map]; omega) cm)]
  congr 2
  simp
 exact zak e2 (zak e3 (zak e4 (zak e5 (zak i5 (zak e6 (zak e7 (zak (if_f i8 rfl) (zak e9 (zak e10 (zak i10 (zak (if_f i12 rfl) (zlw (bs:=[]) e13))))))))))))
end Bc
namespace Bc
open PySem L2
section
variable {P : Program} {w : World} {K : PySem.W.Frag} {mg : Str → Option Value} {base : Heap}
theorem zajm {s k : Int} (h1 : 0 ≤ s) (h2 : s < 2147483647) (h3 : 0 ≤ k) (h4 : k ≤ 64) : 0 ≤ s * (k + 2) + 7919 * k * k + 11 ∧ s * (k + 2) + 7919 * k * k + 11 < 200000000000:=by
 have a1 : 0 ≤ s * (k + 2):=Int.mul_nonneg h1 (by omega)
 have a2 : s * (k + 2) ≤ 2147483647 * 66:=Int.mul_le_mul (by omega) (by omega) (by omega) (by omega)
 have a3 : 0 ≤ 7919 * k * k:=Int.mul_nonneg (by omega) h3
 have a4 : 7919 * k * k ≤ 7919 * 64 * 64:=Int.mul_le_mul (by omega) h4 h3 (by omega)
 omega
noncomputable def zui (K : PySem.W.Frag) : Sp:=fun vs H Q _=>∃ (a : Addr) (ns : List Int) (m : Int), vs = [.ref a, .int m] ∧ SqL K H a (ns.map .int) ∧ 0 ≤ m ∧ m ≤ 64 ∧
 ∀ p H' (cs : List Int), H p = none → Same H H' → H' p = some (.lst (cs.map .int)) → cs.length = m.toNat → (∀ c ∈ cs, 0 ≤ c ∧ c < 1000000000000) → Q (.ref p) H'
theorem zsn {f : Addr} {fd : FuncData} (F : Fun K "_law_draws" "_law_draws" zee f fd) (T : Txt mg) : FnOk P w K mg base CX0 1 f fd ["_law_script", "_law_many"] (zui K):=by
 refine F.ok zrt (fun vs H Q E h=>?_) (fun cdv A outer s H vs Q E hr h=>?_)
 ·obtain ⟨a, ns, m, rfl, _⟩:=h
  rfl
 ·obtain ⟨a, ns, m, rfl, hS, h0, h64, k⟩:=h
  apply Exists.intro
  apply And.intro
  ·refine' (zjg (zul (i:=2) (hf:=Or.inl rfl) zdl rfl (Or.inl rfl) zfy)
 (zjg (zwu PassesOwn.never rfl (zabm (K:=K) rfl (zun (zql (K:=K) rfl) (pv 0) zxd (zxe zfy))) (zsr (i:=3) (hf:=Or.inl rfl) zdl rfl (Or.inl rfl))
  (zka (zul (i:=2) (hf:=Or.inl rfl) zdl rfl (Or.inl rfl) (ziu zdi (ziu (zcb (K:=K) rfl) (ziu zgu (pv 2) zfy) (ziu zdi (pv 3) zfy)) zfy))))
 (zjg (zul (i:=4) (hf:=Or.inl rfl) zdl rfl (Or.inl rfl) (zadc zns))
 (zjg (zwu PassesOwn.never rfl (zpu rfl T.range (zle (pv 1) zns)) (zsr (i:=5) (hf:=Or.inl rfl) zdl rfl (Or.inl rfl))
  (zka (zagz (zwx zaiu (pv 5) (zum (zcz (K:=K) rfl) (by rfl) T.len zen (zle (pv 0) zns)) (zeo _)) (zka (zsq (zxw (K:=K) rfl PySem.F.plainAttrs_list PySem.F.slot_list_append PySem.F.type_list_append zcj (pv 4) (zle (ziu zdi (zahi (zhj (K:=K) rfl) (pv 0) (pv 5) (fun _ _=>rfl)) (ziu zadb zfy zfy)) zns)))) (zka (zsq (zxw (K:=K) rfl PySem.F.plainAttrs_list PySem.F.slot_list_append PySem.F.type_list_append zcj (pv 4) (zle (ziu zfm (ziu zdi (ziu zadb (ziu (zcb (K:=K) rfl) (ziu (zcb (K:=K) rfl) (ziu zgu (pv 2) (ziu (zcb (K:=K) rfl) (pv 5) zfy)) (ziu zgu (ziu zgu zfy (pv 5)) (pv 5))) zfy) zfy) zfy) zfy) zns)))))))
 (zka (zada (pv 4)))))))
  refine ⟨_, rfl, _, rfl, a, _, rfl, hS, fun p hp=>⟨p, rfl, ⟨_, SqL.of zav⟩, L2.for_list (xs:=cutV (ns.map V.int) none (some 63)) (fun i σ H1=>∃ (sd : Int) (v3 : Option V), σ = [some (.ref a), some (.int m), some (.int sd), v3, none, none] ∧ H1 = upd H p (.lst (cutV (ns.map V.int) none (some 63))) ∧ 0 ≤ sd ∧ sd < 2147483647)
   ⟨7, none, rfl, rfl, by decide, by decide⟩ (fun i σ H1 _ ⟨_, _, _, e, _⟩=>e ▸ SqL.of zav) ?_ ?_⟩⟩
  ·rintro i x σ H1 hi ⟨sd, v3, rfl, rfl, b0, b1⟩
   obtain ⟨z, rfl⟩ : ∃ z, x = V.int z:=by
    have hm:=List.mem_of_getElem? hi
    unfold cutV at hm
    obtain ⟨z, _, e⟩:=List.mem_map.mp (List.mem_of_mem_drop (List.mem_of_mem_take hm))
    exact ⟨z, e.symm⟩
   refine ⟨_, rfl, .inl ⟨by omega, by omega⟩, _, rfl, _, _, rfl, rfl, (by show (0 : Int) < 2147483629; decide), _, _, rfl, rfl, (by show (0 : Int) < 2147483647; decide), ?_⟩
   exact ⟨_, _, rfl, rfl, Int.emod_nonneg _ (by decide), Int.emod_lt_of_pos _ (by decide)⟩
  ·rintro σ H1 ⟨sd, v3, rfl, rfl, b0, b1⟩
   refine ⟨Nat.zero_le _, fun q hq=>?_⟩
   have hqH : H q = none:=(Same.new hp).free hq
   have sH : ∀ o, Same H (upd (upd H p (.lst (cutV (ns.map V.int) none (some 63)))) q o):=fun o=>(Same.new hp).upd hqH
   refine ⟨_, rfl, m, rfl, by omega, by omega, L2.for_range (n:=m.toNat) (fun i σ H2=>∃ (cs : List Int) (v5 : Option V), σ = [some (.ref a), some (.int m), some (.int sd), v3, some (.ref q), v5] ∧ H2 = upd (upd H p (.lst (cutV (ns.map V.int) none (some 63)))) q (.lst (cs.map .int)) ∧ cs.length = i ∧ ∀ c ∈ cs, 0 ≤ c ∧ c < 1000000000000)
    ⟨[], none, rfl, rfl, rfl, fun _ h=>nomatch h⟩ ?_ ?_⟩
   ·rintro i σ H2 hi ⟨cs, v5, rfl, rfl, hc, hp0⟩
    have hi64 : (i : Int) ≤ 64:=by omega
    refine ⟨_, rfl, _, rfl, _, _, rfl, .inl ⟨_, (sH _).seq hS, rfl⟩, _, _, rfl, rfl, _, rfl, ?_⟩
    have lz : (cs.map V.int).length < sizeLine:=by rw [List.length_map, hc]; exact Nat.lt_of_le_of_lt (show i ≤ 64 by omega) (by decide)
    have fin : ∀ v : Int, 0 ≤ v → v < 1000000000000 → ∃ (cs' : List Int) (v5 : Option V), [some (.ref a), some (.int m), some (.int sd), v3, some (.ref q), some (.int (0 + (i : Int)))] = [some (.ref a), some (.int m), some (.int sd), v3, some (.ref q), v5] ∧
      upd (upd (upd H p (.lst (cutV (ns.map V.int) none (some 63)))) q (.lst (cs.map .int))) q (.lst (cs.map V.int ++ [.int v])) = upd (upd H p (.lst (cutV (ns.map V.int) none (some 63)))) q (.lst (cs'.map .int)) ∧ cs'.length = i + 1 ∧ ∀ c ∈ cs', 0 ≤ c ∧ c < 1000000000000:=fun v hv hv2=>by
     refine ⟨cs ++ [v], _, rfl, ?_, by simp [hc], fun c h=>?_⟩
     ·rw [zadw, List.map_append]; rfl
     ·rcases List.mem_append.mp h with h | h
      ·exact hp0 c h
      ·rw [List.mem_singleton.mp h]; exact ⟨hv, hv2⟩
    refine ite2 (fun h=>?_) (fun h=>?_)
    ·have h : (0 : Int) + i < ((ns.map V.int).length : Nat):=of_decide_eq_true h
     rw [List.length_map] at h
     have hin : i < ns.length:=by omega
     have ga : atI (ns.map V.int) (0 + (i : Int)) = some (.int ns[i]):=by
      rw [Int.zero_add]
      exact zlf (by rw [List.getElem?_map, List.getElem?_eq_getElem hin]; rfl)
     refine ⟨_, rfl, .inl ⟨rfl, _, SqL.of zav⟩, _, rfl, _, rfl, _, _, .inl ((sH _).seq hS), ga, _, _, rfl, rfl, ⟨by decide, by decide, by decide⟩, _, _, rfl, rfl, (by show (0 : Int) < 10 ^ 12; decide), q, _, _, rfl, rfl, zav, lz, ?_⟩
     exact fin _ (Int.emod_nonneg _ (by decide)) (Int.emod_lt_of_pos _ (by decide))
    ·obtain ⟨d1, d2⟩:=zajm (s:=sd) (k:=0 + (i : Int)) b0 b1 (by omega) (by omega)
     refine ⟨_, rfl, .inl ⟨rfl, _, SqL.of zav⟩, _, rfl, _, rfl, .inl ⟨by omega, by omega⟩, _, rfl, .inl ⟨by decide, by decide⟩, _, rfl, .inr ⟨by omega, by omega⟩, ?_⟩
     refine ⟨_, _, rfl, rfl, ⟨by decide, by decide, ?_⟩, _, _, rfl, rfl, (by show (0 : Int) < 2147483647; decide), _, _, rfl, rfl, ⟨by decide, by decide⟩, q, _, _, rfl, rfl, zav, lz, ?_⟩
     ·show (sd * (0 + (i : Int) + 2) + 7919 * (0 + (i : Int)) * (0 + (i : Int)) + 11).natAbs < 2 ^ 64
      omega
     ·refine fin _ (Int.ediv_nonneg (Int.emod_nonneg _ (by decide)) (by decide)) ?_
      have h9 : ∀ z : Int, z % 2147483647 / 7 < 1000000000000:=fun z=>by have:=Int.emod_lt_of_pos z (show (0 : Int) < 2147483647 by decide); omega
      exact h9 _
   ·rintro σ H2 ⟨cs, v5, rfl, rfl, hc, hp0⟩
    exact ⟨_, rfl, k q _ cs hqH (sH _) zav hc hp0⟩
end
section
variable {P : Program} {w : World} {K : PySem.W.Frag} {mg : Str → Option Value} {base : Heap}
noncomputable def zacy (K : PySem.W.Frag) : Sp:=fun vs H Q _=>∃ (a : Addr) (ns : List Int), vs = [.ref a] ∧ SqL K H a (ns.map V.int) ∧ ∀ H', Q (.bl true) H'
theorem zain {f : Addr} {fd : FuncData} (F : Fun K "law" "law" zpm f fd) (T : Txt mg) (D_law_arm : zse P w K mg base) (D_law_draws : Dn P w K mg base "_law_draws" ["_law_script", "_law_many"] 1 (zui K)) (D_law_names : zmz P w K mg base) (D_law_order : znd P w K mg base) (D_law_roads : znc P w K mg base) (D_law_told : zop P w K mg base) (D_law_web : zsd P w K mg base) (D_above : zpo P w K mg base) : FnOk P w K mg base CX0 6 f fd ["_law_script"] (zacy K):=by
 refine F.ok zaim (fun vs H Q E h=>?_) (fun cdv A outer s H vs Q E hr h=>?_)
 ·obtain ⟨a, ns, rfl, _⟩:=h
  rfl
 ·obtain ⟨a, ns, rfl, hS, k⟩:=h
  have hu:=zgt hr
  apply Exists.intro
  apply And.intro
  ·refine' Bx.out (zae (zau (i:=1) zjz rfl (Or.inl rfl) (zbn D_law_draws (hr.mono (by decide)) (by rfl) (zab (bv 0) (zab zao zai (by rfl)) (by rfl)) (by decide) (zag (by rfl)) (by rfl)) (by rfl) (.inl rfl))
 (zae (zau (i:=2) zjz rfl (Or.inl rfl) (zbn D_law_names (hr.mono (by decide)) (by rfl) (zab (zbe (zcb (K:=K) rfl) zao (zbe zdi (zeq (zhj (K:=K) rfl) (bv 1) zao (fun _ _=>rfl)) zao)) (zab (zeq (zhj (K:=K) rfl) (bv 1) zao (fun _ _=>rfl)) zai (by rfl)) (by rfl)) (by decide) (zag (by rfl)) (by rfl)) (by rfl) (.inl rfl))
 (zae (zau (i:=3) zjz rfl (Or.inl rfl) (zfw (zql (K:=K) rfl) (bv 2) zir (zga (zog znq zao))) (by rfl) (.inl rfl))
 (zae (zau (i:=4) zjz rfl (Or.inl rfl) (zbn D_law_web (hr.mono (by decide)) (by rfl) (zab (zfw (zql (K:=K) rfl) (bv 1) (zga zao) (zga zao)) (zab (bv 3) zai (by rfl)) (by rfl)) (by decide) (zag (by rfl)) (by rfl)) (by rfl) (.inl rfl))
 (zae (zau (i:=5) zjz rfl (Or.inr rfl) (zbn D_law_roads (hr.mono (by decide)) (by rfl) (zab (bv 4) (zab (bv 3) zai (by rfl)) (by rfl)) (by decide) (zag (by rfl)) (by rfl)) (by rfl) (.inl rfl))
 (zae (zck (zju (zid (zkm (bv 5)) (by first | exact zij _ (by decide) (by decide) | rfl)) (zju (zfv (zbs (K:=K) rfl (zbn D_law_order (hr.mono (by decide)) (by rfl) (zab (bv 5) (zab (bv 3) zai (by rfl)) (by rfl)) (by decide) (zag (by rfl)) (by rfl)) (fun _=>rfl))) (zmj (zfv (zbs (K:=K) rfl (zbn D_law_told (hr.mono (by decide)) (by rfl) (zab (bv 4) (zab (bv 3) (zab (bv 5) zai (by rfl)) (by rfl)) (by rfl)) (by decide) (zag (by rfl)) (by rfl)) (fun _=>rfl)))))).pt (zaj (zaz zep)) zbh)
 (zae (zau (i:=6) zjz rfl (Or.inr rfl) (zbn D_law_arm (hr.mono (by decide)) (by rfl) (zab (zeq (zhj (K:=K) rfl) (bv 1) zao (fun _ _=>rfl)) (zab (bv 3) zai (by rfl)) (by rfl)) (by decide) (zag (by rfl)) (by rfl)) (by rfl) (.inl rfl))
 (zae (zau (i:=7) zjz rfl (Or.inl rfl) (zbn D_above (hr.mono (by decide)) (by rfl) (zab (bv 4) (zab (ziq (ztk (K:=K) rfl) (by rfl) T.tuple zoi (zab (bv 6) zai (by rfl)) (by decide) (by decide) (zag (by rfl)) (by rfl)) zai (by rfl)) (by rfl)) (by decide) (zag (by rfl)) (by rfl)) (by rfl) (.inl rfl))
 (zae (zck (zbk (zks (K:=K) rfl hr.units) (bv 7) (zda (zco (N':=["_law_name", "_law_under", "_law_arm_here"]) (own:=["_law_name"]) (fr:=[5, 6]) (by kernel_rfl)) rfl (zbi (K:=K) rfl (bv 3)) ?hb1 (by intro _; rfl)) (zeo _)) (zaj (zaz zep)) zbh)
 (zae (zcc (zeb (K:=K) rfl PySem.F.plainAttrs_list PySem.F.slot_list_append PySem.F.type_list_append zcj (bv 4) (zab (ztr (zab (zeq (zhj (K:=K) rfl) (bv 2) (zog znq zao) (fun _ _=>rfl)) (zab (bv 6) zai (by rfl)) (by rfl))) zai (by rfl)) (by rfl) (by rfl) (by rfl) (zag (by rfl)) (by rfl)) (by rfl))
 (zae (zau (i:=8) zjz rfl (Or.inr rfl) (zbn D_law_roads (hr.mono (by decide)) (by rfl) (zab (bv 4) (zab (bv 2) zai (by rfl)) (by rfl)) (by decide) (zag (by rfl)) (by rfl)) (by rfl) (.inl rfl))
 (zae (zck (zju (zid (zkm (bv 8)) (by first | exact zij _ (by decide) (by decide) | rfl)) (zju (zfv (zbs (K:=K) rfl (zbn D_law_order (hr.mono (by decide)) (by rfl) (zab (bv 8) (zab (bv 2) zai (by rfl)) (by rfl)) (by decide) (zag (by rfl)) (by rfl)) (fun _=>rfl))) (zmj (zfv (zbs (K:=K) rfl (zbn D_law_told (hr.mono (by decide)) (by rfl) (zab (bv 4) (zab (bv 2) (zab (bv 8) zai (by rfl)) (by rfl)) (by rfl)) (by decide) (zag (by rfl)) (by rfl)) (fun _=>rfl)))))).pt (zaj (zaz zep)) zbh)
 (zae (zck (zbk (zks (K:=K) rfl hr.units) (zbo hu (bv 8) (zeq (zhj (K:=K) rfl) (bv 2) (zog znq zao) (fun _ _=>rfl)) (fun _ _=>rfl)) (zbe (zcb (K:=K) rfl) (bv 7) (zex (zab (zeq (zhj (K:=K) rfl) (bv 2) (zog znq zao) (fun _ _=>rfl)) zai (by rfl)))) (zeo _)) (zaj (zaz zep)) zbh)
 (zaj (zaz (zbg (zlj (K:=K) rfl rfl) (by rfl) T.all zpl (zab (zda (zco (N':=["_law_name", "_law_under", "_law_more"]) (own:=["_law_name"]) (fr:=[5, 8]) (by kernel_rfl)) rfl (zbi (K:=K) rfl (bv 3)) ?hb3 (by intro _; rfl)) zai (by rfl)) (by decide) (by decide) (zag (by rfl)) (by rfl)))))))))))))))))
   case hb1=>(intro cl C s H fp; refine' ⟨Bx.out (zax (i:=0) zaag rfl (Or.inr rfl) (by first | exact .inl rfl | exact .inr rfl | assumption)), Bx.out (zkl (zbs (K:=K) rfl (zbg (zxv (K:=K) rfl rfl) (by rfl) T.any zacm (zab (zda (zco (N':=["_law_one", "_law_name", "_law_under"]) (own:=["_law_one"]) (fr:=[0, 1]) (by kernel_rfl)) rfl (zbi (K:=K) rfl (bv 2)) ?hb2 (by intro _; rfl)) zai (by rfl)) (by decide) (by decide) (zag (by rfl)) (by rfl)) (fun _=>rfl))), Bx.out (bv 0)⟩; case hb2=>(intro cl C s H fp; refine' ⟨Bx.out (zax (i:=0) zaah rfl (Or.inl rfl) (by first | exact .inl rfl | exact .inr rfl | assumption)), Bx.out zmk, Bx.out (zhe (zjl (K:=K) rfl) (bv 1) (zbo hu (bv 2) (bv 0) (fun _ _=>rfl)) (by rfl))⟩))
   case hb3=>(intro cl C s H fp; refine' ⟨Bx.out (zax (i:=0) zaai rfl (Or.inl rfl) (by first | exact .inl rfl | exact .inr rfl | assumption)), Bx.out zmk, Bx.out (zhe (zkr (K:=K) rfl hr.units) (zbo hu (bv 2) (bv 0) (fun _ _=>rfl)) (zbo hu (bv 1) (bv 0) (fun _ _=>rfl)) (zeo _))⟩)
  refine ⟨_, rfl, a, ns, 12, rfl, hS, by decide, by decide, fun pc H1 cs hpc s1 e1 lc p1=>?_⟩
  exact zafm (F:=zsm) ((zam (zbd (zbc (zaf (zba zhi (se_c fun _=>zah) (zba zey (zfs (se_c fun _=>zah)) (se_c fun _=>zah))) (zaf (zfs (se_c fun _=>zah)) zap)))) (zam (zbd (zti (zac 2) zkf (zhs (zny (se_c fun _=>zah))))) (zam (zbd (zbc (zaf (zti (zac 1) (zhs (se_c fun _=>zah)) (zhs (se_c fun _=>zah))) (zaf (zac 3) zap)))) (zam (zbd (zvl (zbc (zaf (zac 4) (zaf (zac 3) zap))))) (zam (zgd (zpc (st_b (znw (zac 5))) (zpc (zhq (zgj (zbc (zaf (zac 5) (zaf (zac 3) zap))))) (zhq (zgj (zbc (zaf (zac 4) (zaf (zac 3) (zaf (zac 5) zap)))))))) (zca (se_c fun _=>zas)) zdp) (zam (zbd (zzk (zbc (zaf (zfs (se_c fun _=>zah)) (zaf (zac 3) zap))))) (zam (zbd (zzk (zbc (zaf (zac 4) (zaf (zgw zabq (zaf (zac 6) zap)) zap))))) (zam (zgd (st_t (zba zqp (zac 7) (zfq (zcp (zac 3)) zbz (zgy (by decide)) (zgj (zgw zuw (zaf (zfq (zcp (zac 2)) zbz (zgy (by decide)) zqu (zba zke (zac 1) (zbt (zac 0)))) zap))) (zac 0)))) (zca (se_c fun _=>zas)) zdp) (zam (znx (zyc (zaf (zfs (zny (se_c fun _=>zah))) (zaf (zac 6) zap)))) (zam (zbd (zvl (zbc (zaf (zac 4) (zaf (zac 2) zap))))) (zam (zgd (zpc (st_b (znw (zac 8))) (zpc (zhq (zgj (zbc (zaf (zac 8) (zaf (zac 2) zap))))) (zhq (zgj (zbc (zaf (zac 4) (zaf (zac 2) (zaf (zac 8) zap)))))))) (zca (se_c fun _=>zas)) zdp) (zam (zgd (st_t (zba zqp (zbt (zfs (zny (se_c fun _=>zah)))) (zba zhi (zac 7) (zhr (zaf (zfs (zny (se_c fun _=>zah))) zap))))) (zca (se_c fun _=>zas)) zdp) (zca (zgw zuw (zaf (zfq (zcp (zac 3)) zbz (zgy (by decide)) zqu (zba zqo (zbt (zac 0)) (zbt (zac 0)))) zap)))))))))))))))) (zafn (n:=7) e1) (zacx lc (fun c h=>(p1 c h).1)) k
end
theorem us_s {us : List Value} {n : Nat} (h : us.length = n + 1) : ∃ a t, us = a :: t ∧ t.length = n:=by
 cases us with
 | nil=>cases h
 | cons a t=>exact ⟨a, t, rfl, Nat.succ.inj h⟩
theorem us_1 {us : List Value} (h : us.length = 1) : ∃ a0, us = [a0]:=by
 obtain ⟨a, t, rfl, h2⟩:=us_s h
 cases List.length_eq_zero_iff.mp h2
 exact ⟨a, rfl⟩
theorem us_2 {us : List Value} (h : us.length = 2) : ∃ a0 a1, us = [a0, a1]:=by
 obtain ⟨a0, t, rfl, h2⟩:=us_s h
 obtain ⟨a1, rfl⟩:=us_1 h2
 exact ⟨a0, a1, rfl⟩
theorem us_3 {us : List Value} (h : us.length = 3) : ∃ a0 a1 a2, us = [a0, a1, a2]:=by
 obtain ⟨a0, t, rfl, h2⟩:=us_s h
 obtain ⟨a1, a2, rfl⟩:=us_2 h2
 exact ⟨a0, a1, a2, rfl⟩
theorem us_4 {us : List Value} (h : us.length = 4) : ∃ a0 a1 a2 a3, us = [a0, a1, a2, a3]:=by
 obtain ⟨a0, t, rfl, h2⟩:=us_s h
 obtain ⟨a1, a2, a3, rfl⟩:=us_3 h2
 exact ⟨a0, a1, a2, a3, rfl⟩
theorem all_mk {l : PySem.W.OpenLaw} {w : World} {K : PySem.W.Frag} {h : Heap} {mg : Str → Option Value} {fa f1 f2 f3 f4 f5 f6 f7 f8 f9 f10 f11 f12 f13 f14 f15 f16 f17 f18 f19 f20 : Addr} (X : K.In h) (G : h.Ns mainGlobals mg) (hfa : mg "law" = some (.ref fa))
  {od1 an1 od2 an2 od3 an3 od4 an4 od5 an5 od6 an6 od7 an7 od8 an8 od9 an9 od10 an10 od11 an11 od12 an12 od13 an13 od14 an14 od15 an15 od16 an16 od17 an17 od18 an18 od19 an19 od20 an20 : Option Addr} {sl1 sl2 sl3 sl4 sl5 sl6 sl7 sl8 sl9 sl10 sl11 sl12 sl13 sl14 sl15 sl16 sl17 sl18 sl19 sl20 : Array (Option Value)} {oc1 kV1 dc1 pm1 cd1 ct1 oc2 kV2 dc2 pm2 cd2 ct2 oc3 kV3 dc3 pm3 cd3 ct3 oc4 kV4 dc4 pm4 cd4 ct4 oc5 kV5 dc5 pm5 cd5 ct5 oc6 kV6 dc6 pm6 cd6 ct6 oc7 kV7 dc7 pm7 cd7 ct7 oc8 kV8 dc8 pm8 cd8 ct8 oc9 kV9 dc9 pm9 cd9 ct9 oc10 kV10 dc10 pm10 cd10 ct10 oc11 kV11 dc11 pm11 cd11 ct11 oc12 kV12 dc12 pm12 cd12 ct12 oc13 kV13 dc13 pm13 cd13 ct13 oc14 kV14 dc14 pm14 cd14 ct14 oc15 kV15 dc15 pm15 cd15 ct15 oc16 kV16 dc16 pm16 cd16 ct16 oc17 kV17 dc17 pm17 cd17 ct17 oc18 kV18 dc18 pm18 cd18 ct18 oc19 kV19 dc19 pm19 cd19 ct19 oc20 kV20 dc20 pm20 cd20 ct20 : Value}
  (a1 : PySem.W.nsIn K mainGlobals "names_of" = some (some (.ref f1))) (l1 : K.lookup f1 = some ⟨oc1, od1, .func (PySem.W.fnOf "names_of" "names_of" (zbp zfi) (zbl zfi) (zal zfi) .none kV1 dc1 pm1 an1 cd1 ct1), sl1⟩) (c1 : PySem.W.codeIn K cd1 "names_of" = true) (k1 : PySem.W.keepIn K (.ref f1) = true)
  (a2 : PySem.W.nsIn K mainGlobals "names_in" = some (some (.ref f2))) (l2 : K.lookup f2 = some ⟨oc2, od2, .func (PySem.W.fnOf "names_in" "names_in" (zbp zfj) (zbl zfj) (zal zfj) .none kV2 dc2 pm2 an2 cd2 ct2), sl2⟩) (c2 : PySem.W.codeIn K cd2 "names_in" = true) (k2 : PySem.W.keepIn K (.ref f2) = true)
  (a3 : PySem.W.nsIn K mainGlobals "check_kinds" = some (some (.ref f3))) (l3 : K.lookup f3 = some ⟨oc3, od3, .func (PySem.W.fnOf "check_kinds" "check_kinds" (zbp zct) (zbl zct) (zal zct) .none kV3 dc3 pm3 an3 cd3 ct3), sl3⟩) (c3 : PySem.W.codeIn K cd3 "check_kinds" = true) (k3 : PySem.W.keepIn K (.ref f3) = true)
  (a4 : PySem.W.nsIn K mainGlobals "roofs_of" = some (some (.ref f4))) (l4 : K.lookup f4 = some ⟨oc4, od4, .func (PySem.W.fnOf "roofs_of" "roofs_of" (zbp zfk) (zbl zfk) (zal zfk) .none kV4 dc4 pm4 an4 cd4 ct4), sl4⟩) (c4 : PySem.W.codeIn K cd4 "roofs_of" = true) (k4 : PySem.W.keepIn K (.ref f4) = true)
  (a5 : PySem.W.nsIn K mainGlobals "roof_of" = some (some (.ref f5))) (l5 : K.lookup f5 = some ⟨oc5, od5, .func (PySem.W.fnOf "roof_of" "roof_of" (zbp zgo) (zbl zgo) (zal zgo) .none kV5 dc5 pm5 an5 cd5 ct5), sl5⟩) (c5 : PySem.W.codeIn K cd5 "roof_of" = true) (k5 : PySem.W.keepIn K (.ref f5) = true)
  (a6 : PySem.W.nsIn K mainGlobals "above" = some (some (.ref f6))) (l6 : K.lookup f6 = some ⟨oc6, od6, .func (PySem.W.fnOf "above" "above" (zbp zko) (zbl zko) (zal zko) .none kV6 dc6 pm6 an6 cd6 ct6), sl6⟩) (c6 : PySem.W.codeIn K cd6 "above" = true) (k6 : PySem.W.keepIn K (.ref f6) = true)
  (a7 : PySem.W.nsIn K mainGlobals "beneath" = some (some (.ref f7))) (l7 : K.lookup f7 = some ⟨oc7, od7, .func (PySem.W.fnOf "beneath" "beneath" (zbp zgp) (zbl zgp) (zal zgp) .none kV7 dc7 pm7 an7 cd7 ct7), sl7⟩) (c7 : PySem.W.codeIn K cd7 "beneath" = true) (k7 : PySem.W.keepIn K (.ref f7) = true)
  (a8 : PySem.W.nsIn K mainGlobals "stands" = some (some (.ref f8))) (l8 : K.lookup f8 = some ⟨oc8, od8, .func (PySem.W.fnOf "stands" "stands" (zbp zis) (zbl zis) (zal zis) .none kV8 dc8 pm8 an8 cd8 ct8), sl8⟩) (c8 : PySem.W.codeIn K cd8 "stands" = true) (k8 : PySem.W.keepIn K (.ref f8) = true)
  (a9 : PySem.W.nsIn K mainGlobals "road" = some (some (.ref f9))) (l9 : K.lookup f9 = some ⟨oc9, od9, .func (PySem.W.fnOf "road" "road" (zbp zon) (zbl zon) (zal zon) .none kV9 dc9 pm9 an9 cd9 ct9), sl9⟩) (c9 : PySem.W.codeIn K cd9 "road" = true) (k9 : PySem.W.keepIn K (.ref f9) = true)
  (a10 : PySem.W.nsIn K mainGlobals "hedge" = some (some (.ref f10))) (l10 : K.lookup f10 = some ⟨oc10, od10, .func (PySem.W.fnOf "hedge" "hedge" (zbp zkp) (zbl zkp) (zal zkp) .none kV10 dc10 pm10 an10 cd10 ct10), sl10⟩) (c10 : PySem.W.codeIn K cd10 "hedge" = true) (k10 : PySem.W.keepIn K (.ref f10) = true)
  (a11 : PySem.W.nsIn K mainGlobals "_law_draws" = some (some (.ref f11))) (l11 : K.lookup f11 = some ⟨oc11, od11, .func (PySem.W.fnOf "_law_draws" "_law_draws" (zbp zee) (zbl zee) (zal zee) .none kV11 dc11 pm11 an11 cd11 ct11), sl11⟩) (c11 : PySem.W.codeIn K cd11 "_law_draws" = true) (k11 : PySem.W.keepIn K (.ref f11) = true)
  (a12 : PySem.W.nsIn K mainGlobals "_law_names" = some (some (.ref f12))) (l12 : K.lookup f12 = some ⟨oc12, od12, .func (PySem.W.fnOf "_law_names" "_law_names" (zbp zef) (zbl zef) (zal zef) .none kV12 dc12 pm12 an12 cd12 ct12), sl12⟩) (c12 : PySem.W.codeIn K cd12 "_law_names" = true) (k12 : PySem.W.keepIn K (.ref f12) = true)
  (a13 : PySem.W.nsIn K mainGlobals "_law_web" = some (some (.ref f13))) (l13 : K.lookup f13 = some ⟨oc13, od13, .func (PySem.W.fnOf "_law_web" "_law_web" (zbp zgq) (zbl zgq) (zal zgq) .none kV13 dc13 pm13 an13 cd13 ct13), sl13⟩) (c13 : PySem.W.codeIn K cd13 "_law_web" = true) (k13 : PySem.W.keepIn K (.ref f13) = true)
  (a14 : PySem.W.nsIn K mainGlobals "_law_arm" = some (some (.ref f14))) (l14 : K.lookup f14 = some ⟨oc14, od14, .func (PySem.W.fnOf "_law_arm" "_law_arm" (zbp zgr) (zbl zgr) (zal zgr) .none kV14 dc14 pm14 an14 cd14 ct14), sl14⟩) (c14 : PySem.W.codeIn K cd14 "_law_arm" = true) (k14 : PySem.W.keepIn K (.ref f14) = true)
  (a15 : PySem.W.nsIn K mainGlobals "_law_leads" = some (some (.ref f15))) (l15 : K.lookup f15 = some ⟨oc15, od15, .func (PySem.W.fnOf "_law_leads" "_law_leads" (zbp zeh) (zbl zeh) (zal zeh) .none kV15 dc15 pm15 an15 cd15 ct15), sl15⟩) (c15 : PySem.W.codeIn K cd15 "_law_leads" = true) (k15 : PySem.W.keepIn K (.ref f15) = true)
  (a16 : PySem.W.nsIn K mainGlobals "_law_shuts" = some (some (.ref f16))) (l16 : K.lookup f16 = some ⟨oc16, od16, .func (PySem.W.fnOf "_law_shuts" "_law_shuts" (zbp zei) (zbl zei) (zal zei) .none kV16 dc16 pm16 an16 cd16 ct16), sl16⟩) (c16 : PySem.W.codeIn K cd16 "_law_shuts" = true) (k16 : PySem.W.keepIn K (.ref f16) = true)
  (a17 : PySem.W.nsIn K mainGlobals "_law_roads" = some (some (.ref f17))) (l17 : K.lookup f17 = some ⟨oc17, od17, .func (PySem.W.fnOf "_law_roads" "_law_roads" (zbp zej) (zbl zej) (zal zej) .none kV17 dc17 pm17 an17 cd17 ct17), sl17⟩) (c17 : PySem.W.codeIn K cd17 "_law_roads" = true) (k17 : PySem.W.keepIn K (.ref f17) = true)
  (a18 : PySem.W.nsIn K mainGlobals "_law_order" = some (some (.ref f18))) (l18 : K.lookup f18 = some ⟨oc18, od18, .func (PySem.W.fnOf "_law_order" "_law_order" (zbp zek) (zbl zek) (zal zek) .none kV18 dc18 pm18 an18 cd18 ct18), sl18⟩) (c18 : PySem.W.codeIn K cd18 "_law_order" = true) (k18 : PySem.W.keepIn K (.ref f18) = true)
  (a19 : PySem.W.nsIn K mainGlobals "_law_told" = some (some (.ref f19))) (l19 : K.lookup f19 = some ⟨oc19, od19, .func (PySem.W.fnOf "_law_told" "_law_told" (zbp zfl) (zbl zfl) (zal zfl) .none kV19 dc19 pm19 an19 cd19 ct19), sl19⟩) (c19 : PySem.W.codeIn K cd19 "_law_told" = true) (k19 : PySem.W.keepIn K (.ref f19) = true)
  (a20 : PySem.W.nsIn K mainGlobals "law" = some (some (.ref f20))) (l20 : K.lookup f20 = some ⟨oc20, od20, .func (PySem.W.fnOf "law" "law" (zbp zpm) (zbl zpm) (zal zpm) .none kV20 dc20 pm20 an20 cd20 ct20), sl20⟩) (c20 : PySem.W.codeIn K cd20 "law" = true) (k20 : PySem.W.keepIn K (.ref f20) = true)
  (z1 : PySem.W.nsIn K mainGlobals "all" = some none) (z2 : PySem.W.nsIn K mainGlobals "any" = some none) (z3 : PySem.W.nsIn K mainGlobals "bool" = some none) (z4 : PySem.W.nsIn K mainGlobals "dict" = some none) (z5 : PySem.W.nsIn K mainGlobals "enumerate" = some none) (z6 : PySem.W.nsIn K mainGlobals "isinstance" = some none) (z7 : PySem.W.nsIn K mainGlobals "len" = some none) (z8 : PySem.W.nsIn K mainGlobals "list" = some none) (z9 : PySem.W.nsIn K mainGlobals "min" = some none) (z10 : PySem.W.nsIn K mainGlobals "range" = some none) (z11 : PySem.W.nsIn K mainGlobals "tuple" = some none) :
  ∃ fd : FuncData, (∀ (s : Shared) (v : Value), BindsTo s fd ⟨[v], []⟩ [("_law_script", v)]) ∧ ∀ base : Heap, K.In base → base.Ns mainGlobals mg → FnOk l.prog w K mg base CX0 6 fa fd ["_law_script"] (zacy K):=by
 have e:=hfa.symm.trans (PySem.W.mg_of X G a20)
 cases e
 have T : Txt mg:=⟨PySem.W.mg_none_of X G z1, PySem.W.mg_none_of X G z2, PySem.W.mg_none_of X G z3, PySem.W.mg_none_of X G z4, PySem.W.mg_none_of X G z5, PySem.W.mg_none_of X G z6, PySem.W.mg_none_of X G z7, PySem.W.mg_none_of X G z8, PySem.W.mg_none_of X G z9, PySem.W.mg_none_of X G z10, PySem.W.mg_none_of X G z11⟩
 have F1:=zdj (st:=zfi) l1 c1 k1
 have b1:=F1.binds (ps:=["web"]) fun _ _ _ _ _ _ us hl=>by obtain ⟨_, rfl⟩:=us_1 hl; rfl
 have F2:=zdj (st:=zfj) l2 c2 k2
 have b2:=F2.binds (ps:=["arm"]) fun _ _ _ _ _ _ us hl=>by obtain ⟨_, rfl⟩:=us_1 hl; rfl
 have F3:=zdj (st:=zct) l3 c3 k3
 have b3:=F3.binds (ps:=["web", "names"]) fun _ _ _ _ _ _ us hl=>by obtain ⟨_, _, rfl⟩:=us_2 hl; rfl
 have F4:=zdj (st:=zfk) l4 c4 k4
 have b4:=F4.binds (ps:=["web"]) fun _ _ _ _ _ _ us hl=>by obtain ⟨_, rfl⟩:=us_1 hl; rfl
 have F5:=zdj (st:=zgo) l5 c5 k5
 have b5:=F5.binds (ps:=["roofs", "arm"]) fun _ _ _ _ _ _ us hl=>by obtain ⟨_, _, rfl⟩:=us_2 hl; rfl
 have F6:=zdj (st:=zko) l6 c6 k6
 have b6:=F6.binds (ps:=["web", "arm"]) fun _ _ _ _ _ _ us hl=>by obtain ⟨_, _, rfl⟩:=us_2 hl; rfl
 have F7:=zdj (st:=zgp) l7 c7 k7
 have b7:=F7.binds (ps:=["web", "kind"]) fun _ _ _ _ _ _ us hl=>by obtain ⟨_, _, rfl⟩:=us_2 hl; rfl
 have F8:=zdj (st:=zis) l8 c8 k8
 have b8:=F8.binds (ps:=["web", "kind", "other"]) fun _ _ _ _ _ _ us hl=>by obtain ⟨_, _, _, rfl⟩:=us_3 hl; rfl
 have F9:=zdj (st:=zon) l9 c9 k9
 have b9:=F9.binds (ps:=["web", "kind", "other"]) fun _ _ _ _ _ _ us hl=>by obtain ⟨_, _, _, rfl⟩:=us_3 hl; rfl
 have F10:=zdj (st:=zkp) l10 c10 k10
 have b10:=F10.binds (ps:=["web", "kind", "other"]) fun _ _ _ _ _ _ us hl=>by obtain ⟨_, _, _, rfl⟩:=us_3 hl; rfl
 have F11:=zdj (st:=zee) l11 c11 k11
 have b11:=F11.binds (ps:=["_law_script", "_law_many"]) fun _ _ _ _ _ _ us hl=>by obtain ⟨_, _, rfl⟩:=us_2 hl; rfl
 have F12:=zdj (st:=zef) l12 c12 k12
 have b12:=F12.binds (ps:=["_law_many", "_law_cell"]) fun _ _ _ _ _ _ us hl=>by obtain ⟨_, _, rfl⟩:=us_2 hl; rfl
 have F13:=zdj (st:=zgq) l13 c13 k13
 have b13:=F13.binds (ps:=["_law_cells", "_law_names_here"]) fun _ _ _ _ _ _ us hl=>by obtain ⟨_, _, rfl⟩:=us_2 hl; rfl
 have F14:=zdj (st:=zgr) l14 c14 k14
 have b14:=F14.binds (ps:=["_law_cell", "_law_names_here"]) fun _ _ _ _ _ _ us hl=>by obtain ⟨_, _, rfl⟩:=us_2 hl; rfl
 have F15:=zdj (st:=zeh) l15 c15 k15
 have b15:=F15.binds (ps:=["_law_web_here", "_law_kind", "_law_other", "_law_way"]) fun _ _ _ _ _ _ us hl=>by obtain ⟨_, _, _, _, rfl⟩:=us_4 hl; rfl
 have F16:=zdj (st:=zei) l16 c16 k16
 have b16:=F16.binds (ps:=["_law_web_here", "_law_kind", "_law_other", "_law_names_here"]) fun _ _ _ _ _ _ us hl=>by obtain ⟨_, _, _, _, rfl⟩:=us_4 hl; rfl
 have F17:=zdj (st:=zej) l17 c17 k17
 have b17:=F17.binds (ps:=["_law_web_here", "_law_names_here"]) fun _ _ _ _ _ _ us hl=>by obtain ⟨_, _, rfl⟩:=us_2 hl; rfl
 have F18:=zdj (st:=zek) l18 c18 k18
 have b18:=F18.binds (ps:=["_law_under", "_law_names_here"]) fun _ _ _ _ _ _ us hl=>by obtain ⟨_, _, rfl⟩:=us_2 hl; rfl
 have F19:=zdj (st:=zfl) l19 c19 k19
 have b19:=F19.binds (ps:=["_law_web_here", "_law_names_here", "_law_under"]) fun _ _ _ _ _ _ us hl=>by obtain ⟨_, _, _, rfl⟩:=us_3 hl; rfl
 have F20:=zdj (st:=zpm) l20 c20 k20
 refine ⟨PySem.W.fnOf "law" "law" (zbp zpm) (zbl zpm) (zal zpm) .none kV20 dc20 pm20 an20 cd20 ct20, fun s v=>.of_eq rfl, fun base _ _=>?_⟩
 have D_names_of : zit l.prog w K mg base:=⟨f1, _, zuc F1 T , PySem.W.mg_of X G a1, k1, b1⟩
 have D_names_in : zkq l.prog w K mg base:=⟨f2, _, zud F2 T , PySem.W.mg_of X G a2, k2, b2⟩
 have D_check_kinds : zcu l.prog w K mg base:=⟨f3, _, znp F3 T D_names_of, PySem.W.mg_of X G a3, k3, b3⟩
 have D_roofs_of : zgs l.prog w K mg base:=⟨f4, _, zue F4 T , PySem.W.mg_of X G a4, k4, b4⟩
 have D_roof_of : zsb l.prog w K mg base:=⟨f5, _, zwl F5 T D_names_in, PySem.W.mg_of X G a5, k5, b5⟩
 have D_above : zpo l.prog w K mg base:=⟨f6, _, zacp F6 T D_check_kinds D_names_in D_names_of D_roof_of D_roofs_of, PySem.W.mg_of X G a6, k6, b6⟩
 have D_beneath : zsc l.prog w K mg base:=⟨f7, _, zwm F7 T D_check_kinds D_names_of D_roofs_of, PySem.W.mg_of X G a7, k7, b7⟩
 have D_stands : zvr l.prog w K mg base:=⟨f8, _, zaak F8 T D_check_kinds D_roofs_of, PySem.W.mg_of X G a8, k8, b8⟩
 have D_road : zadu l.prog w K mg base:=⟨f9, _, zagj F9 T D_check_kinds D_roofs_of, PySem.W.mg_of X G a9, k9, b9⟩
 have D_hedge : zaaj l.prog w K mg base:=⟨f10, _, zacq F10 T D_above D_check_kinds, PySem.W.mg_of X G a10, k10, b10⟩
 have D_law_draws : Dn l.prog w K mg base "_law_draws" ["_law_script", "_law_many"] 1 (zui K):=⟨f11, _, zsn F11 T , PySem.W.mg_of X G a11, k11, b11⟩
 have D_law_names : zmz l.prog w K mg base:=⟨f12, _, zsf F12 T , PySem.W.mg_of X G a12, k12, b12⟩
 have D_law_web : zsd l.prog w K mg base:=⟨f13, _, zwn F13 T , PySem.W.mg_of X G a13, k13, b13⟩
 have D_law_arm : zse l.prog w K mg base:=⟨f14, _, zwo F14 T , PySem.W.mg_of X G a14, k14, b14⟩
 have D_law_leads : zna l.prog w K mg base:=⟨f15, _, zsg F15 T , PySem.W.mg_of X G a15, k15, b15⟩
 have D_law_shuts : znb l.prog w K mg base:=⟨f16, _, zsh F16 T , PySem.W.mg_of X G a16, k16, b16⟩
 have D_law_roads : znc l.prog w K mg base:=⟨f17, _, zsi F17 T D_law_leads D_law_shuts D_hedge D_road, PySem.W.mg_of X G a17, k17, b17⟩
 have D_law_order : znd l.prog w K mg base:=⟨f18, _, zsj F18 T , PySem.W.mg_of X G a18, k18, b18⟩
 have D_law_told : zop l.prog w K mg base:=⟨f19, _, zuf F19 T D_above D_beneath D_stands, PySem.W.mg_of X G a19, k19, b19⟩
 exact zain F20 T D_law_arm D_law_draws D_law_names D_law_order D_law_roads D_law_told D_law_web D_above
theorem walk {l : PySem.W.OpenLaw} {q : Program} {loose : List Str} {XP : (Str → Option Value) → Heap → Prop} {YP : World → Heap → Prop} {d : DefRec} {K : Params → PySem.W.Frag} (hn : l.most = some 63) (hdf : d.params.defaults = [])
  (hY : ∀ (w : World) (h : Heap), YP w h → (K w.params).In h)
  (F : ∀ (w : World) (mg : Str → Option Value) (fa : Addr) (h : Heap), (K w.params).In h → h.Ns mainGlobals mg → mg d.name = some (.ref fa) →
   ∃ fd : FuncData, (∀ (s : Shared) (u : Value), BindsTo s fd ⟨[u], []⟩ [("_law_script", u)]) ∧ ∀ base : Heap, (K w.params).In base → base.Ns mainGlobals mg → FnOk l.prog w (K w.params) mg base CX0 6 fa fd ["_law_script"] (zacy (K w.params))) :
  PySem.W.WalkO q loose XP YP l.row.toRowW d [] (fun f vs=>PySem.call f vs) :=
 L2.walk_of (n:=63) (k:=6) (x:="_law_script") (CX:=fun _=>CX0) (sp:=fun w=>zacy (K w.params)) hn (by decide) hdf ⟨rfl, by decide, by decide⟩ hY F (fun _ _ a ns hl _ hS=>⟨a, ns, rfl, hS, fun _=>rfl⟩) fun _ _ _ _ _ z=>z
end Bc
open PySem PySem.W PyProof.Rows
set_option maxRecDepth 100000 in
set_option maxHeartbeats 0 in
theorem PySem.Challenge.cw_bestcalls_k10_whole_standing_holds : PySem.Challenge.rw_bestcalls_k10_whole_standing.Holds := by
 w_on; o_law; k_head; (case hw=>w_witness2)
 k_fill
 refine Bc.walk (l:=PySem.Challenge.rw_bestcalls_k10_whole_standing) rfl rfl (fun w h Y=>PySem.W.kIn_of Y) ?F
 case F =>
  intro w mg fa h KX G hmg
  refine' Bc.all_mk KX G hmg ?a1 ?l1 ?c1 ?k1 ?a2 ?l2 ?c2 ?k2 ?a3 ?l3 ?c3 ?k3 ?a4 ?l4 ?c4 ?k4 ?a5 ?l5 ?c5 ?k5 ?a6 ?l6 ?c6 ?k6 ?a7 ?l7 ?c7 ?k7 ?a8 ?l8 ?c8 ?k8 ?a9 ?l9 ?c9 ?k9 ?a10 ?l10 ?c10 ?k10 ?a11 ?l11 ?c11 ?k11 ?a12 ?l12 ?c12 ?k12 ?a13 ?l13 ?c13 ?k13 ?a14 ?l14 ?c14 ?k14 ?a15 ?l15 ?c15 ?k15 ?a16 ?l16 ?c16 ?k16 ?a17 ?l17 ?c17 ?k17 ?a18 ?l18 ?c18 ?k18 ?a19 ?l19 ?c19 ?k19 ?a20 ?l20 ?c20 ?k20 ?z1 ?z2 ?z3 ?z4 ?z5 ?z6 ?z7 ?z8 ?z9 ?z10 ?z11
  (case a1=>k_is)
  (case l1=>k_is)
  (case c1=>k_is)
  (case k1=>k_is)
  (case a2=>k_is)
  (case l2=>k_is)
  (case c2=>k_is)
  (case k2=>k_is)
  (case a3=>k_is)
  (case l3=>k_is)
  (case c3=>k_is)
  (case k3=>k_is)
  (case a4=>k_is)
  (case l4=>k_is)
  (case c4=>k_is)
  (case k4=>k_is)
  (case a5=>k_is)
  (case l5=>k_is)
  (case c5=>k_is)
  (case k5=>k_is)
  (case a6=>k_is)
  (case l6=>k_is)
  (case c6=>k_is)
  (case k6=>k_is)
  (case a7=>k_is)
  (case l7=>k_is)
  (case c7=>k_is)
  (case k7=>k_is)
  (case a8=>k_is)
  (case l8=>k_is)
  (case c8=>k_is)
  (case k8=>k_is)
  (case a9=>k_is)
  (case l9=>k_is)
  (case c9=>k_is)
  (case k9=>k_is)
  (case a10=>k_is)
  (case l10=>k_is)
  (case c10=>k_is)
  (case k10=>k_is)
  (case a11=>k_is)
  (case l11=>k_is)
  (case c11=>k_is)
  (case k11=>k_is)
  (case a12=>k_is)
  (case l12=>k_is)
  (case c12=>k_is)
  (case k12=>k_is)
  (case a13=>k_is)
  (case l13=>k_is)
  (case c13=>k_is)
  (case k13=>k_is)
  (case a14=>k_is)
  (case l14=>k_is)
  (case c14=>k_is)
  (case k14=>k_is)
  (case a15=>k_is)
  (case l15=>k_is)
  (case c15=>k_is)
  (case k15=>k_is)
  (case a16=>k_is)
  (case l16=>k_is)
  (case c16=>k_is)
  (case k16=>k_is)
  (case a17=>k_is)
  (case l17=>k_is)
  (case c17=>k_is)
  (case k17=>k_is)
  (case a18=>k_is)
  (case l18=>k_is)
  (case c18=>k_is)
  (case k18=>k_is)
  (case a19=>k_is)
  (case l19=>k_is)
  (case c19=>k_is)
  (case k19=>k_is)
  (case a20=>k_is)
  (case l20=>k_is)
  (case c20=>k_is)
  (case k20=>k_is)
  (case z1=>k_is)
  (case z2=>k_is)
  (case z3=>k_is)
  (case z4=>k_is)
  (case z5=>k_is)
  (case z6=>k_is)
  (case z7=>k_is)
  (case z8=>k_is)
  (case z9=>k_is)
  (case z10=>k_is)
  (case z11=>k_is)
