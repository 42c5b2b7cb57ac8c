import PyProof.Rows.All
import Wide.All
import OpenK.AllK
import Wide.FinOn
import Lean
import PyProof.EqAt
import PyProof.EqKinds
import PyProof.TupleCall
import KE.KTryOn
import PyProof.ExcInit
import PyProof.ExcClass3
import PyProof.ExcBaseAll.ValueError
import PyProof.InstStoreFacts
import ObjForm.Fk.InstStore
import PyProof.ExcArgsOwn
import PyProof.ExcAttrAll.ValueError
import PyProof.PureStr
import PyProof.FString2
import PyProof.Rows.FactsFmt
import PyProof.FactsAll.NoneType_2
import PyProof.NsDelKeeps
import PyProof.IsiBase
import KE.KRevSl
import PyProof.DictWalks
import PyProof.AutoListH
import PyProof.AutoSeq1
import PySem.Challenge.RW_bestcalls_k05_webs_told
set_option genSizeOf false
set_option Elab.async false
set_option linter.all false
set_option maxRecDepth 100000
namespace L2
open PySem PySem.Spec PyProof.Rows
noncomputable abbrev Key := Sum Int Str
noncomputable def zny : Key → Value → Bool
  | .inl k, v => Value.isInt k v
  | .inr x, v => Value.isStrOf x v
noncomputable def keyH (w : World) : Key → Int
  | .inl k => hashInt k
  | .inr x => hashStr w x
theorem zcq : ∀ {k : Key} {v : Value}, zny k v = true → (∃ i t, k = Sum.inl i ∧ v = Value.int i t) ∨ (∃ x t, k = Sum.inr x ∧ v = Value.str x t)
  | .inl i, v, h => by
    obtain ⟨t, e⟩ := Value.isInt_shape (k := i) (v := v) h
    exact .inl ⟨i, t, rfl, e⟩
  | .inr x, v, h => by
    obtain ⟨t, e⟩ := Value.isStrOf_shape (x := x) (v := v) h
    exact .inr ⟨x, t, rfl, e⟩
theorem zvv (i : Int) (t : Tok) : zny (.inl i) (.int i t) = true := by simp [zny, Value.isInt]
theorem zvw (x : Str) (t : Tok) : zny (.inr x) (.str x t) = true := by simp [zny, Value.isStrOf]
theorem zahe (a b : Int) : decide ((Sum.inl a : Key) = Sum.inl b) = (a == b) := by
  by_cases e : a = b
  · subst e; simp
  · have h : ¬ (Sum.inl a : Key) = Sum.inl b := fun q => e (Sum.inl.inj q)
    rw [decide_eq_false h]
    exact (beq_eq_false_iff_ne.mpr e).symm
theorem zahf (a b : Str) : decide ((Sum.inr a : Key) = Sum.inr b) = decide (a = b) := by
  by_cases e : a = b
  · subst e; simp
  · have h : ¬ (Sum.inr a : Key) = Sum.inr b := fun q => e (Sum.inr.inj q)
    rw [decide_eq_false h, decide_eq_false e]
theorem zahg (a : Int) (b : Str) : decide ((Sum.inl a : Key) = Sum.inr b) = false := decide_eq_false (fun q => nomatch q)
theorem zahh (a : Str) (b : Int) : decide ((Sum.inr a : Key) = Sum.inl b) = false := decide_eq_false (fun q => nomatch q)
noncomputable def zel (prog : Program) (w : World) : PySem.KeyKind prog w Key where
  is := zny
  hash := keyH w
  inj := fun v a b ha hb => by
    rcases zcq ha with ⟨i, t, rfl, rfl⟩ | ⟨x, t, rfl, rfl⟩
    · rcases zcq hb with ⟨j, u, rfl, e⟩ | ⟨y, u, rfl, e⟩
      · injection e with e1 _; rw [e1]
      · exact nomatch e
    · rcases zcq hb with ⟨j, u, rfl, e⟩ | ⟨y, u, rfl, e⟩
      · exact nomatch e
      · injection e with e1 _; rw [e1]
  byValue := fun k v h => by
    rcases zcq h with ⟨i, t, rfl, rfl⟩ | ⟨x, t, rfl, rfl⟩ <;> rfl
  pyHash := fun hv h => by
    rcases zcq hv with ⟨i, t, rfl, rfl⟩ | ⟨x, t, rfl, rfl⟩
    · exact wpAny_pyHash_int h
    · exact wpAny_pyHash_str h
  eqBool := fun hu hv h => by
    rcases zcq hu with ⟨i, t, rfl, rfl⟩ | ⟨x, t, rfl, rfl⟩
    · rcases zcq hv with ⟨j, u, rfl, rfl⟩ | ⟨y, u, rfl, rfl⟩
      · rw [zahe] at h; exact wpAny_eqBool_int h
      · rw [zahg] at h; exact SeqAt.EqAt.int_str i t y u _ _ _ _ h
    · rcases zcq hv with ⟨j, u, rfl, rfl⟩ | ⟨y, u, rfl, rfl⟩
      · rw [zahh] at h; exact SeqAt.EqAt.str_int x t j u _ _ _ _ h
      · rw [zahf] at h; exact wpAny_eqBool_str h
  «strs» := fun k x t v h => by
    rcases zcq h with ⟨i, u, rfl, e⟩ | ⟨y, u, rfl, e⟩
    · exact nomatch e
    · injection e with e1 _
      subst e1
      cases v <;> rfl
theorem zsl (prog : Program) (w : World) (i : Int) (t : Tok) : (zel prog w).is (.inl i) (.int i t) = true := zvv i t
theorem zsm (prog : Program) (w : World) (x : Str) (t : Tok) : (zel prog w).is (.inr x) (.str x t) = true := zvw x t
end L2
namespace L2
open PySem PySem.Spec PyProof.Rows
inductive V where
  | non | bl (b : Bool) | int (i : Int) | str (x : Str) | byt (b : Array UInt8) | flt (b : UInt64) | ref (a : Addr) | ty (n : String)
  deriving DecidableEq
noncomputable def RelV : V → Value → Prop
  | .non, u => u = Value.none
  | .bl b, u => u = Value.bool b
  | .int i, u => ∃ t, u = Value.int i t
  | .str x, u => ∃ t, u = Value.str x t
  | .byt b, u => ∃ t, u = Value.bytes b t
  | .flt b, u => ∃ t, u = Value.float b t
  | .ref a, u => u = Value.ref a
  | .ty n, u => u = Value.type n
noncomputable abbrev Vals : List V → List Value → Prop := Paired RelV
theorem Vals.length {xs : List V} {us : List Value} (r : Vals xs us) : xs.length = us.length := Paired.length r
theorem Vals.get : ∀ {xs : List V} {us : List Value} {i : Nat} {x : V}, Vals xs us → xs[i]? = some x → ∃ u, us[i]? = some u ∧ RelV x u
  | _, _, _, _, .nil, e => by simp at e
  | _, _, 0, _, .cons r _, e => by simp at e; subst e; exact ⟨_, rfl, r⟩
  | _, _, i + 1, x, .cons _ t, e => by
    obtain ⟨u, h1, h2⟩ := Vals.get (i := i) (x := x) t (by simpa using e)
    exact ⟨u, by simpa using h1, h2⟩
theorem Vals.set {x : V} {u : Value} (r : RelV x u) : ∀ {xs : List V} {us : List Value} (i : Nat), Vals xs us → Vals (xs.set i x) (us.set i u)
  | _, _, _, .nil => .nil
  | _, _, 0, .cons _ t => .cons r t
  | _, _, i + 1, .cons q t => .cons q (Vals.set r i t)
theorem Vals.append : ∀ {xs ys : List V} {us ws : List Value}, Vals xs us → Vals ys ws → Vals (xs ++ ys) (us ++ ws)
  | _, _, _, _, .nil, s => s
  | _, _, _, _, .cons r t, s => .cons r (Vals.append t s)
theorem Vals.take : ∀ {xs : List V} {us : List Value} (n : Nat), Vals xs us → Vals (xs.take n) (us.take n)
  | _, _, 0, _ => .nil
  | _, _, _ + 1, .nil => .nil
  | _, _, n + 1, .cons r t => .cons r (Vals.take n t)
theorem Vals.drop : ∀ {xs : List V} {us : List Value} (n : Nat), Vals xs us → Vals (xs.drop n) (us.drop n)
  | _, _, 0, r => r
  | _, _, _ + 1, .nil => .nil
  | _, _, n + 1, .cons _ t => Vals.drop n t
noncomputable def RelO : Option V → Option Value → Prop
  | some v, some u => RelV v u
  | none, none => True
  | _, _ => False
noncomputable def KV {κ : Type} : List (κ × V) → List (κ × Value) → Prop := Paired fun (p : κ × V) (q : κ × Value) => p.1 = q.1 ∧ RelV p.2 q.2
noncomputable def kV : Key → V
  | .inl i => .int i
  | .inr x => .str x
inductive HO where
    | lst (xs : List V)
    | tup (xs : List V)
    | dK (kvs : List (Key × V)) | dT (kvs : List (List Key × V))
    | set (S : Int → Bool) (n : Nat)
    | ins (C dx : Addr) (fs : List (Str × V))
    | own (x : Addr)
    | xd (fs : List (Str × V))
    | met (f x : Addr)
    | rng (lo hi : Int)
    | frz (o : Obj) (u : HO)
    | tbl (ps : Array Value)
    | ext (φ : Heap → Prop)
noncomputable abbrev Hp := Addr → Option HO
noncomputable def upd (H : Hp) (a : Addr) (o : HO) : Hp := fun b => if b = a then some o else H b
theorem zau {H : Hp} {a : Addr} {o : HO} : upd H a o a = some o := by unfold upd; rw [if_pos rfl]
theorem zay {H : Hp} {a b : Addr} {o : HO} (h : b ≠ a) : upd H a o b = H b := by unfold upd; rw [if_neg h]
theorem zadv {H : Hp} {a : Addr} {o u : HO} : upd (upd H a o) a u = upd H a u := by
  funext b; unfold upd; split <;> rfl
theorem zbz {H : Hp} {a b : Addr} {o : HO} (h : H a = some o) (h' : H b = none) : a ≠ b := by
  intro e; subst e; rw [h] at h'; cases h'
section
variable (P : Program) (w : World)
noncomputable def zeb (H : Hp) (h : Heap) (a : Addr) : HO → Prop
  | .lst xs => xs.length ≤ sizeLine ∧ ∃ (its : List Value) (n : Nat), Vals xs its ∧ h.get? a = some { cls := .type "list", data := .seq its.toArray n }
  | .tup xs => xs.length ≤ sizeLine ∧ ∃ its : List Value, Vals xs its ∧ IsTup h a its.toArray
  | .dK kvs => kvs.length ≤ sizeLine ∧ (a == sysModules) = false ∧ ∃ vs, KV kvs vs ∧ h.DictOf (zel P w) a vs
  | .dT kvs => kvs.length ≤ sizeLine ∧ (a == sysModules) = false ∧ ∃ xs : List (List Key × Addr × Value),
      Paired (fun (p : List Key × V) (q : List Key × Addr × Value) => p.1 = q.1 ∧ H q.2.1 = some (.tup (p.1.map kV)) ∧ RelV p.2 q.2.2) kvs xs ∧
      ∃ o es ep, h.get? a = some o ∧ o.ExactDict ∧ o.data = .dict es ep ∧ es.toList = xs.map (entryOfKey (tupleKind (zel P w))) ∧ (xs.map (·.1)).Nodup
  | .set S n => h.SetOf (intKind P w) a S n
  | .ins C dx fs => H dx = some (.own a) ∧ fs.length ≤ 1000 ∧ dx ≠ a ∧ h.get? a = some (PySem.W.instObj C dx) ∧
      ∃ mA, h.Ns1 dx mA ∧ (∀ f, RelO (fs.lookup f) (mA f)) ∧ PySem.Within mA (fs.map (·.1))
  | .own _ => ∃ o, h.get? a = some o
  | .xd fs => ∃ mA, h.Ns1 a mA ∧ ∀ f, RelO (fs.lookup f) (mA f)
  | .rng lo hi => ∃ t u v, h.get? a = some { cls := .type "range", data := .fields #[.int lo t, .int hi u, .int 1 v] }
  | .frz o u => h.get? a = some o ∧ zeb H h a u
  | .tbl ps => h.get? a = some { cls := .none, data := .fields ps }
  | .met f x => h.get? a = some (PySem.W.methodObj (.ref f) (.ref x))
  | .ext φ => φ h ∧ (∃ o, h.get? a = some o) ∧ ∀ h1 h2 : Heap, φ h1 → (∀ o, h1.get? a = some o → h2.get? a = some o) → φ h2
noncomputable def HOk (H : Hp) (h : Heap) : Prop := ∀ a o, H a = some o → zeb P w H h a o
end
section
variable {P : Program} {w : World} {H H' : Hp} {h h' : Heap} {a : Addr} {o : HO}
theorem zeb.lt (x : zeb P w H h a o) : a < h.objs.size := by
  cases o with
  | lst xs => obtain ⟨_, _, _, _, e⟩ := x; exact Heap.lt_size e
  | tup xs => obtain ⟨_, _, _, p⟩ := x; exact p.lt
  | dK kvs => obtain ⟨_, _, _, _, o, _, _, e, _⟩ := x; exact Heap.lt_size e
  | dT kvs => obtain ⟨_, _, _, _, o, _, _, e, _⟩ := x; exact Heap.lt_size e
  | set S n => obtain ⟨o, _, _, _, e, _⟩ := x; exact Heap.lt_size e
  | ins C dx fs => obtain ⟨_, _, _, e, _⟩ := x; exact Heap.lt_size e
  | own y => obtain ⟨_, e⟩ := x; exact Heap.lt_size e
  | xd fs => obtain ⟨_, ⟨_, _, _, e, _⟩, _⟩ := x; exact Heap.lt_size e
  | rng lo hi => obtain ⟨_, _, _, e⟩ := x; exact Heap.lt_size e
  | frz ob u => obtain ⟨e, _⟩ := x; exact Heap.lt_size e
  | tbl ps => exact Heap.lt_size (show h.get? a = some _ from x)
  | met f y => exact Heap.lt_size (show h.get? a = some _ from x)
  | ext φ => obtain ⟨_, ⟨_, e⟩, _⟩ := x; exact Heap.lt_size e
theorem Paired.mapP {α β : Type} {F G : α → β → Prop} : ∀ {l₁ : List α} {l₂ : List β}, Paired F l₁ l₂ → (∀ a b, F a b → G a b) → Paired G l₁ l₂
  | _, _, .nil, _ => .nil
  | _, _, .cons r t, f => .cons (f _ _ r) (Paired.mapP t f)
theorem zeb.stay (x : zeb P w H h a o) (k : ∀ b u, (b = a ∨ H b = some (.own a)) → h.get? b = some u → h'.get? b = some u)
    (ho : ∀ b, H b = some (.own a) → H' b = some (.own a)) (ht : ∀ b xs, H b = some (.tup xs) → H' b = some (.tup xs)) : zeb P w H' h' a o := by
  induction o with
  | lst xs => obtain ⟨z, its, n, r, e⟩ := x; exact ⟨z, its, n, r, k _ _ (.inl rfl) e⟩
  | tup xs => obtain ⟨z, its, r, ob, e, c⟩ := x; exact ⟨z, its, r, ob, k _ _ (.inl rfl) e, c⟩
  | dK kvs => obtain ⟨z, y, vs, r, ob, es, ep, e, c⟩ := x; exact ⟨z, y, vs, r, ob, es, ep, k _ _ (.inl rfl) e, c⟩
  | dT kvs =>
    obtain ⟨z, y, xs, r, ob, es, ep, e, c⟩ := x
    exact ⟨z, y, xs, Paired.mapP r fun p q z => ⟨z.1, ht _ _ z.2.1, z.2.2⟩, ob, es, ep, k _ _ (.inl rfl) e, c⟩
  | set S n => obtain ⟨ob, es, ep, t, e, c⟩ := x; exact ⟨ob, es, ep, t, k _ _ (.inl rfl) e, c⟩
  | ins C dx fs =>
    obtain ⟨d, z, ne, e, mA, ⟨od, es, ep, e2, c⟩, r⟩ := x
    exact ⟨ho _ d, z, ne, k _ _ (.inl rfl) e, mA, ⟨od, es, ep, k _ _ (.inr d) e2, c⟩, r⟩
  | own y => obtain ⟨ob, e⟩ := x; exact ⟨ob, k _ _ (.inl rfl) e⟩
  | xd fs => obtain ⟨mA, ⟨od, es, ep, e, c⟩, r⟩ := x; exact ⟨mA, ⟨od, es, ep, k _ _ (.inl rfl) e, c⟩, r⟩
  | rng lo hi => obtain ⟨t, u, v, e⟩ := x; exact ⟨t, u, v, k _ _ (.inl rfl) e⟩
  | frz ob u ih => obtain ⟨e, q⟩ := x; exact ⟨k _ _ (.inl rfl) e, ih q⟩
  | tbl ps =>
    have e : h.get? a = some { cls := .none, data := .fields ps } := x
    show h'.get? a = some { cls := .none, data := .fields ps }
    exact k a _ (.inl rfl) e
  | met f y =>
    have e : h.get? a = some (PySem.W.methodObj (.ref f) (.ref y)) := x
    show h'.get? a = some (PySem.W.methodObj (.ref f) (.ref y))
    exact k a _ (.inl rfl) e
  | ext φ => obtain ⟨p, ⟨o, e⟩, st⟩ := x; exact ⟨st _ _ p fun o q => k _ _ (.inl rfl) q, ⟨o, k _ _ (.inl rfl) e⟩, st⟩
theorem HOk.lt (x : HOk P w H h) (e : H a = some o) : a < h.objs.size := (x a o e).lt
theorem HOk.fresh (x : HOk P w H h) (e : h.objs.size ≤ a) : H a = none := by
  cases q : H a with
  | none => rfl
  | some u => exact absurd (Nat.lt_of_lt_of_le (x.lt q) e) (Nat.lt_irrefl _)
theorem HOk.kept (x : HOk P w H h) (k : ∀ b u, h.get? b = some u → h'.get? b = some u) : HOk P w H h' := fun a o e =>
  (x a o e).stay (fun b u _ q => k b u q) (fun _ q => q) fun _ _ q => q
theorem HOk.laid (x : HOk P w H h) (k : ∀ b u, h.get? b = some u → h'.get? b = some u) (hp : h.objs.size ≤ a) (new : zeb P w (upd H a o) h' a o) : HOk P w (upd H a o) h' := fun b u e => by
  have hn := x.fresh hp
  by_cases hb : b = a
  · subst hb; rw [zau] at e; cases e; exact new
  · rw [zay hb] at e
    exact (x b u e).stay (fun c v _ q => k c v q) (fun c q => by rw [zay (zbz q hn)]; exact q) fun c xs q => by rw [zay (zbz q hn)]; exact q
end
noncomputable def Rd (H : Hp) (a : Addr) (u : HO) : Prop := H a = some u ∨ ∃ o, H a = some (.frz o u)
theorem Rd.ok {P : Program} {w : World} {H : Hp} {h : Heap} {a : Addr} {u : HO} (r : Rd H a u) (x : HOk P w H h) : zeb P w H h a u := by
  rcases r with r | ⟨o, r⟩
  · exact x a u r
  · obtain ⟨_, q⟩ := x a _ r
    exact q
noncomputable def Mut : Option HO → Prop
  | some (.lst _) => True
  | some (.dK _) => True
  | some (.dT _) => True
  | some (.set _ _) => True
  | some (.ins _ _ _) => True
  | some (.ext _) => True
  | _ => False
section
variable {P : Program} {w : World} {H : Hp} {h h' : Heap} {x e : Addr} {o' : HO}
theorem HOk.write (ok : HOk P w H h) (mu : Mut (H x)) (he : e = x ∨ H e = some (.own x)) (k : ∀ b u, b ≠ e → h.get? b = some u → h'.get? b = some u) (heo : ∃ u, h'.get? e = some u)
    (new : zeb P w (upd H x o') h' x o') : HOk P w (upd H x o') h' := fun b u q => by
  have nown : ∀ c y, H c = some (.own y) → c ≠ x := fun c y r z => by subst z; rw [r] at mu; exact mu
  have ntup : ∀ c xs, H c = some (.tup xs) → c ≠ x := fun c xs r z => by subst z; rw [r] at mu; exact mu
  by_cases hb : b = x
  · subst hb; rw [zau] at q; cases q; exact new
  · rw [zay hb] at q
    by_cases hbe : b = e
    · have q' : H b = some (.own x) := by
        rcases he with z | z
        · exact absurd (hbe.trans z) hb
        · rw [hbe]; exact z
      rw [q] at q'; cases q'
      obtain ⟨v, hv⟩ := heo
      exact ⟨v, by rw [hbe]; exact hv⟩
    · refine (ok b u q).stay (fun c v hc r => k c v ?_ r) (fun c r => by rw [zay (nown c b r)]; exact r) fun c xs r => by rw [zay (ntup c xs r)]; exact r
      rcases hc with rfl | hc
      · exact hbe
      · rintro rfl
        rcases he with z | z
        · exact nown c b hc z
        · rw [hc] at z; cases z; exact hb rfl
end
set_option genInjectivity false in
structure Un (fs ex : List Addr) (H H' : Hp) (h h' : Heap) : Prop where
  keep : ∀ b o, h.get? b = some o → H b = none → b ∉ fs → b ∉ ex → h'.get? b = some o
  slot : ∀ b o, h.get? b = some o → H b = none → b ∈ fs → b ∉ ex → ∃ sl, h'.get? b = some { o with slots := sl }
  free : ∀ b o, h.get? b = some o → H b = none → b ∉ ex → H' b = none
  there : ∀ b o, h.get? b = some o → b ∉ ex → ∃ o', h'.get? b = some o'
  tups : ∀ b xs, H b = some (.tup xs) → H' b = some (.tup xs)
  frzs : ∀ b o u, H b = some (.frz o u) → H' b = some (.frz o u)
  tbls : ∀ b ps, H b = some (.tbl ps) → ∃ more, H' b = some (.tbl (ps ++ more))
section
variable {fs fs' ex ex' : List Addr} {H H1 H2 : Hp} {h h1 h2 h' : Heap} {a x e : Addr} {o : HO}
theorem Un.any (u : Un fs ex H H1 h h1) {b : Addr} {ob : Obj} (q : h.get? b = some ob) (n : H b = none) (hx : b ∉ ex) : ∃ sl, h1.get? b = some { ob with slots := sl } := by
  by_cases hb : b ∈ fs
  · exact u.slot b ob q n hb hx
  · exact ⟨ob.slots, u.keep b ob q n hb hx⟩
theorem Un.kept (k : ∀ b u, h.get? b = some u → h'.get? b = some u) : Un fs ex H H h h' :=
  ⟨fun b ob q _ _ _ => k b ob q, fun b ob q _ _ _ => ⟨ob.slots, k b ob q⟩, fun _ _ _ n _ => n, fun b ob q _ => ⟨ob, k b ob q⟩, fun _ _ q => q, fun _ _ _ q => q, fun _ ps q => ⟨#[], by rw [q]; simp⟩⟩
theorem Un.refl : Un fs ex H H h h := Un.kept fun _ _ q => q
theorem Un.laid (k : ∀ b u, h.get? b = some u → h'.get? b = some u) (hp : h.objs.size ≤ a) (hn : H a = none) : Un fs ex H (upd H a o) h h' where
  keep := fun b u q _ _ _ => k b u q
  slot := fun b u q _ _ _ => ⟨u.slots, k b u q⟩
  free := fun b u q n _ => by rw [zay (Nat.ne_of_lt (Nat.lt_of_lt_of_le (Heap.lt_size q) hp))]; exact n
  there := fun b u q _ => ⟨u, k b u q⟩
  tups := fun b xs q => by rw [zay (zbz q hn)]; exact q
  frzs := fun b u xs q => by rw [zay (zbz q hn)]; exact q
  tbls := fun b ps q => ⟨#[], by rw [zay (zbz q hn), q]; simp⟩
theorem Un.write (mu : Mut (H x)) (he : e = x ∨ H e = some (.own x)) (k : ∀ b u, b ≠ e → h.get? b = some u → h'.get? b = some u) (heo : ∃ u, h'.get? e = some u) : Un fs ex H (upd H x o) h h' := by
  have hx : ∀ b, H b = none → b ≠ x := fun b n z => by subst z; rw [n] at mu; exact mu
  have hb : ∀ b, H b = none → b ≠ e := fun b n z => by
    subst z
    rcases he with r | r
    · exact hx b n r
    · rw [n] at r; cases r
  have hm : ∀ b u, H b = some u → ¬ Mut (some u) → b ≠ x := fun b u q nm z => by subst z; rw [q] at mu; exact nm mu
  refine ⟨fun b u q n _ _ => k b u (hb b n) q, fun b u q n _ _ => ⟨u.slots, k b u (hb b n) q⟩, fun b u q n _ => by rw [zay (hx b n)]; exact n, fun b u q _ => ?_,
    fun b xs q => by rw [zay (hm b _ q fun z => z)]; exact q, fun b u xs q => by rw [zay (hm b _ q fun z => z)]; exact q, fun b ps q => ⟨#[], by rw [zay (hm b _ q fun z => z), q]; simp⟩⟩
  by_cases hbe : b = e
  · subst hbe; exact heo
  · exact ⟨u, k b u hbe q⟩
end
noncomputable def trk (h : Heap) (H : Hp) : List Addr := (List.range h.objs.size).filter fun a => (H a).isSome
noncomputable def hidT (h : Heap) (H : Hp) : Heap := PySem.W.hideAll h (trk h H)
theorem zvx (h : Heap) (H : Hp) : (hidT h H).objs.size = h.objs.size := PySem.W.hideAll_size _ _
theorem zaaa {h : Heap} {H : Hp} {b : Addr} {o : Obj} (e : h.get? b = some o) (n : H b = none) : (hidT h H).get? b = some o :=
  PySem.W.hideAll_get _ e fun hm => by
    have q : (H b).isSome = true := (List.mem_filter.mp hm).2
    rw [n] at q; simp at q
theorem zadw {h : Heap} {H : Hp} {b : Addr} {o : Obj} (e : (hidT h H).get? b = some o) : h.get? b = some o ∧ H b = none := by
  have e' : h.get? b = some o := PySem.W.of_hideAll (trk h H) e
  refine ⟨e', ?_⟩
  cases q : H b with
  | none => rfl
  | some x =>
    have hm : b ∈ trk h H := List.mem_filter.mpr ⟨List.mem_range.mpr (Heap.lt_size e'), by simp [q]⟩
    have z : (hidT h H).get? b = none := PySem.W.hideAll_none (trk h H) hm
    rw [z] at e; cases e
end L2
namespace L2
open PySem PySem.Spec PyProof.Rows
set_option genInjectivity false in
structure Mod (K : PySem.W.Frag) (mg : Str → Option Value) (base : Heap) : Prop where
  kin : K.In base
  glob : base.Ns mainGlobals mg
  blt : ∃ mb, base.Ns builtinsNs mb ∧ ∀ x : Str, x ≠ "__name__" → mb x = bootBuiltins x
  nolimit : base.NoLimit
set_option genInjectivity false in
structure Cx where
  prog : Program
  w : World
  K : PySem.W.Frag
  mg : Str → Option Value
  base : Heap
  A : Around
  N : List Str
  s₀ : Shared
  H₀ : Hp
  env : Env
  outer : List Env
  stack : List Env
  ex : List Addr
  fn : Str → Bool
  calm : Bool
  pn : List (Addr × Obj)
  xe : Value → Shared → Prop
noncomputable def frs (l : List Env) : List Addr := l.filterMap (·.frame)
noncomputable abbrev Cx.fs (X : Cx) : List Addr := frs X.outer
noncomputable def Vis (sc : Scope) (x : Str) : Prop := sc.names.lookup x = some .local ∨ sc.names.lookup x = some .cell ∨ sc.names.lookup x = some .free
noncomputable def visB (sc : Scope) (x : Str) : Bool := match sc.names.lookup x with
  | some .local => true
  | some .cell => true
  | some .free => true
  | _ => false
theorem visB.of {sc : Scope} {x : Str} (h : visB sc x = true) : Vis sc x := by
  unfold visB at h
  cases e : sc.names.lookup x with
  | none => rw [e] at h; cases h
  | some k => rw [e] at h; cases k <;> first | exact .inl e | exact .inr (.inl e) | exact .inr (.inr e) | cases h
noncomputable def Loc (sc : Scope) (x : Str) : Prop := sc.names.lookup x = some .local ∨ sc.names.lookup x = some .cell
noncomputable def Look (env : Env) (h : Heap) (m : Str → Option Value) (x : Str) (u : Value) : Prop :=
  (env.kindOf x = some .local ∧ m x = some u) ∨ ((env.kindOf x = some .cell ∨ env.kindOf x = some .free) ∧ ∃ c, env.cells.lookup x = some c ∧ h.IsCell c (some u))
set_option genInjectivity false in
structure Cx.Ok (X : Cx) : Prop where
  mod : Mod X.K X.mg X.base
  kind : X.env.scope.kind = .function
  glob : X.env.globals = mainGlobals
  blt : X.env.builtins = builtinsNs
  above : X.s₀.heap.objs.size ≤ X.env.locals
  inj : ∀ x y c, X.env.cells.lookup x = some c → X.env.cells.lookup y = some c → x = y
  has : ∀ x, (X.env.kindOf x = some .cell ∨ X.env.kindOf x = some .free) → ∃ c, X.env.cells.lookup x = some c
  cab : ∀ x c, X.fn x = true → X.env.cells.lookup x = some c → X.s₀.heap.objs.size ≤ c
  hd : X.calm = true → X.A.handled = none
  frames : X.A.frames = some X.stack
  stk : X.stack = X.outer ∨ (X.stack = X.env :: X.outer ∧ X.env.frame = some X.env.locals)
  exf : ∀ b ∈ X.ex, b ≠ X.env.locals ∧ ∀ x c, X.env.cells.lookup x = some c → c ≠ b
  bs : ∀ b o, X.base.get? b = some o → X.s₀.heap.get? b = some o ∧ X.H₀ b = none
  bsz : X.base.objs.size ≤ X.s₀.heap.objs.size
  noex : ∀ b o, X.base.get? b = some o → b ∉ X.ex
  exfs : ∀ b ∈ X.ex, b ∉ X.fs
  funs : X.s₀.heap.FunFrames X.base X.outer
  frf : ∀ b ∈ X.fs, X.H₀ b = none
set_option genInjectivity false in
structure Inv (X : Cx) (pins : List (Addr × Obj)) (σ : List (Option V)) (H : Hp) (s : Shared) : Prop where
  ok : X.Ok
  os : s.os = X.s₀.os
  bare : AllBare s.gens
  base : Un X.fs X.ex X.H₀ H X.s₀.heap s.heap
  loc : ∃ m, s.heap.Ns X.env.locals m ∧ ∀ (i : Nat) (x : Str) (v : V), X.N[i]? = some x → σ[i]? = some (some v) → Vis X.env.scope x → ∃ u, RelV v u ∧ Look X.env s.heap m x u
  cell : ∀ x c, X.env.cells.lookup x = some c → ∃ v, s.heap.IsCell c v
  free : H X.env.locals = none
  freeC : ∀ x c, X.env.cells.lookup x = some c → H c = none
  pin : ∀ p ∈ X.pn ++ pins, s.heap.get? p.1 = some p.2 ∧ H p.1 = none ∧ p.1 ≠ X.env.locals ∧ p.1 ∉ X.fs ∧ ∀ v, p.2.data ≠ .cell v
  hok : HOk X.prog X.w H s.heap
  len : σ.length = X.N.length
section
variable {X : Cx} {pins : List (Addr × Obj)} {σ : List (Option V)} {H H' : Hp} {s : Shared} {h' : Heap}
theorem Cx.Ok.nofr (ok : X.Ok) {b : Addr} {o : Obj} (e : X.base.get? b = some o) : b ∉ X.fs := fun hb => by
  have := (ok.funs.mem hb).1
  rw [e] at this; cases this
theorem Inv.bs (I : Inv X pins σ H s) : ∀ b o, X.base.get? b = some o → s.heap.get? b = some o ∧ H b = none := fun b o e =>
  ⟨I.base.keep b o (I.ok.bs b o e).1 (I.ok.bs b o e).2 (I.ok.nofr e) (I.ok.noex b o e), I.base.free b o (I.ok.bs b o e).1 (I.ok.bs b o e).2 (I.ok.noex b o e)⟩
theorem Inv.bk (I : Inv X pins σ H s) : ∀ b o, X.base.get? b = some o → s.heap.get? b = some o := fun b o e => (I.bs b o e).1
theorem Inv.mod (I : Inv X pins σ H s) : Mod X.K X.mg X.base := I.ok.mod
theorem Inv.kIn (I : Inv X pins σ H s) : X.K.In s.heap := I.ok.mod.kin.keeps I.bk
theorem Inv.fr (I : Inv X pins σ H s) : ∃ m, Fr X.base X.env.locals s.heap m :=
  let ⟨m, hn, _⟩ := I.loc
  ⟨m, hn, I.bk, Nat.le_trans I.ok.bsz I.ok.above⟩
theorem Inv.lt (I : Inv X pins σ H s) : X.env.locals < s.heap.objs.size := let ⟨_, hn, _⟩ := I.loc; hn.lt
theorem Inv.sz (I : Inv X pins σ H s) : X.s₀.heap.objs.size ≤ s.heap.objs.size := Nat.le_trans I.ok.above (Nat.le_of_lt I.lt)
theorem Inv.nofs (I : Inv X pins σ H s) {a : Addr} (h : s.heap.objs.size ≤ a) : a ∉ X.fs := fun hb => by
  obtain ⟨_, o, ho, _⟩ := I.ok.funs.mem hb
  exact absurd (Nat.lt_of_lt_of_le (Heap.lt_size ho) (Nat.le_trans I.sz h)) (Nat.lt_irrefl _)
theorem Inv.cne (I : Inv X pins σ H s) : ∀ x c, X.env.cells.lookup x = some c → c ≠ X.env.locals := fun x c e z => by
  obtain ⟨v, o, ho, hd⟩ := I.cell x c e
  obtain ⟨m, ⟨o', es, ep, ho', hd', _⟩, _⟩ := I.loc
  rw [z, ho'] at ho; cases ho; rw [hd'] at hd; cases hd
theorem Inv.funs (I : Inv X pins σ H s) : s.heap.FunFrames X.base X.outer := by
  have all : ∀ (l : List Env), (∀ b ∈ frs l, b ∈ X.fs) → X.s₀.heap.FunFrames X.base l → s.heap.FunFrames X.base l := by
    intro l
    induction l with
    | nil => intro _ _; trivial
    | cons env r ih =>
      intro hs hl
      obtain ⟨hk, ⟨L, o, hf, hn, ho, hd⟩, hr⟩ := hl
      have hL : L ∈ X.fs := hs L (by unfold frs; rw [List.filterMap_cons, hf]; exact List.mem_cons_self)
      obtain ⟨sl, e⟩ := I.base.slot L o ho (I.ok.frf L hL) hL fun z => I.ok.exfs L z hL
      exact ⟨hk, ⟨L, _, hf, hn, e, hd⟩, ih (fun b hb => hs b (by unfold frs; rw [List.filterMap_cons, hf]; exact List.mem_cons_of_mem _ hb)) hr⟩
  exact all X.outer (fun _ hb => hb) I.ok.funs
theorem Inv.stack (I : Inv X pins σ H s) : s.heap.FunFrames X.base X.stack := by
  rcases I.ok.stk with e | ⟨e, hf⟩
  · rw [e]; exact I.funs
  · rw [e]
    obtain ⟨m, hn, _⟩ := I.loc
    refine .cons (by rw [I.ok.kind]; decide) hf hn ?_ I.funs
    exact Heap.get?_none_of_le (Nat.le_trans I.ok.bsz I.ok.above)
theorem Inv.stkSub (I : Inv X pins σ H s) : ∀ b ∈ frs X.stack, b ∈ X.env.locals :: X.fs := fun b hb => by
  rcases I.ok.stk with e | ⟨e, hf⟩
  · rw [e] at hb; exact List.mem_cons_of_mem _ hb
  · rw [e] at hb
    unfold frs at hb
    rw [List.filterMap_cons, hf] at hb
    exact hb
theorem Inv.stkFree (I : Inv X pins σ H s) : ∀ b ∈ frs X.stack, H b = none := fun b hb => by
  rcases List.mem_cons.mp (I.stkSub b hb) with e | hb
  · rw [e]; exact I.free
  · obtain ⟨_, o, ho, _⟩ := I.ok.funs.mem hb
    exact I.base.free b o ho (I.ok.frf b hb) fun z => I.ok.exfs b z hb
theorem Inv.step {g' : Array GenState} {t' : Nat} {d' : Drawn} {ch : List Addr} (I : Inv X pins σ H s)
    (hch : ∀ b ∈ ch, (b ∈ X.ex ∨ X.s₀.heap.objs.size ≤ b) ∧ b ≠ X.env.locals ∧ (∀ x c, X.env.cells.lookup x = some c → c ≠ b) ∧ ∀ p ∈ X.pn ++ pins, p.1 ≠ b)
    (keep : ∀ b o, b ≠ X.env.locals → b ∉ X.fs → b ∉ ch → s.heap.get? b = some o → H b = none → h'.get? b = some o)
    (slot : ∀ b o, b ≠ X.env.locals → b ∈ X.fs → b ∉ ch → s.heap.get? b = some o → H b = none → ∃ sl, h'.get? b = some { o with slots := sl }) (free : ∀ b o, b ∉ ch → s.heap.get? b = some o → H b = none → H' b = none)
    (there : ∀ b o, b ∉ ch → s.heap.get? b = some o → ∃ o', h'.get? b = some o')
    (tups : ∀ b xs, H b = some (.tup xs) → H' b = some (.tup xs)) (frzs : ∀ b o u, H b = some (.frz o u) → H' b = some (.frz o u)) (tbls : ∀ b ps, H b = some (.tbl ps) → ∃ more, H' b = some (.tbl (ps ++ more)))
    (ns : ∀ m, s.heap.Ns X.env.locals m → h'.Ns X.env.locals m) (hok : HOk X.prog X.w H' h') (hg : AllBare g') :
    Inv X pins σ H' { s with heap := h', gens := g', drawn := d', toks := t' } := by
  have neL : ∀ b o, X.s₀.heap.get? b = some o → b ≠ X.env.locals := fun b o e => Nat.ne_of_lt (Nat.lt_of_lt_of_le (Heap.lt_size e) I.ok.above)
  have neC : ∀ b o, X.s₀.heap.get? b = some o → b ∉ X.ex → b ∉ ch := fun b o e hx hb => by
    rcases (hch b hb).1 with z | z
    · exact hx z
    · exact absurd (Nat.lt_of_lt_of_le (Heap.lt_size e) z) (Nat.lt_irrefl _)
  have cellK : ∀ x c, X.env.cells.lookup x = some c → ∀ v, s.heap.IsCell c v → h'.IsCell c v := fun x c e v ⟨o, ho, hd⟩ => by
    have nch : c ∉ ch := fun z => (hch c z).2.2.1 x c e rfl
    by_cases hc : c ∈ X.fs
    · obtain ⟨sl, q⟩ := slot c o (I.cne x c e) hc nch ho (I.freeC x c e)
      exact ⟨_, q, hd⟩
    · exact ⟨o, keep c o (I.cne x c e) hc nch ho (I.freeC x c e), hd⟩
  refine ⟨I.ok, I.os, hg, ⟨fun b o e n hb hx => ?_, fun b o e n hb hx => ?_, fun b o e n hx => ?_, fun b o e hx => ?_, fun b xs e => tups b xs (I.base.tups b xs e), fun b o xs e => frzs b o xs (I.base.frzs b o xs e), fun b ps e => ?_⟩, ?_, fun x c e => ?_, ?_, fun x c e => ?_, fun p hp => ?_, hok, I.len⟩
  · exact keep b o (neL b o e) hb (neC b o e hx) (I.base.keep b o e n hb hx) (I.base.free b o e n hx)
  · obtain ⟨sl, e1⟩ := I.base.slot b o e n hb hx
    obtain ⟨sl', e2⟩ := slot b _ (neL b o e) hb (neC b o e hx) e1 (I.base.free b o e n hx)
    exact ⟨sl', e2⟩
  · obtain ⟨o', e1⟩ := I.base.there b o e hx
    exact free b o' (neC b o e hx) e1 (I.base.free b o e n hx)
  · obtain ⟨o', e1⟩ := I.base.there b o e hx
    exact there b o' (neC b o e hx) e1
  · obtain ⟨m1, e1⟩ := I.base.tbls b ps e
    obtain ⟨m2, e2⟩ := tbls b _ e1
    exact ⟨m1 ++ m2, by rw [e2, Array.append_assoc]⟩
  · obtain ⟨m, hn, hl⟩ := I.loc
    refine ⟨m, ns m hn, fun i x v e1 e2 e3 => ?_⟩
    obtain ⟨u, r, l⟩ := hl i x v e1 e2 e3
    refine ⟨u, r, ?_⟩
    rcases l with l | ⟨k, c, e, z⟩
    · exact .inl l
    · exact .inr ⟨k, c, e, cellK x c e _ z⟩
  · obtain ⟨v, z⟩ := I.cell x c e
    exact ⟨v, cellK x c e v z⟩
  · obtain ⟨m, ⟨o, _, _, ho, _⟩, _⟩ := I.loc
    exact free _ o (fun z => (hch _ z).2.1 rfl) ho I.free
  · obtain ⟨v, o, ho, hd⟩ := I.cell x c e
    exact free c o (fun z => (hch c z).2.2.1 x c e rfl) ho (I.freeC x c e)
  · obtain ⟨e, n, ne, nf, d⟩ := I.pin p hp
    have nch : p.1 ∉ ch := fun z => (hch p.1 z).2.2.2 p hp rfl
    exact ⟨keep p.1 p.2 ne nf nch e n, free p.1 p.2 nch e n, ne, nf, d⟩
theorem Inv.un {t' : Nat} (I : Inv X pins σ H s) (u : Un X.fs [] H H' s.heap h') (hok : HOk X.prog X.w H' h') : Inv X pins σ H' { s with heap := h', toks := t' } := by
  obtain ⟨m, ⟨o, es, ep, ho, r⟩, _⟩ := id I.loc
  obtain ⟨sl, hL⟩ := u.any ho I.free (by simp)
  exact I.step (g' := s.gens) (d' := s.drawn) (ch := []) (fun _ z => nomatch z) (fun b o _ hb _ e n => u.keep b o e n hb (by simp)) (fun b o _ hb _ e n => u.slot b o e n hb (by simp)) (fun b o _ e n => u.free b o e n (by simp)) (fun b o _ e => u.there b o e (by simp)) u.tups u.frzs u.tbls (fun m' hm => by
    obtain ⟨o', es', ep', ho', r'⟩ := hm
    rw [ho] at ho'; cases ho'
    exact ⟨_, es', ep', hL, r'⟩) hok I.bare
theorem Inv.call {g' : Array GenState} {t' : Nat} {d' : Drawn} {ch : List Addr} (I : Inv X pins σ H s) (u : Un (frs X.stack) ch H H' s.heap h') (hok : HOk X.prog X.w H' h') (hg : AllBare g')
    (hch : ∀ b ∈ ch, (b ∈ X.ex ∨ X.s₀.heap.objs.size ≤ b) ∧ b ≠ X.env.locals ∧ (∀ x c, X.env.cells.lookup x = some c → c ≠ b) ∧ ∀ p ∈ X.pn ++ pins, p.1 ≠ b) :
    Inv X pins σ H' { s with heap := h', gens := g', drawn := d', toks := t' } := by
  obtain ⟨m, ⟨o, es, ep, ho, r⟩, _⟩ := id I.loc
  obtain ⟨sl, hL⟩ := u.any ho I.free fun z => (hch _ z).2.1 rfl
  exact I.step (ch := ch) hch (fun b o hL hb hc e n => u.keep b o e n (fun z => (List.mem_cons.mp (I.stkSub b z)).elim hL hb) hc) (fun b o _ _ hc e n => u.any e n hc) (fun b o hc e n => u.free b o e n hc) (fun b o hc e => u.there b o e hc) u.tups u.frzs u.tbls (fun m' hm => by
    obtain ⟨o', es', ep', ho', r'⟩ := hm
    rw [ho] at ho'; cases ho'
    exact ⟨_, es', ep', hL, r'⟩) hok hg
theorem Inv.turned {t' : Nat} {it : Addr} (I : Inv X pins σ H s) (k : ∀ b o, b ≠ it → s.heap.get? b = some o → h'.get? b = some o) (hn : H it = none) (hL : it ≠ X.env.locals)
    (h1 : it ∈ X.ex ∨ X.s₀.heap.objs.size ≤ it) (h2 : ∀ x c, X.env.cells.lookup x = some c → c ≠ it) (h3 : ∀ p ∈ X.pn ++ pins, p.1 ≠ it) : Inv X pins σ H { s with heap := h', toks := t' } := by
  have nit : ∀ b u, H b = some u → b ≠ it := fun b u e z => by rw [z, hn] at e; cases e
  refine I.step (g' := s.gens) (d' := s.drawn) (ch := [it]) (fun b hb => ?_) (fun b o _ _ hc e _ => k b o (fun z => hc (by simp [z])) e) (fun b o _ _ hc e _ => ⟨o.slots, k b o (fun z => hc (by simp [z])) e⟩) (fun _ _ _ _ n => n)
    (fun b o hc e => ⟨o, k b o (fun z => hc (by simp [z])) e⟩) (fun _ _ e => e) (fun _ _ _ e => e) (fun b ps e => ⟨#[], by rw [e]; simp⟩) (fun m hm => ?_) (fun b u e => ?_) I.bare
  · have e : b = it := by simpa using hb
    subst e
    exact ⟨h1, hL, h2, h3⟩
  · obtain ⟨o, es, ep, ho, r⟩ := hm
    exact ⟨o, es, ep, k _ o (Ne.symm hL) ho, r⟩
  · refine (I.hok b u e).stay (fun c v hc q => k c v ?_ q) (fun _ q => q) fun _ _ q => q
    rcases hc with z | z
    · rw [z]; exact nit b u e
    · exact nit c _ z
theorem Inv.tok (I : Inv X pins σ H s) (t : Nat) : Inv X pins σ H { s with toks := t } := I.un (h' := s.heap) (t' := t) Un.refl I.hok
theorem Inv.kept {t' : Nat} (I : Inv X pins σ H s) (k : ∀ b u, s.heap.get? b = some u → h'.get? b = some u) : Inv X pins σ H { s with heap := h', toks := t' } := I.un (Un.kept k) (I.hok.kept k)
theorem Inv.laid {a : Addr} {o : HO} {t' : Nat} (I : Inv X pins σ H s) (k : ∀ b u, s.heap.get? b = some u → h'.get? b = some u) (hp : s.heap.objs.size ≤ a) (new : zeb X.prog X.w (upd H a o) h' a o) :
    Inv X pins σ (upd H a o) { s with heap := h', toks := t' } := I.un (Un.laid k hp (I.hok.fresh hp)) (I.hok.laid k hp new)
theorem Inv.write {x e : Addr} {o : HO} {t' : Nat} (I : Inv X pins σ H s) (mu : Mut (H x)) (he : e = x ∨ H e = some (.own x)) (k : ∀ b u, b ≠ e → s.heap.get? b = some u → h'.get? b = some u) (heo : ∃ u, h'.get? e = some u)
    (new : zeb X.prog X.w (upd H x o) h' x o) : Inv X pins σ (upd H x o) { s with heap := h', toks := t' } := I.un (Un.write mu he k heo) (I.hok.write mu he k heo new)
theorem Inv.pins_of {pins' : List (Addr × Obj)} (I : Inv X pins σ H s) (h : ∀ p ∈ pins', s.heap.get? p.1 = some p.2 ∧ H p.1 = none ∧ p.1 ≠ X.env.locals ∧ p.1 ∉ X.fs ∧ ∀ v, p.2.data ≠ .cell v) : Inv X pins' σ H s :=
  ⟨I.ok, I.os, I.bare, I.base, I.loc, I.cell, I.free, I.freeC, fun p hp => (List.mem_append.mp hp).elim (fun z => I.pin p (List.mem_append_left _ z)) (h p), I.hok, I.len⟩
theorem znz {N : List Str} (hN : N.Nodup) {i j : Nat} {x : Str} (a : N[i]? = some x) (b : N[j]? = some x) : i = j := by
  obtain ⟨h1, e1⟩ := List.getElem?_eq_some_iff.mp a
  obtain ⟨h2, e2⟩ := List.getElem?_eq_some_iff.mp b
  exact (List.getElem_inj hN).mp (e1.trans e2.symm)
theorem zpo {M : Model} {A : Around} {E : Value → Shared → Prop} {i : Nat} {x : Str} {v : V} {u : Value} {Q : Unit → Shared → Prop} (I : Inv X pins σ H s) (hN : X.N.Nodup) (hi : X.N[i]? = some x) (hx : Loc X.env.scope x) (r : RelV v u)
    (h : ∀ s', Inv X pins (σ.set i (some v)) H s' → (∃ a, Heap.SameBut a s.heap s'.heap ∧ (a = X.env.locals ∨ X.env.cells.lookup x = some a)) → Q () s') (hf : X.fn x = true ∨ X.env.scope.names.lookup x = some .local := by assumption) : wpAny M A (storeName X.env x u) Q E s := by
  obtain ⟨m, hn, hl⟩ := id I.loc
  have hcls : (X.env.scope.kind == .class || (X.env.scope.kind == .module && X.env.locals != X.env.globals)) = false := by rw [I.ok.kind]; rfl
  have hiσ : i < σ.length := by rw [I.len]; exact (List.getElem?_eq_some_iff.mp hi).1
  have cne := I.cne
  have tracked : ∀ {a : Addr} {h' : Heap}, (∃ o, s.heap.get? a = some o ∧ H a = none) → Heap.SameBut a s.heap h' → HOk X.prog X.w H h' := fun {a h'} ha hs b ob e => by
    obtain ⟨_, _, hfree⟩ := ha
    refine (I.hok b ob e).stay (fun c w' hc q => (hs.2 c ?_).trans q) (fun _ q => q) fun _ _ q => q
    rintro rfl
    rcases hc with rfl | hc
    · rw [hfree] at e; cases e
    · rw [hfree] at hc; cases hc
  rcases hx with hk | hk
  · refine wpAny_storeName_local hk hn (fun h' hn' hs => ?_) hcls
    obtain ⟨oL, _, _, hoL, _⟩ := id hn
    refine h _ ⟨I.ok, I.os, I.bare, ⟨fun b o e n hb hx => ?_, fun b o e n hb hx => ?_, I.base.free, fun b o e hx => ?_, I.base.tups, I.base.frzs, I.base.tbls⟩, ⟨_, hn', fun j y v' e1 e2 e3 => ?_⟩, fun y c e => ?_, I.free, I.freeC, fun p hp => ?_, tracked ⟨oL, hoL, I.free⟩ hs, by simpa using I.len⟩ ⟨_, hs, .inl rfl⟩
    · exact (hs.2 b (Nat.ne_of_lt (Nat.lt_of_lt_of_le (Heap.lt_size e) I.ok.above))).trans (I.base.keep b o e n hb hx)
    · obtain ⟨sl, e1⟩ := I.base.slot b o e n hb hx
      exact ⟨sl, (hs.2 b (Nat.ne_of_lt (Nat.lt_of_lt_of_le (Heap.lt_size e) I.ok.above))).trans e1⟩
    · obtain ⟨o', e1⟩ := I.base.there b o e hx
      exact ⟨o', (hs.2 b (Nat.ne_of_lt (Nat.lt_of_lt_of_le (Heap.lt_size e) I.ok.above))).trans e1⟩
    · by_cases hj : j = i
      · subst hj
        rw [hi] at e1; cases e1
        rw [List.getElem?_set_self hiσ] at e2
        cases e2
        exact ⟨u, r, .inl ⟨hk, by simp⟩⟩
      · rw [List.getElem?_set_ne (Ne.symm hj)] at e2
        obtain ⟨u', r', q⟩ := hl j y v' e1 e2 e3
        refine ⟨u', r', ?_⟩
        rcases q with ⟨k, e⟩ | ⟨k, c, e, z⟩
        · refine .inl ⟨k, ?_⟩
          have : y ≠ x := fun e => hj (znz hN e1 (e ▸ hi))
          simp [this, e]
        · exact .inr ⟨k, c, e, z.sameBut hs (cne y c e)⟩
    · obtain ⟨w', z⟩ := I.cell y c e
      exact ⟨w', z.sameBut hs (cne y c e)⟩
    · obtain ⟨e, n, ne, nf, d⟩ := I.pin p hp
      exact ⟨(hs.2 p.1 ne).trans e, n, ne, nf, d⟩
  · have hfn : X.fn x = true := by
      rcases hf with z | z
      · exact z
      · rw [z] at hk; cases hk
    obtain ⟨c, hc⟩ := I.ok.has x (.inl hk)
    obtain ⟨w', z⟩ := I.cell x c hc
    refine wpAny_storeName_cell I.ok.kind hk hc z (fun h' hc' hs => ?_)
    obtain ⟨oc, hoc, hocd⟩ := id z
    refine h { s with heap := h' } ⟨I.ok, I.os, I.bare, ⟨fun b o e n hb hx => ?_, fun b o e n hb hx => ?_, I.base.free, fun b o e hx => ?_, I.base.tups, I.base.frzs, I.base.tbls⟩, ⟨m, hn.sameBut hs (Ne.symm (cne x c hc)), fun j y v' e1 e2 e3 => ?_⟩, fun y c' e => ?_, I.free, I.freeC, fun p hp => ?_, tracked ⟨oc, hoc, I.freeC x c hc⟩ hs, by simpa using I.len⟩ ⟨c, hs, .inr hc⟩
    · exact (hs.2 b (Nat.ne_of_lt (Nat.lt_of_lt_of_le (Heap.lt_size e) (I.ok.cab x c hfn hc)))).trans (I.base.keep b o e n hb hx)
    · obtain ⟨sl, e1⟩ := I.base.slot b o e n hb hx
      exact ⟨sl, (hs.2 b (Nat.ne_of_lt (Nat.lt_of_lt_of_le (Heap.lt_size e) (I.ok.cab x c hfn hc)))).trans e1⟩
    · obtain ⟨o', e1⟩ := I.base.there b o e hx
      exact ⟨o', (hs.2 b (Nat.ne_of_lt (Nat.lt_of_lt_of_le (Heap.lt_size e) (I.ok.cab x c hfn hc)))).trans e1⟩
    · by_cases hj : j = i
      · subst hj
        rw [hi] at e1; cases e1
        rw [List.getElem?_set_self hiσ] at e2
        cases e2
        exact ⟨u, r, .inr ⟨.inl hk, c, hc, hc'⟩⟩
      · rw [List.getElem?_set_ne (Ne.symm hj)] at e2
        obtain ⟨u', r', q⟩ := hl j y v' e1 e2 e3
        refine ⟨u', r', ?_⟩
        rcases q with q | ⟨k, c', e, z'⟩
        · exact .inl q
        · refine .inr ⟨k, c', e, z'.sameBut hs ?_⟩
          rintro rfl
          exact hj (znz hN e1 (I.ok.inj _ _ _ e hc ▸ hi))
    · by_cases hcc : c' = c
      · subst hcc; exact ⟨_, hc'⟩
      · obtain ⟨w2, z2⟩ := I.cell y c' e
        exact ⟨w2, z2.sameBut hs hcc⟩
    · obtain ⟨e, n, ne, nf, d⟩ := I.pin p hp
      refine ⟨(hs.2 p.1 ?_).trans e, n, ne, nf, d⟩
      intro q
      rw [q, hoc] at e
      have q' : oc = p.2 := Option.some.inj e
      exact d w' (by rw [← q']; exact hocd)
theorem zlg {M : Model} {A : Around} {E : Value → Shared → Prop} {i : Nat} {x : Str} {v : V} {u : Value} {Q : Unit → Shared → Prop} (I : Inv X pins σ H s) (hN : X.N.Nodup) (hi : X.N[i]? = some x) (hx : Loc X.env.scope x) (r : RelV v u)
    (h : ∀ s', Inv X pins (σ.set i (some v)) H s' → Q () s') (hf : X.fn x = true ∨ X.env.scope.names.lookup x = some .local := by assumption) : wpAny M A (storeName X.env x u) Q E s :=
  zpo I hN hi hx r (fun s' I' _ => h s' I') hf
theorem Inv.call' {s' : Shared} {ch : List Addr} (I : Inv X pins σ H s) (ho : s'.os = s.os) (u : Un (frs X.stack) ch H H' s.heap s'.heap) (hok : HOk X.prog X.w H' s'.heap) (hg : AllBare s'.gens)
    (hch : ∀ b ∈ ch, (b ∈ X.ex ∨ X.s₀.heap.objs.size ≤ b) ∧ b ≠ X.env.locals ∧ (∀ x c, X.env.cells.lookup x = some c → c ≠ b) ∧ ∀ p ∈ X.pn ++ pins, p.1 ≠ b) : Inv X pins σ H' s' := by
  obtain ⟨h', g', d', t', o'⟩ := s'
  have e : o' = s.os := ho
  subst e
  exact I.call (g' := g') (t' := t') (d' := d') u hok hg hch
end
noncomputable abbrev XK := Value → Option Addr → Hp → Prop
noncomputable abbrev St := List (Option V)
noncomputable abbrev VK := V → Hp → Prop
noncomputable abbrev TE := St → Hp → VK → Prop
noncomputable abbrev TT := St → Hp → (Bool → Hp → Prop) → Prop
noncomputable abbrev TA := St → Hp → (List V → Hp → Prop) → Prop
set_option genInjectivity false in
structure Ends where
  nx : St → Hp → Prop
  rt : VK
  bk : St → Hp → Prop := fun _ _ => False
  ct : St → Hp → Prop := fun _ _ => False
noncomputable abbrev TS := Ends → St → Hp → Prop
noncomputable def EP (X : Cx) (pins : List (Addr × Obj)) (σ : St) (Q : VK) (u : Value) (s' : Shared) : Prop := ∃ v H', Inv X pins σ H' s' ∧ RelV v u ∧ Q v H'
noncomputable def TP (X : Cx) (pins : List (Addr × Obj)) (σ : St) (Q : Bool → Hp → Prop) (b : Bool) (s' : Shared) : Prop := ∃ H', Inv X pins σ H' s' ∧ Q b H'
noncomputable def AP (X : Cx) (pins : List (Addr × Obj)) (σ : St) (Q : List V → Hp → Prop) (us : List Value) (s' : Shared) : Prop := ∃ vs H', Inv X pins σ H' s' ∧ Vals vs us ∧ Q vs H'
noncomputable def SP (X : Cx) (pins : List (Addr × Obj)) (D : Ends) (f : Flow) (s' : Shared) : Prop :=
  match f with
  | .next => ∃ σ' H', Inv X pins σ' H' s' ∧ D.nx σ' H'
  | .brk => ∃ σ' H', Inv X pins σ' H' s' ∧ D.bk σ' H'
  | .cont => ∃ σ' H', Inv X pins σ' H' s' ∧ D.ct σ' H'
  | .ret u => ∃ v σ' H', Inv X pins σ' H' s' ∧ RelV v u ∧ D.rt v H'
noncomputable def PE (X : Cx) (e : Expr) (t : TE) : Prop :=
  ∀ (pins : List (Addr × Obj)) (s : Shared) (σ : St) (H : Hp) (Q : VK), Inv X pins σ H s → t σ H Q → wpAny (model X.prog X.w) X.A (eval e X.env) (EP X pins σ Q) X.xe s
noncomputable def PT (X : Cx) (e : Expr) (t : TT) : Prop :=
  ∀ (pins : List (Addr × Obj)) (s : Shared) (σ : St) (H : Hp) (Q : Bool → Hp → Prop), Inv X pins σ H s → t σ H Q → wpAny (model X.prog X.w) X.A (isTrue e X.env (eval e X.env)) (TP X pins σ Q) X.xe s
noncomputable def PW (X : Cx) (e : Expr) (t : TT) : Prop :=
  ∀ (whole : Sem Value) (pins : List (Addr × Obj)) (s : Shared) (σ : St) (H : Hp) (Q : Bool → Hp → Prop), Inv X pins σ H s → t σ H Q → wpAny (model X.prog X.w) X.A (isTrue e X.env whole) (TP X pins σ Q) X.xe s
theorem PW.pt {X : Cx} {e : Expr} {t : TT} (h : PW X e t) : PT X e t := h _
noncomputable def PA (X : Cx) (es : List Expr) (t : TA) : Prop :=
  ∀ (pos : Pos) (pins : List (Addr × Obj)) (s : Shared) (σ : St) (H : Hp) (Q : List V → Hp → Prop), Inv X pins σ H s → t σ H Q → wpAny (model X.prog X.w) X.A (spliced (backTo pos (starEach es X.env))) (AP X pins σ Q) X.xe s
noncomputable def PS (X : Cx) (st : Stmt) (t : TS) : Prop :=
  ∀ (pins : List (Addr × Obj)) (s : Shared) (σ : St) (H : Hp) (D : Ends), Inv X pins σ H s → t D σ H → wpAny (model X.prog X.w) X.A (exec st X.env) (SP X pins D) X.xe s
noncomputable def PSs (X : Cx) (st : List Stmt) (t : TS) : Prop :=
  ∀ (pins : List (Addr × Obj)) (s : Shared) (σ : St) (H : Hp) (D : Ends), Inv X pins σ H s → t D σ H → wpAny (model X.prog X.w) X.A (execs st X.env) (SP X pins D) X.xe s
theorem thn {α : Type} {t : Sem α} {Q Q' : α → Shared → Prop} {M : Model} {A : Around} {E : Value → Shared → Prop} {s : Shared} (h : wpAny M A t Q E s) (hQ : ∀ a s, Q a s → Q' a s) : wpAny M A t Q' E s := wpAny_mono h hQ fun _ _ x => x
end L2
namespace L2
open PySem PySem.Spec PyProof.Rows
section
variable {X : Cx}
theorem bin {a b : Expr} {ta tb : TE} (ha : PE X a ta) (hb : PE X b tb) {pins : List (Addr × Obj)} {s : Shared} {σ : St} {H : Hp} {R : V → V → Hp → Prop} (I : Inv X pins σ H s) (h : ta σ H fun x H1 => tb σ H1 fun y H2 => R x y H2)
    {α : Type} {Q : α → Shared → Prop} {f : Value → Value → Sem α}
    (hf : ∀ v u s2 x y H2, Inv X pins σ H2 s2 → RelV x v → RelV y u → R x y H2 → wpAny (model X.prog X.w) X.A (f v u) Q X.xe s2) :
    wpAny (model X.prog X.w) X.A (eval a X.env) (fun v s₁ => wpAny (model X.prog X.w) X.A (eval b X.env) (fun u s₂ => wpAny (model X.prog X.w) X.A (f v u) Q X.xe s₂) X.xe s₁) X.xe s := by
  refine thn (ha pins s σ H _ I h) fun v s1 ⟨x, H1, I1, r1, q1⟩ => ?_
  refine thn (hb pins s1 σ H1 _ I1 q1) fun u s2 ⟨y, H2, I2, r2, q2⟩ => ?_
  exact hf v u s2 x y H2 I2 r1 r2 q2
noncomputable def tVar (i : Nat) : TE := fun σ H Q => ∃ v, σ[i]? = some (some v) ∧ Q v H
noncomputable def tC (v : V) : TE := fun _ H Q => Q v H
theorem zaco {i : Nat} {x : Str} {pos : Pos} (hN : X.N[i]? = some x) (hv : Vis X.env.scope x) (hd : (x == ("__debug__" : Str)) = false := by decide) (hcd : (x == ("__classdict__" : Str)) = false := by decide) : PE X (.Name x pos) (tVar i) := by
  intro pins s σ H Q I h
  obtain ⟨v, e, h⟩ := h
  obtain ⟨m, hn, hl⟩ := I.loc
  obtain ⟨u, r, l⟩ := hl i x v hN e hv
  have fin : EP X pins σ Q u s := ⟨v, H, I, r, h⟩
  rcases l with ⟨hk, hm⟩ | ⟨hk, c, hc, hcell⟩
  · exact wpAny_Name (wpAny_loadName_local I.ok.kind hk hn hm fin) hd
  · rcases hk with hk | hk
    · exact wpAny_Name (wpAny_loadName_cell I.ok.kind hk hc hcell fin) hd
    · exact wpAny_Name (wpAny_loadName_free I.ok.kind hk hc hcell fin hcd) hd
theorem zfy {i j pos} : PE X (.Constant (.int i) j pos) (tC (.int i)) := fun _ _ _ H _ I h => wpAny_Constant_int ⟨.int i, H, I.tok _, ⟨_, rfl⟩, h⟩
theorem zakj {b j pos} : PE X (.Constant (.bool b) j pos) (tC (.bl b)) := fun _ _ _ H _ I h => Constant_bool ⟨.bl b, H, I, rfl, h⟩
theorem zahi {j pos} : PE X (.Constant .none j pos) (tC .non) := fun _ _ _ H _ I h => Constant_none ⟨.non, H, I, rfl, h⟩
theorem zahj {x j pos} : PE X (.Constant (.str x) j pos) (tC (.str x)) := fun _ _ _ H _ I h => Calls.Constant_str ⟨.str x, H, I.tok _, ⟨_, rfl⟩, h⟩
noncomputable def Gl (X : Cx) (x : Str) : Prop := X.env.kindOf x = some .globalImplicit
theorem zhh {E : Value → Shared → Prop} {pins : List (Addr × Obj)} {s : Shared} {σ : St} {H : Hp} {x : Str} {u : Value} {pos : Pos} {Q : Value → Shared → Prop} (I : Inv X pins σ H s) (hg : Gl X x) (hm : X.mg x = some u) (h : Q u s)
    (hd : (x == ("__debug__" : Str)) = false := by decide) : wpAny (model X.prog X.w) X.A (eval (.Name x pos) X.env) Q E s :=
  Calls.Name_function_global I.ok.kind hg (Calls.loadGlobal_global (by rw [I.ok.glob]; exact I.mod.glob.keeps I.bk) hm h) hd
theorem zkp {E : Value → Shared → Prop} {pins : List (Addr × Obj)} {s : Shared} {σ : St} {H : Hp} {x : Str} {u : Value} {pos : Pos} {Q : Value → Shared → Prop} (I : Inv X pins σ H s) (hg : Gl X x) (hm : X.mg x = none) (hv : bootBuiltins x = some u) (h : Q u s)
    (hn : x ≠ "__name__" := by decide) (hd : (x == ("__debug__" : Str)) = false := by decide) : wpAny (model X.prog X.w) X.A (eval (.Name x pos) X.env) Q E s := by
  obtain ⟨mb, h1, h2⟩ := I.mod.blt
  exact Calls.Name_function_global I.ok.kind hg (Calls.loadGlobal_builtin (by rw [I.ok.glob]; exact I.mod.glob.keeps I.bk) hm (by rw [I.ok.blt]; exact h1.keeps I.bk) ((h2 x hn).trans hv) h) hd
theorem zadx {x : Str} {v : V} {u : Value} {pos : Pos} (hg : Gl X x) (hm : X.mg x = some u) (r : RelV v u) (hd : (x == ("__debug__" : Str)) = false := by decide) : PE X (.Name x pos) (tC v) :=
  fun _ _ _ H _ I h => zhh I hg hm ⟨v, H, I, r, h⟩ hd
theorem zady {x : Str} {v : V} {u : Value} {pos : Pos} (hg : Gl X x) (hm : X.mg x = none) (hv : bootBuiltins x = some u) (r : RelV v u) (hn : x ≠ "__name__" := by decide) (hd : (x == ("__debug__" : Str)) = false := by decide) : PE X (.Name x pos) (tC v) :=
  fun _ _ _ H _ I h => zkp I hg hm hv ⟨v, H, I, r, h⟩ hn hd
variable {a b : Expr} {ta tb : TE} {pos : Pos}
noncomputable def tB (t : TE) : TT := fun σ H Q => t σ H fun x H1 => ∃ c, x = .bl c ∧ Q c H1
variable {tA tB' : TT} {rest : List Expr}
noncomputable def tAnd (t u : TT) : TT := fun σ H Q => t σ H fun c H1 => if c = true then u σ H1 Q else Q false H1
noncomputable def tOr (t u : TT) : TT := fun σ H Q => t σ H fun c H1 => if c = true then Q true H1 else u σ H1 Q
noncomputable def tNot (t : TT) : TT := fun σ H Q => t σ H fun c H1 => Q (!c) H1
theorem zadz (ha : PT X a tA) : PW X (.BoolOp .And [a] pos) tA := by
  intro wh pins s σ H Q I h
  refine isTrue_and (thn (ha pins s σ H Q I h) fun c s1 e => ?_)
  cases c with
  | true => exact isTrue_and_nil e
  | false => exact e
theorem zahk (ha : PT X a tA) : PW X (.BoolOp .Or [a] pos) tA := by
  intro wh pins s σ H Q I h
  refine isTrue_or (thn (ha pins s σ H Q I h) fun c s1 e => ?_)
  cases c with
  | false => exact isTrue_or_nil e
  | true => exact e
theorem zahl (ha : PT X a tA) (hb : PW X (.BoolOp .And (b :: rest) pos) tB') : PW X (.BoolOp .And (a :: b :: rest) pos) (tAnd tA tB') := by
  intro wh pins s σ H Q I h
  refine isTrue_and (thn (ha pins s σ H _ I h) fun c s1 ⟨H1, I1, q1⟩ => ?_)
  cases c with
  | true => exact hb wh pins s1 σ H1 Q I1 q1
  | false => exact ⟨H1, I1, q1⟩
theorem zakk (ha : PT X a tA) (hb : PW X (.BoolOp .Or (b :: rest) pos) tB') : PW X (.BoolOp .Or (a :: b :: rest) pos) (tOr tA tB') := by
  intro wh pins s σ H Q I h
  refine isTrue_or (thn (ha pins s σ H _ I h) fun c s1 ⟨H1, I1, q1⟩ => ?_)
  cases c with
  | true => exact ⟨H1, I1, q1⟩
  | false => exact hb wh pins s1 σ H1 Q I1 q1
theorem zahm (ha : PT X a tA) : PT X (.UnaryOp .Not a pos) (tNot tA) := by
  intro pins s σ H Q I h
  exact isTrue_not (ha pins s σ H (fun c H1 => Q (!c) H1) I h)
end
end L2
namespace L2
open PySem PySem.Spec PyProof.Rows
noncomputable def SqL (K : PySem.W.Frag) (H : Hp) (a : Addr) (xs : List V) : Prop :=
  Rd H a (.lst xs) ∨
    ∃ (o : Obj) (its : Array Value) (n : Nat), K.lookup a = some o ∧ o.cls = .type "list" ∧ o.dict = none ∧ o.data = .seq its n ∧ its.size ≤ sizeLine ∧ Vals xs its.toList
noncomputable def SqT (K : PySem.W.Frag) (H : Hp) (a : Addr) (xs : List V) : Prop :=
  Rd H a (.tup xs) ∨
    ∃ (o : Obj) (its : Array Value) (n : Nat), K.lookup a = some o ∧ o.cls = .type "tuple" ∧ o.data = .seq its n ∧ its.size ≤ sizeLine ∧ Vals xs its.toList
noncomputable def absV : Value → Option V
  | .none => some .non
  | .bool b => some (.bl b)
  | .int i _ => some (.int i)
  | .str x _ => some (.str x)
  | .bytes b _ => some (.byt b)
  | .float b _ => some (.flt b)
  | .ref a => some (.ref a)
  | .type n => some (.ty n)
  | _ => none
theorem RelV.abs {x : V} {u : Value} (r : RelV x u) : absV u = some x := by
  cases x with
  | non => cases r; rfl
  | bl _ => cases r; rfl
  | int _ => obtain ⟨t, rfl⟩ := r; rfl
  | str _ => obtain ⟨t, rfl⟩ := r; rfl
  | byt _ => obtain ⟨t, rfl⟩ := r; rfl
  | flt _ => obtain ⟨t, rfl⟩ := r; rfl
  | ref _ => cases r; rfl
  | ty _ => cases r; rfl
theorem RelV.inj {x y : V} {u : Value} (r : RelV x u) (q : RelV y u) : x = y := Option.some.inj (r.abs.symm.trans q.abs)
theorem Vals.inj : ∀ {xs ys : List V} {us : List Value}, Vals xs us → Vals ys us → xs = ys
  | _, _, _, .nil, .nil => rfl
  | _, _, _, .cons r t, .cons r' t' => by rw [r.inj r', Vals.inj t t']
section
variable {X : Cx} {pins : List (Addr × Obj)} {σ : St} {H : Hp} {s : Shared} {a : Addr} {xs ys : List V}
theorem SqL.of {K : PySem.W.Frag} (h : H a = some (.lst xs)) : SqL K H a xs := .inl (.inl h)
theorem SqT.of {K : PySem.W.Frag} (h : H a = some (.tup xs)) : SqT K H a xs := .inl (.inl h)
theorem Inv.list (I : Inv X pins σ H s) (h : SqL X.K H a xs) : ∃ its : List Value, Vals xs its ∧ PlainL s.heap a its.toArray ∧ xs.length ≤ sizeLine := by
  rcases h with h | ⟨o, its, n, hk, hc, hd, hs, hz, r⟩
  · obtain ⟨z, its, n, r, e⟩ := h.ok I.hok
    exact ⟨its, r, ⟨_, n, e, rfl, rfl, rfl⟩, z⟩
  · refine ⟨its.toList, r, ⟨o, n, I.kIn a o hk, hc, hd, by simpa using hs⟩, ?_⟩
    have e := r.length
    simp only [Array.length_toList] at e
    omega
theorem Inv.tuple (I : Inv X pins σ H s) (h : SqT X.K H a xs) : ∃ its : List Value, Vals xs its ∧ IsTup s.heap a its.toArray ∧ xs.length ≤ sizeLine := by
  rcases h with h | ⟨o, its, n, hk, hc, hs, hz, r⟩
  · obtain ⟨z, its, r, p⟩ := h.ok I.hok
    exact ⟨its, r, p, z⟩
  · refine ⟨its.toList, r, ⟨o, I.kIn a o hk, hc, n, by simpa using hs⟩, ?_⟩
    have e := r.length
    simp only [Array.length_toList] at e
    omega
theorem Inv.list_inj (I : Inv X pins σ H s) (h : SqL X.K H a xs) (h' : SqL X.K H a ys) : xs = ys := by
  obtain ⟨its, r, ⟨o, n, e, _, _, d⟩, _⟩ := I.list h
  obtain ⟨its', r', ⟨o', n', e', _, _, d'⟩, _⟩ := I.list h'
  rw [e] at e'; cases e'
  rw [d] at d'
  injection d' with d1 _
  have : its = its' := by simpa using congrArg Array.toList d1
  subst this
  exact r.inj r'
theorem Inv.tuple_inj (I : Inv X pins σ H s) (h : SqT X.K H a xs) (h' : SqT X.K H a ys) : xs = ys := by
  obtain ⟨its, r, ⟨o, e, _, n, d⟩, _⟩ := I.tuple h
  obtain ⟨its', r', ⟨o', e', _, n', d'⟩, _⟩ := I.tuple h'
  rw [e] at e'; cases e'
  rw [d] at d'
  injection d' with d1 _
  have : its = its' := by simpa using congrArg Array.toList d1
  subst this
  exact r.inj r'
end
noncomputable abbrev Cx.wish (X : Cx) (E : Value → Shared → Prop) : Cx := { X with xe := E }
noncomputable abbrev Cx.nox (X : Cx) : Cx := X.wish fun _ _ => False
theorem Cx.Ok.wish {X : Cx} (ok : X.Ok) (E : Value → Shared → Prop) : (X.wish E).Ok :=
  ⟨ok.mod, ok.kind, ok.glob, ok.blt, ok.above, ok.inj, ok.has, ok.cab, ok.hd, ok.frames, ok.stk, ok.exf, ok.bs, ok.bsz, ok.noex, ok.exfs, ok.funs, ok.frf⟩
theorem Cx.Ok.unwish {X : Cx} {E : Value → Shared → Prop} (ok : (X.wish E).Ok) : X.Ok :=
  ⟨ok.mod, ok.kind, ok.glob, ok.blt, ok.above, ok.inj, ok.has, ok.cab, ok.hd, ok.frames, ok.stk, ok.exf, ok.bs, ok.bsz, ok.noex, ok.exfs, ok.funs, ok.frf⟩
section
variable {X : Cx} {pins : List (Addr × Obj)} {σ : St} {H : Hp} {s : Shared} {E : Value → Shared → Prop}
theorem Inv.wish (I : Inv X pins σ H s) (E : Value → Shared → Prop) : Inv (X.wish E) pins σ H s := ⟨I.ok.wish E, I.os, I.bare, I.base, I.loc, I.cell, I.free, I.freeC, I.pin, I.hok, I.len⟩
theorem Inv.unwish (I : Inv (X.wish E) pins σ H s) : Inv X pins σ H s := ⟨I.ok.unwish, I.os, I.bare, I.base, I.loc, I.cell, I.free, I.freeC, I.pin, I.hok, I.len⟩
theorem SP.unwish {D : Ends} {f : Flow} {s' : Shared} (h : SP (X.wish E) pins D f s') : SP X pins D f s' := by
  cases f with
  | next => obtain ⟨σ', H', I, q⟩ := h; exact ⟨σ', H', I.unwish, q⟩
  | brk => obtain ⟨σ', H', I, q⟩ := h; exact ⟨σ', H', I.unwish, q⟩
  | cont => obtain ⟨σ', H', I, q⟩ := h; exact ⟨σ', H', I.unwish, q⟩
  | ret u => obtain ⟨v, σ', H', I, r, q⟩ := h; exact ⟨v, σ', H', I.unwish, r, q⟩
theorem PSs.nox {st : List Stmt} {t : TS} (h : PSs X.nox st t) : PSs X st t := fun pins s σ H D I hw =>
  wpAny_mono (h pins s σ H D (I.wish _) hw) (fun _ _ q => q.unwish) fun _ _ z => False.elim z
end
section
variable {X : Cx} {st : Stmt} {rest : List Stmt} {t u : TS} {e : Expr} {te : TE} {pos : Pos}
noncomputable def tNext : TS := fun D σ H => D.nx σ H
noncomputable def tSeq (t u : TS) : TS := fun D σ H => t { D with nx := u D } σ H
theorem zaea : PSs X [] tNext := fun _ _ σ H _ I h => wpAny_execs_nil ⟨σ, H, I, h⟩
theorem zif (h1 : PS X st t) (h2 : PSs X rest u) : PSs X (st :: rest) (tSeq t u) := by
  intro pins s σ H D I h
  refine wpAny_execs_cons (thn (h1 pins s σ H { D with nx := u D } I h) fun f s1 q => ?_)
  cases f with
  | next =>
    obtain ⟨σ', H', I', q⟩ := q
    exact h2 pins s1 σ' H' D I' q
  | ret v => exact q
  | brk => exact q
  | cont => exact q
theorem zjb (h1 : PS X st t) : PSs X [st] t := by
  intro pins s σ H D I h
  refine wpAny_execs_cons (thn (h1 pins s σ H D I h) fun f s1 q => ?_)
  cases f with
  | next => exact wpAny_execs_nil q
  | ret v => exact q
  | brk => exact q
  | cont => exact q
theorem Inv.quiet {pins : List (Addr × Obj)} {σ : St} {H : Hp} {s : Shared} (I : Inv X pins σ H s) : interactive X.env = false := by simp [interactive, I.ok.kind]
noncomputable def tDrop (te : TE) : TS := fun D σ H => te σ H fun _ H1 => D.nx σ H1
theorem zoa (he : PE X e te) (hs : swapsWith e none pos.line X.env = pure false := by rfl) : PS X (.Expr e pos) (tDrop te) := by
  intro pins s σ H D I h
  exact wpAny_Expr_any (thn (he pins s σ H _ I h) fun v s1 ⟨x, H1, I1, r1, q1⟩ => ⟨σ, H1, I1, q1⟩) I.quiet hs
noncomputable def tRet (te : TE) : TS := fun D σ H => te σ H D.rt
theorem zacp (he : PE X e te) : PS X (.Return (some e) pos) (tRet te) := by
  intro pins s σ H D I h
  exact wpAny_Return_some (thn (he pins s σ H _ I h) fun v s1 ⟨x, H1, I1, r1, q1⟩ => ⟨x, σ, H1, I1, r1, q1⟩)
noncomputable def tIfS (c : TT) (t u : TS) : TS := fun D σ H => c σ H fun b H1 => if b = true then t D σ H1 else u D σ H1
theorem zahn {c : Expr} {a b : List Stmt} {tc : TT} (hc : PT X c tc) (ha : PSs X a t) (hb : PSs X b u) : PS X (.If c a b pos) (tIfS tc t u) := by
  intro pins s σ H D I h
  refine wpAny_If (thn (hc pins s σ H _ I h) fun d s1 ⟨H1, I1, q1⟩ => ?_)
  cases d with
  | true => exact ha pins s1 σ H1 D I1 q1
  | false => exact hb pins s1 σ H1 D I1 q1
end
noncomputable abbrev TG := V → St → Hp → (St → Hp → Prop) → Prop
noncomputable abbrev TGs := List V → St → Hp → (St → Hp → Prop) → Prop
noncomputable def PG (X : Cx) (target : Expr) (t : TG) : Prop :=
  ∀ (pins : List (Addr × Obj)) (s : Shared) (σ : St) (H : Hp) (v : V) (u : Value) (Q : St → Hp → Prop), Inv X pins σ H s → RelV v u → t v σ H Q →
    wpAny (model X.prog X.w) X.A (assign target X.env u) (fun _ s' => ∃ σ' H', Inv X pins σ' H' s' ∧ Q σ' H') X.xe s
noncomputable def PGs (X : Cx) (ts : List Expr) (t : TGs) : Prop :=
  ∀ (pins : List (Addr × Obj)) (s : Shared) (σ : St) (H : Hp) (vs : List V) (us : List Value) (Q : St → Hp → Prop), Inv X pins σ H s → Vals vs us → t vs σ H Q →
    wpAny (model X.prog X.w) X.A (assignInOrder ((assignEach ts X.env).map (·.2)) us) (fun _ s' => ∃ σ' H', Inv X pins σ' H' s' ∧ Q σ' H') X.xe s
noncomputable abbrev TSet := V → V → V → Hp → (Hp → Prop) → Prop
noncomputable def PSet (X : Cx) (t : TSet) : Prop :=
  ∀ (pins : List (Addr × Obj)) (s : Shared) (σ : St) (H : Hp) (o i v : V) (ov iv u : Value) (Q : Hp → Prop), Inv X pins σ H s → RelV o ov → RelV i iv → RelV v u → t o i v H Q →
    wpAny (model X.prog X.w) X.A (setItem ov iv u) (fun _ s' => ∃ H', Inv X pins σ H' s' ∧ Q H') X.xe s
section
variable {X : Cx} {pos : Pos}
noncomputable def gName (i : Nat) : TG := fun v σ H Q => Q (σ.set i (some v)) H
theorem zsn {i : Nat} {x : Str} (hN : X.N.Nodup) (hi : X.N[i]? = some x) (hx : Loc X.env.scope x) (hf : X.fn x = true ∨ X.env.scope.names.lookup x = some .local := by assumption) : PG X (.Name x pos) (gName i) := by
  intro pins s σ H v u Q I r h
  exact wpAny_assign_Name (zlg I hN hi hx r (fun s' I' => ⟨_, H, I', h⟩) hf)
noncomputable def gNil : TGs := fun vs σ H Q => vs = [] ∧ Q σ H
noncomputable def gCons (t : TG) (u : TGs) : TGs := fun vs σ H Q => ∃ v r, vs = v :: r ∧ t v σ H fun σ' H' => u r σ' H' Q
theorem zaeb : PGs X [] gNil := by
  intro pins s σ H vs us Q I r h
  obtain ⟨e, h⟩ := h
  subst e
  cases r
  exact assignInOrder_nil ⟨σ, H, I, h⟩
theorem zaab {e : Expr} {es : List Expr} {t : TG} {u : TGs} (h1 : PG X e t) (h2 : PGs X es u)
    (hs : (assignEach (e :: es) X.env).map (·.2) = assign e X.env :: (assignEach es X.env).map (·.2) := by rfl) : PGs X (e :: es) (gCons t u) := by
  intro pins s σ H vs us Q I r h
  obtain ⟨v, vr, e1, h⟩ := h
  subst e1
  cases r with
  | cons r rr =>
    rw [hs]
    refine assignInOrder_cons (thn (h1 pins s σ H _ _ _ I r h) fun _ s1 ⟨σ1, H1, I1, q1⟩ => ?_)
    exact h2 pins s1 σ1 H1 _ _ Q I1 rr q1
noncomputable def gTup (K : PySem.W.Frag) (n : Nat) (t : TGs) : TG := fun v σ H Q => ∃ a xs, v = .ref a ∧ SqT K H a xs ∧ xs.length = n ∧ t xs σ H Q
theorem zaho {es : List Expr} {k : Nat} {t : TGs} {n : Nat} (hc : X.calm = true) (h : PGs X es t)
    (hn : (assignEach es X.env).length = n := by rfl) (hst : (assignEach es X.env).findIdx? (·.1) = none := by rfl) : PG X (.Tuple es k pos) (gTup X.K n t) := by
  intro pins s σ H v u Q I r hw
  obtain ⟨a, xs, e1, hq, hl, hw⟩ := hw
  subst e1
  cases r
  obtain ⟨its, rv, ht, hz⟩ := I.tuple hq
  refine assign_Tuple_tuple (I.ok.hd hc) ht (by simp [hn, ← hl, rv.length]) hst fun h' hx => ?_
  have I1 : Inv X pins σ H { s with heap := h' } := I.kept (t' := s.toks) fun b o e => hx b o (Nat.ne_of_lt (Heap.lt_size e)) e
  exact h pins _ σ H xs _ Q I1 (by simpa using rv) hw
noncomputable def gSub (to ti : TE) (t : TSet) : TG := fun v σ H Q => to σ H fun o H1 => ti σ H1 fun i H2 => t o i v H2 fun H3 => Q σ H3
theorem zahp {o i : Expr} {to ti : TE} {t : TSet} (ho : PE X o to) (hi : PE X i ti) (hs : PSet X t)
    (ha : ∀ v, assign (.Subscript o i pos) X.env v = (do
      let ov ← holding [v] (eval o X.env)
      let iv ← holding [v, ov] (eval i X.env)
      standAt pos
      holding [v, ov, iv] (setItem ov iv v)
      release [v, ov, iv] []) := by intro _; rfl) : PG X (.Subscript o i pos) (gSub to ti t) := by
  intro pins s σ H v u Q I r h
  rw [ha]
  refine wpAny_bind (wpAny_holding (thn (ho pins s σ H _ I h) fun ov s1 ⟨x, H1, I1, r1, q1⟩ => ?_))
  refine wpAny_bind (wpAny_holding (thn (hi pins s1 σ H1 _ I1 q1) fun iv s2 ⟨y, H2, I2, r2, q2⟩ => ?_))
  refine wpAny_bind (wpAny_standAt (wpAny_bind (wpAny_holding (thn (hs pins s2 σ H2 x y v ov iv u _ I2 r1 r2 r q2) fun _ s3 ⟨H3, I3, q3⟩ => ?_))))
  exact wpAny_release ⟨σ, H3, I3, q3⟩
noncomputable def tAsg (te : TE) (g : TG) : TS := fun D σ H => te σ H fun x H1 => g x σ H1 D.nx
theorem zacq {tg e : Expr} {te : TE} {g : TG} (he : PE X e te) (hg : PG X tg g) (hs : swapsWithSole [tg] e pos.line X.env = pure false := by rfl) (hw : swappedStores [tg] e X.env = pure none := by rfl)
    (h1 : (assignEach [tg] X.env).map (·.2) = [assign tg X.env] := by rfl) : PS X (.Assign [tg] e pos) (tAsg te g) := by
  intro pins s σ H D I h
  refine wpAny_Assign_stores (thn (he pins s σ H _ I h) fun v s1 ⟨x, H1, I1, r1, q1⟩ => ?_) hs hw
  rw [h1]
  exact thn (hg pins s1 σ H1 x v _ I1 r1 q1) fun _ s2 q => q
theorem ztu {i : Nat} {x : Str} {e : Expr} {te : TE} {pos' : Pos} (hN : X.N.Nodup) (hi : X.N[i]? = some x) (hx : Loc X.env.scope x) (he : PE X e te) (hs : swapsWith e (some (.Name x pos')) pos.line X.env = pure false := by rfl) (hf : X.fn x = true ∨ X.env.scope.names.lookup x = some .local := by assumption) :
    PS X (.Assign [.Name x pos'] e pos) (tAsg te (gName i)) := by
  intro pins s σ H D I h
  refine wpAny_Assign_Name (thn (he pins s σ H _ I h) fun v s1 ⟨y, H1, I1, r1, q1⟩ => ?_) hs
  exact zlg I1 hN hi hx r1 (fun s2 I2 => ⟨_, H1, I2, q1⟩) hf
end
section
variable {X : Cx} {pos : Pos}
end
set_option genInjectivity false in
structure It where
  go : Nat → Hp → Prop
  yld : Nat → Hp → V → Hp → Prop
  stop : Nat → Hp → Prop
noncomputable def FpOk (X : Cx) (pins : List (Addr × Obj)) (H : Hp) (b : Addr) : Prop :=
  H b = none ∧ b ≠ X.env.locals ∧ b ∉ X.fs ∧ (b ∈ X.ex ∨ X.s₀.heap.objs.size ≤ b) ∧ (∀ x c, X.env.cells.lookup x = some c → c ≠ b) ∧ ∀ p ∈ X.pn ++ pins, p.1 ≠ b
theorem Inv.fpOk {X : Cx} {pins : List (Addr × Obj)} {σ : St} {H H' : Hp} {s : Shared} {b : Addr} (I : Inv X pins σ H s) (hb : s.heap.objs.size ≤ b) (hn : H' b = none) : FpOk X pins H' b := by
  refine ⟨hn, Nat.ne_of_gt (Nat.lt_of_lt_of_le I.lt hb), I.nofs hb, .inr (Nat.le_trans I.sz hb), fun x c e z => ?_, fun p hp z => ?_⟩
  · obtain ⟨v, q⟩ := I.cell x c e
    exact absurd (Nat.lt_of_lt_of_le q.lt (by rw [z]; exact hb)) (Nat.lt_irrefl _)
  · exact absurd (Nat.lt_of_lt_of_le (Heap.lt_size (I.pin p hp).1) (by rw [z]; exact hb)) (Nat.lt_irrefl _)
set_option genInjectivity false in
structure Turn (P : Program) (w : World) (K : PySem.W.Frag) (tg : Expr) (J : It) (fp : List Addr) (it : Addr) (tn : Nat → Heap → Prop) : Prop where
  mem : it ∈ fp
  obj : ∀ i h, tn i h → ∀ b ∈ fp, ∃ o, h.get? b = some o ∧ ∀ v, o.data ≠ .cell v
  keep : ∀ i h h', tn i h → (∀ b ∈ fp, ∀ o, h.get? b = some o → h'.get? b = some o) → tn i h'
  item : ∀ (X : Cx), X.prog = P → X.w = w → X.K = K → X.calm = true → ∀ (i : Nat) (pins : List (Addr × Obj)) (s : Shared) (σ : St) (H : Hp) (E : Value → Shared → Prop), Inv X pins σ H s → (∀ b ∈ fp, FpOk X pins H b) → tn i s.heap → J.go i H →
    wpAny (model P w) X.A (pyNext (.ref it)) (fun r s1 => ∃ u, r = some u ∧
      wpAny (model P w) X.A (letOwnedTupleGo tg (.ref it) u) (fun _ s2 => ∃ x H', Inv X pins σ H' s2 ∧ RelV x u ∧ J.yld i H x H' ∧ tn (i + 1) s2.heap ∧ ∀ b ∈ fp, H' b = none) E s1) E s
  done : ∀ (X : Cx), X.prog = P → X.w = w → X.K = K → X.calm = true → ∀ (i : Nat) (pins : List (Addr × Obj)) (s : Shared) (σ : St) (H : Hp) (E : Value → Shared → Prop), Inv X pins σ H s → (∀ b ∈ fp, FpOk X pins H b) → tn i s.heap → J.stop i H →
    wpAny (model P w) X.A (pyNext (.ref it)) (fun r s1 => r = none ∧ Inv X pins σ H s1) E s
  self : ∀ (A : Around) (i : Nat) (s : Shared) (Q : Value → Shared → Prop) (E : Value → Shared → Prop), tn i s.heap → Q (.ref it) s → wpAny (model P w) A (pyIter (.ref it)) Q E s
noncomputable abbrev TI := St → Hp → (It → Hp → Prop) → Prop
noncomputable def PIE (X : Cx) (pins : List (Addr × Obj)) (σ : St) (tg : Expr) (R : It → Hp → Prop) (itv : Value) (s2 : Shared) : Prop :=
  ∃ (it : Addr) (fp : List Addr) (tn : Nat → Heap → Prop) (J : It) (H' : Hp), itv = .ref it ∧ Inv X pins σ H' s2 ∧ Turn X.prog X.w X.K tg J fp it tn ∧ tn 0 s2.heap ∧ (∀ b ∈ fp, FpOk X pins H' b) ∧ R J H'
noncomputable def PI (X : Cx) (tg iter : Expr) (wi : TI) : Prop :=
  ∀ (pins : List (Addr × Obj)) (s : Shared) (σ : St) (H : Hp) (R : It → Hp → Prop), Inv X pins σ H s → wi σ H R →
    wpAny (model X.prog X.w) X.A (eval iter X.env) (fun v s1 => wpAny (model X.prog X.w) X.A (pyIter v) (PIE X pins σ tg R) X.xe s1) X.xe s
theorem zaac {M : Model} {A : Around} {E : Value → Shared → Prop} {s : Shared} {tg : Expr} {it : Addr} {u : Value} {o : Obj} {n : String} {vs : Array Value} {Q : Unit → Shared → Prop} (ho : s.heap.get? it = some o) (hc : o.cls = .type n) (hd : o.data = .fields vs)
    (hn : ["enumerate", "zip", "dict_itemiterator", "dict_reverseitemiterator", "odict_iterator", "itertools.zip_longest", "itertools.pairwise"].contains n = false) (hQ : Q () s) : wpAny M A (letOwnedTupleGo tg (.ref it) u) Q E s := by
  unfold letOwnedTupleGo
  cases tg <;> first
    | exact wpAny_pure hQ
    | (cases u <;> first
        | exact wpAny_pure hQ
        | (refine wpAny_bind (wpAny_load ho ?_)
           rw [hc, hd]
           show wpAny M A (if (["enumerate", "zip", "dict_itemiterator", "dict_reverseitemiterator", "odict_iterator", "itertools.zip_longest", "itertools.pairwise"].contains n && vs[0]? == some (rawInt _)) = true then _ else _) Q E s
           rw [if_neg (by intro h; rw [hn, Bool.false_and] at h; cases h)]
           exact wpAny_pure hQ))
noncomputable def Itl (K : PySem.W.Frag) (a : Addr) : It :=
  ⟨fun i H => ∃ xs x, SqL K H a xs ∧ xs[i]? = some x, fun i H x H' => H' = H ∧ ∀ xs, SqL K H a xs → xs[i]? = some x, fun i H => ∃ xs, SqL K H a xs ∧ xs.length ≤ i⟩
noncomputable def Itt (K : PySem.W.Frag) (a : Addr) : It :=
  ⟨fun i H => ∃ xs x, SqT K H a xs ∧ xs[i]? = some x, fun i H x H' => H' = H ∧ ∀ xs, SqT K H a xs → xs[i]? = some x, fun i H => ∃ xs, SqT K H a xs ∧ xs.length ≤ i⟩
noncomputable def Itr (lo : Int) (n : Nat) : It := ⟨fun i _ => i < n, fun i H x H' => H' = H ∧ x = .int (lo + i), fun i _ => n ≤ i⟩
theorem zpp {P : Program} {w : World} {K : PySem.W.Frag} {tg : Expr} (a it : Addr) : Turn P w K tg (Itl K a) [it] it (fun i h => h.IsListIter it a i) where
  mem := by simp
  obj := fun i h st b hb => by
    have e : b = it := by simpa using hb
    subst e
    obtain ⟨o, e, c, d⟩ := st
    exact ⟨o, e, fun v z => by rw [d] at z; cases z⟩
  keep := fun i h h' st k => st.at fun o e => k it (by simp) o e
  item := by
    intro X hP hw hK hc i pins s σ H E I hf st hg
    subst hP hw hK
    obtain ⟨xs, x, hq, hx⟩ := hg
    obtain ⟨its, rv, p, hz⟩ := I.list hq
    obtain ⟨u, hu, ru⟩ := rv.get hx
    obtain ⟨f0, f1, f2, f3, f4, f5⟩ := hf it (by simp)
    refine wpAny_pyNext_list_item st p.isList (x := u) (by simpa using hu) fun h' st' sb => ?_
    have I1 : Inv X pins σ H { s with heap := h' } := I.turned (t' := s.toks) (fun b o hb e => (sb.2 b hb).trans e) f0 f1 f3 f4 f5
    obtain ⟨o, e, c, d⟩ := id st'
    exact ⟨u, rfl, zaac (s := { s with heap := h' }) e c d (by decide) ⟨x, H, I1, ru, ⟨rfl, fun ys hy => by rw [I.list_inj hy hq]; exact hx⟩, st', fun b hb => (hf b hb).1⟩⟩
  done := by
    intro X hP hw hK hc i pins s σ H E I hf st hg
    subst hP hw hK
    obtain ⟨xs, hq, hx⟩ := hg
    obtain ⟨its, rv, p, hz⟩ := I.list hq
    obtain ⟨f0, f1, f2, f3, f4, f5⟩ := hf it (by simp)
    have hl := rv.length
    exact wpAny_pyNext_list_end (I.ok.hd hc) st p.isList (by simp; omega) fun h' eb => ⟨rfl, I.turned (t' := s.toks) (fun b o hb e => eb b o hb e) f0 f1 f3 f4 f5⟩
  self := fun _ _ _ _ _ st h => wpAny_pyIter_listiter st h
theorem zuv {P : Program} {w : World} {K : PySem.W.Frag} {tg : Expr} (a it : Addr) : Turn P w K tg (Itt K a) [it] it (fun i h => h.IsTupleIter it a i) where
  mem := by simp
  obj := fun i h st b hb => by
    have e : b = it := by simpa using hb
    subst e
    obtain ⟨o, e, c, d⟩ := st
    exact ⟨o, e, fun v z => by rw [d] at z; cases z⟩
  keep := fun i h h' st k => st.at fun o e => k it (by simp) o e
  item := by
    intro X hP hw hK hc i pins s σ H E I hf st hg
    subst hP hw hK
    obtain ⟨xs, x, hq, hx⟩ := hg
    obtain ⟨its, rv, p, hz⟩ := I.tuple hq
    obtain ⟨u, hu, ru⟩ := rv.get hx
    obtain ⟨f0, f1, f2, f3, f4, f5⟩ := hf it (by simp)
    refine wpAny_pyNext_tuple_item st (show s.heap.IsTuple a its.toArray from p) (x := u) (by simpa using hu) fun h' st' sb => ?_
    have I1 : Inv X pins σ H { s with heap := h' } := I.turned (t' := s.toks) (fun b o hb e => (sb.2 b hb).trans e) f0 f1 f3 f4 f5
    obtain ⟨o, e, c, d⟩ := id st'
    exact ⟨u, rfl, zaac (s := { s with heap := h' }) e c d (by decide) ⟨x, H, I1, ru, ⟨rfl, fun ys hy => by rw [I.tuple_inj hy hq]; exact hx⟩, st', fun b hb => (hf b hb).1⟩⟩
  done := by
    intro X hP hw hK hc i pins s σ H E I hf st hg
    subst hP hw hK
    obtain ⟨xs, hq, hx⟩ := hg
    obtain ⟨its, rv, p, hz⟩ := I.tuple hq
    obtain ⟨f0, f1, f2, f3, f4, f5⟩ := hf it (by simp)
    have hl := rv.length
    exact wpAny_pyNext_tuple_end (I.ok.hd hc) st (show s.heap.IsTuple a its.toArray from p) (by simp; omega) fun h' eb => ⟨rfl, I.turned (t' := s.toks) (fun b o hb e => eb b o hb e) f0 f1 f3 f4 f5⟩
  self := fun _ _ _ _ _ st h => wpAny_pyIter_tupleiter st h
theorem zuw {P : Program} {w : World} {K : PySem.W.Frag} {tg : Expr} (it : Addr) (lo : Int) (n : Nat) : Turn P w K tg (Itr lo n) [it] it (fun i h => IsRangeIter h it (lo + (i : Nat) * 1) ((n : Int) - (i : Nat)) 1) where
  mem := by simp
  obj := fun i h st b hb => by
    have e : b = it := by simpa using hb
    subst e
    exact ⟨_, st, fun v z => by
      have z' : Data.fields _ = Data.cell v := z
      cases z'⟩
  keep := fun i h h' st k => k it (by simp) _ st
  item := by
    intro X hP hw hK hc i pins s σ H E I hf st hg
    subst hP hw hK
    obtain ⟨f0, f1, f2, f3, f4, f5⟩ := hf it (by simp)
    have W := Walks.range (prog := X.prog) (w := X.w) (I.ok.hd hc) it lo 1 n
    refine W.item i s _ _ hg st fun v h' tk hv st' kk => ?_
    obtain ⟨t, rfl⟩ := hv
    have I1 : Inv X pins σ H { s with heap := h', toks := tk } := I.turned (fun b o hb e => kk b o (by simpa using hb) e) f0 f1 f3 f4 f5
    refine ⟨_, rfl, zaac (s := { s with heap := h', toks := tk }) (n := "range_iterator") st' rfl rfl (by decide) ⟨.int (lo + i), H, I1, ⟨t, ?_⟩, ⟨rfl, rfl⟩, st', fun b hb => (hf b hb).1⟩⟩
    rw [Int.mul_one]
  done := by
    intro X hP hw hK hc i pins s σ H E I hf st hg
    subst hP hw hK
    obtain ⟨f0, f1, f2, f3, f4, f5⟩ := hf it (by simp)
    exact wpAny_pyNext_range_end (I.ok.hd hc) st (by have : n ≤ i := hg; omega) fun h' eb => ⟨rfl, I.turned (t' := s.toks) (fun b o hb e => eb b o hb e) f0 f1 f3 f4 f5⟩
  self := fun _ _ _ _ _ st h => wpAny_pyIter_rangeiter st h
end L2
namespace L2
open PySem PySem.Spec PyProof.Rows
section
variable {X : Cx} {tg : Expr}
noncomputable def zahq (K : PySem.W.Frag) (tl : TE) : TI := fun σ H R => tl σ H fun x H1 => ∃ a, x = .ref a ∧ (∃ xs, SqL K H1 a xs) ∧ R (Itl K a) H1
theorem zaec {l : Expr} {tl : TE} (hl : PE X l tl) : PI X tg l (zahq X.K tl) := by
  intro pins s σ H R I h
  refine thn (hl pins s σ H _ I h) fun v s1 ⟨x, H1, I1, r1, q1⟩ => ?_
  obtain ⟨a, e, ⟨xs, hq⟩, q⟩ := q1
  subst e
  cases r1
  obtain ⟨its, rv, p, hz⟩ := I1.list hq
  refine wpAny_pyIter_list p.isList ?_
  refine ⟨s1.heap.objs.size, [s1.heap.objs.size], _, _, H1, rfl, I1.kept (t' := s1.toks) fun b o e => Heap.get?_push_of_some _ e, zpp a _, ⟨_, Heap.get?_push_size _ rfl, rfl, rfl⟩, fun b hb => ?_, q⟩
  have e : b = s1.heap.objs.size := by simpa using hb
  subst e
  exact I1.fpOk (Nat.le_refl _) (I1.hok.fresh (Nat.le_refl _))
theorem zaad {pins : List (Addr × Obj)} {σ : St} {H : Hp} {s : Shared} {R : It → Hp → Prop} {E : Value → Shared → Prop} {lo hi : Int} {t u v : Tok} {tk : Nat} (I : Inv X pins σ H s) (h1 : -(2 ^ 62) ≤ lo) (h2 : lo < 2 ^ 62) (h3 : -(2 ^ 62) ≤ hi) (h4 : hi < 2 ^ 62)
    (q : R (Itr lo (hi - lo).toNat) H) : wpAny (model X.prog X.w) X.A (pyIter (.ref s.heap.objs.size)) (PIE X pins σ tg R) E { s with heap := s.heap.push { cls := .type "range", data := .fields #[.int lo t, .int hi u, .int 1 v] }, toks := tk } := by
  refine wpAny_pyIter_range (IsRange.new ..) (small_one h1 h2 h3 h4) ?_
  have I1 : Inv X pins σ H { s with heap := s.heap.push { cls := .type "range", data := .fields #[.int lo t, .int hi u, .int 1 v] }, toks := tk } := I.kept fun b o e => Heap.get?_push_of_some _ e
  refine ⟨(s.heap.push { cls := .type "range", data := .fields #[.int lo t, .int hi u, .int 1 v] }).objs.size, [(s.heap.push { cls := .type "range", data := .fields #[.int lo t, .int hi u, .int 1 v] }).objs.size], _, _, H, rfl,
    I1.kept (t' := tk) fun b o e => Heap.get?_push_of_some _ e, zuw _ lo (hi - lo).toNat, ?_, fun b hb => ?_, q⟩
  · have e1 : lo + ((0 : Nat) : Int) * 1 = lo := by simp
    have e2 : (((hi - lo).toNat : Nat) : Int) - ((0 : Nat) : Int) = Builtin.Range.rangeSize lo hi 1 := by rw [rangeSize_one]; split <;> omega
    show IsRangeIter _ _ (lo + ((0 : Nat) : Int) * 1) ((((hi - lo).toNat : Nat) : Int) - ((0 : Nat) : Int)) 1
    rw [e1, e2]
    exact Heap.get?_push_size _ rfl
  · have e : b = (s.heap.push { cls := .type "range", data := .fields #[.int lo t, .int hi u, .int 1 v] }).objs.size := by simpa using hb
    subst e
    exact I1.fpOk (Nat.le_refl _) (I1.hok.fresh (Nat.le_refl _))
noncomputable def iRng1 (ta : TA) : TI := fun σ H R => ta σ H fun vs H1 => ∃ j : Int, vs = [.int j] ∧ -(2 ^ 62) ≤ j ∧ j < 2 ^ 62 ∧ R (Itr 0 j.toNat) H1
theorem zpq {a : Expr} {ta : TA} {p pos : Pos} (hg : Gl X "range") (hm : X.mg "range" = none) (ha : PA X [a] ta) (hs : starEach [a] X.env = [(false, eval a X.env)] := by rfl) : PI X tg (.Call (.Name "range" p) [a] [] pos) (iRng1 ta) := by
  intro pins s σ H R I h
  refine Call_ (zkp I hg hm boot_range (PyProof.Rows.callWith_type1 (thn (ha pos pins s σ H _ I h) fun us s1 ⟨vs, H1, I1, r1, q1⟩ => ?_) hs rfl))
  obtain ⟨j, e, q1, q2, q⟩ := q1
  subst e
  cases r1 with
  | cons r rr =>
    cases rr
    obtain ⟨t, rfl⟩ := r
    exact call_range_1 (zaad I1 (by omega) (by omega) q1 q2 (by simpa using q))
noncomputable def tFor (wi : TI) (g : TG) (tb : TS) : TS := fun D σ H => wi σ H fun J H1 => ∃ W : Nat → Nat → St → Hp → Prop, (∃ m, W 0 m σ H1) ∧ ∀ i m σ H, W i m σ H →
  (J.stop i H ∧ D.nx σ H) ∨ (J.go i H ∧ ∃ N : St → Hp → Prop, (∀ σ' H', N σ' H' → ∃ m', m' < m ∧ W (i + 1) m' σ' H') ∧ ∀ x H', J.yld i H x H' → g x σ H' fun σ2 H2 => tb { D with nx := N, ct := N, bk := D.nx } σ2 H2)
noncomputable def zpr (fp : List Addr) (h : Heap) : List (Addr × Obj) := fp.filterMap fun b => (h.get? b).map fun o => (b, o)
theorem zig {fp : List Addr} {h : Heap} {b : Addr} {o : Obj} (hb : b ∈ fp) (e : h.get? b = some o) : (b, o) ∈ zpr fp h := List.mem_filterMap.mpr ⟨b, hb, by rw [e]; rfl⟩
theorem zvy {fp : List Addr} {h : Heap} {p : Addr × Obj} (hp : p ∈ zpr fp h) : p.1 ∈ fp ∧ h.get? p.1 = some p.2 := by
  obtain ⟨b, hb, e⟩ := List.mem_filterMap.mp hp
  cases q : h.get? b with
  | none => rw [q] at e; cases e
  | some o =>
    rw [q] at e
    have e' : (b, o) = p := Option.some.inj e
    subst e'
    exact ⟨hb, q⟩
theorem Inv.pinned {pins : List (Addr × Obj)} {σ : St} {H : Hp} {s : Shared} {fp : List Addr} (I : Inv X pins σ H s) (hf : ∀ b ∈ fp, FpOk X pins H b) (ho : ∀ b ∈ fp, ∃ o, s.heap.get? b = some o ∧ ∀ v, o.data ≠ .cell v) : Inv X (pins ++ zpr fp s.heap) σ H s :=
  I.pins_of fun p hp => (List.mem_append.mp hp).elim (fun z => I.pin p (List.mem_append_right _ z)) fun z => by
    obtain ⟨hb, e⟩ := zvy z
    obtain ⟨f0, f1, f2, _⟩ := hf p.1 hb
    obtain ⟨o, e', d⟩ := ho p.1 hb
    rw [e] at e'; cases e'
    exact ⟨e, f0, f1, f2, d⟩
theorem Inv.unpinned {pins pl : List (Addr × Obj)} {σ : St} {H : Hp} {s : Shared} (I : Inv X (pins ++ pl) σ H s) : Inv X pins σ H s := I.pins_of fun p hp => I.pin p (List.mem_append_right _ (List.mem_append_left _ hp))
theorem zvz {iter : Expr} {body : List Stmt} {wi : TI} {g : TG} {tb : TS} {pos : Pos} (hp : PassesOwn (model X.prog X.w) X.A X.env X.xe) (hc : X.calm = true) (hi : PI X tg iter wi) (hg : PG X tg g) (hb : PSs X body tb)
    (hs : ∀ x, foldedSetIterable iter X.env x = pure x := by intro _; rfl) : PS X (.For tg iter body [] pos) (tFor wi g tb) := by
  intro pins s σ H D I h
  refine wpAny_For (thn (hi pins s σ H _ I h) fun v s1 h1 => thn h1 fun itv s2 h2 => ?_) hs
  obtain ⟨it, fp, tn, J, H2, e, I2, T, st2, f2, W, ⟨m0, w0⟩, turn⟩ := h2
  subst e
  have stat : ∀ {H' : Hp}, (∀ b ∈ fp, H' b = none) → ∀ b ∈ fp, FpOk X pins H' b := fun hn b hb => ⟨hn b hb, (f2 b hb).2⟩
  refine codeAny_forLoop_any (fun n s' => ∃ i σ' H', Inv X pins σ' H' s' ∧ tn i s'.heap ∧ (∀ b ∈ fp, H' b = none) ∧ W i n σ' H') ?_ m0 ⟨0, σ, H2, I2, st2, fun b hb => (f2 b hb).1, w0⟩
  rintro n s3 ⟨i, σ3, H3, I3, st3, fr3, w3⟩
  rcases turn i n σ3 H3 w3 with ⟨stop, qn⟩ | ⟨go, N, hN, step⟩
  · refine wpAny_passesOwn hp (thn (T.done X rfl rfl rfl hc i pins s3 σ3 H3 X.xe I3 (stat fr3) st3 stop) fun r s4 ⟨hr, I4⟩ => ?_)
    subst hr
    exact wpAny_execs_nil ⟨σ3, H3, I4, qn⟩
  · refine wpAny_passesOwn hp (thn (T.item X rfl rfl rfl hc i pins s3 σ3 H3 X.xe I3 (stat fr3) st3 go) fun r s4 ⟨u, hr, h4⟩ => ?_)
    subst hr
    refine wpAny_passesOwn hp (thn h4 fun _ s5 ⟨x, H5, I5, r5, y5, st5, fr5⟩ => ?_)
    have I5' := I5.pinned (stat fr5) (T.obj _ _ st5)
    refine wpAny_passesOwn hp (thn (hg _ s5 σ3 H5 x u _ I5' r5 (step x H5 y5)) fun _ s6 ⟨σ6, H6, I6, q6⟩ => ?_)
    refine wpAny_passesOwn hp (thn (hb _ s6 σ6 H6 _ I6 q6) fun f s7 q7 => ?_)
    have again : ∀ {σ7 : St} {H7 : Hp}, Inv X (pins ++ zpr fp s5.heap) σ7 H7 s7 → N σ7 H7 → ∃ m, m < n ∧ ∃ i σ' H', Inv X pins σ' H' s7 ∧ tn i s7.heap ∧ (∀ b ∈ fp, H' b = none) ∧ W i m σ' H' := fun {σ7 H7} I7 n7 => by
      obtain ⟨m', hm, w7⟩ := hN σ7 H7 n7
      refine ⟨m', hm, i + 1, σ7, H7, I7.unpinned, T.keep _ _ _ st5 fun b hb o e => (I7.pin (b, o) (List.mem_append_right _ (List.mem_append_right _ (zig hb e)))).1, fun b hb => ?_, w7⟩
      obtain ⟨o, e, d⟩ := T.obj _ _ st5 b hb
      exact (I7.pin (b, o) (List.mem_append_right _ (List.mem_append_right _ (zig hb e)))).2.1
    cases f with
    | next => obtain ⟨σ7, H7, I7, n7⟩ := q7; exact again I7 n7
    | cont => obtain ⟨σ7, H7, I7, n7⟩ := q7; exact again I7 n7
    | brk => obtain ⟨σ7, H7, I7, q7⟩ := q7; exact ⟨σ7, H7, I7.unpinned, q7⟩
    | ret v => obtain ⟨x7, σ7, H7, I7, r7, q7⟩ := q7; exact ⟨x7, σ7, H7, I7.unpinned, r7, q7⟩
end
theorem for_list {K : PySem.W.Frag} {a : Addr} {xs : List V} {g : TG} {tb : TS} {D : Ends} {σ : St} {H : Hp} (Pv : Nat → St → Hp → Prop) (h0 : Pv 0 σ H) (hl : ∀ i σ H, i ≤ xs.length → Pv i σ H → SqL K H a xs)
    (hs : ∀ i x σ H, xs[i]? = some x → Pv i σ H → g x σ H fun σ2 H2 => tb { D with nx := Pv (i + 1), ct := Pv (i + 1), bk := D.nx } σ2 H2) (hd : ∀ σ H, Pv xs.length σ H → D.nx σ H) :
    ∃ W : Nat → Nat → St → Hp → Prop, (∃ m, W 0 m σ H) ∧ ∀ i m σ H, W i m σ H →
      ((Itl K a).stop i H ∧ D.nx σ H) ∨ ((Itl K a).go i H ∧ ∃ N : St → Hp → Prop, (∀ σ' H', N σ' H' → ∃ m', m' < m ∧ W (i + 1) m' σ' H') ∧ ∀ x H', (Itl K a).yld i H x H' → g x σ H' fun σ2 H2 => tb { D with nx := N, ct := N, bk := D.nx } σ2 H2) := by
  refine ⟨fun i m σ H => m = xs.length - i ∧ i ≤ xs.length ∧ Pv i σ H, ⟨xs.length, by simp, Nat.zero_le _, h0⟩, ?_⟩
  rintro i m σ H ⟨rfl, hi, p⟩
  have q := hl i σ H hi p
  by_cases hlt : i < xs.length
  · refine .inr ⟨⟨xs, xs[i], q, by simp [hlt]⟩, Pv (i + 1), fun σ' H' p' => ⟨xs.length - (i + 1), by omega, rfl, hlt, p'⟩, fun x H' y => ?_⟩
    obtain ⟨e, y⟩ := y
    subst e
    exact hs i x σ _ (y xs q) p
  · have e : i = xs.length := by omega
    subst e
    exact .inl ⟨⟨xs, q, Nat.le_refl _⟩, hd σ H p⟩
theorem for_range {lo : Int} {n : Nat} {g : TG} {tb : TS} {D : Ends} {σ : St} {H : Hp} (Pv : Nat → St → Hp → Prop) (h0 : Pv 0 σ H)
    (hs : ∀ i σ H, i < n → Pv i σ H → g (.int (lo + i)) σ H fun σ2 H2 => tb { D with nx := Pv (i + 1), ct := Pv (i + 1), bk := D.nx } σ2 H2) (hd : ∀ σ H, Pv n σ H → D.nx σ H) :
    ∃ W : Nat → Nat → St → Hp → Prop, (∃ m, W 0 m σ H) ∧ ∀ i m σ H, W i m σ H →
      ((Itr lo n).stop i H ∧ D.nx σ H) ∨ ((Itr lo n).go i H ∧ ∃ N : St → Hp → Prop, (∀ σ' H', N σ' H' → ∃ m', m' < m ∧ W (i + 1) m' σ' H') ∧ ∀ x H', (Itr lo n).yld i H x H' → g x σ H' fun σ2 H2 => tb { D with nx := N, ct := N, bk := D.nx } σ2 H2) := by
  refine ⟨fun i m σ H => m = n - i ∧ i ≤ n ∧ Pv i σ H, ⟨n, by simp, Nat.zero_le _, h0⟩, ?_⟩
  rintro i m σ H ⟨rfl, hi, p⟩
  by_cases hlt : i < n
  · refine .inr ⟨hlt, Pv (i + 1), fun σ' H' p' => ⟨n - (i + 1), by omega, rfl, hlt, p'⟩, fun x H' y => ?_⟩
    obtain ⟨e, y⟩ := y
    subst e y
    exact hs i σ _ hlt p
  · have e : i = n := by omega
    subst e
    exact .inl ⟨Nat.le_refl _, hd σ H p⟩
end L2
namespace L2
open PySem PySem.Spec PyProof.Rows
noncomputable abbrev R2 := V → V → Hp → VK → Prop
noncomputable def OpR (X : Cx) (f : Value → Value → Sem Value) (r : R2) : Prop :=
  ∀ (pins : List (Addr × Obj)) (s : Shared) (σ : St) (H : Hp) (x y : V) (v u : Value) (Q : VK), Inv X pins σ H s → RelV x v → RelV y u → r x y H Q →
    wpAny (model X.prog X.w) X.A (f v u) (EP X pins σ Q) X.xe s
noncomputable def CallR (X : Cx) (f : Value) (r : List V → Hp → VK → Prop) : Prop :=
  ∀ (pins : List (Addr × Obj)) (s : Shared) (σ : St) (H : Hp) (xs : List V) (us : List Value) (Q : VK), Inv X pins σ H s → Vals xs us → r xs H Q →
    wpAny (model X.prog X.w) X.A (call f us) (EP X pins σ Q) X.xe s
noncomputable def TruR (X : Cx) (r : V → Hp → (Bool → Hp → Prop) → Prop) : Prop :=
  ∀ (pins : List (Addr × Obj)) (s : Shared) (σ : St) (H : Hp) (x : V) (v : Value) (Q : Bool → Hp → Prop), Inv X pins σ H s → RelV x v → r x H Q →
    wpAny (model X.prog X.w) X.A (truthy v) (TP X pins σ Q) X.xe s
noncomputable def tOp (r : R2) (ta tb : TE) : TE := fun σ H Q => ta σ H fun x H1 => tb σ H1 fun y H2 => r x y H2 Q
noncomputable def rI (C : Int → Int → Prop) (g : Int → Int → V) : R2 := fun x y H Q => ∃ i j, x = .int i ∧ y = .int j ∧ C i j ∧ Q (g i j) H
noncomputable def rI0 (g : Int → Int → V) : R2 := fun x y H Q => ∃ i j, x = .int i ∧ y = .int j ∧ Q (g i j) H
section
variable {X : Cx} {a b c : Expr} {ta tb tc : TE} {pos : Pos}
theorem binT (ha : PE X a ta) (hb : PE X b tb) {pins : List (Addr × Obj)} {s : Shared} {σ : St} {H : Hp} {R : V → V → Hp → Prop} (I : Inv X pins σ H s)
    (h : ta σ H fun x H1 => tb σ H1 fun y H2 => R x y H2) {Q : Value → Shared → Prop} {f : Value → Value → Sem Value}
    (hf : ∀ v u s2 x y H2, Inv X pins σ H2 s2 → RelV x v → RelV y u → R x y H2 → wpAny (model X.prog X.w) X.A (f v u) Q X.xe s2) :
    wpAny (model X.prog X.w) X.A (eval a X.env) (fun v s₁ => wpAny (model X.prog X.w) X.A (eval b X.env) (fun u s₂ => wpAny (model X.prog X.w) X.A (f v u) Q X.xe s₂) X.xe s₁) X.xe s := by
  refine thn (ha pins s σ H _ I h) fun v s1 ⟨x, H1, I1, r1, q1⟩ => ?_
  refine thn (hb pins s1 σ H1 _ I1 q1) fun u s2 ⟨y, H2, I2, r2, q2⟩ => ?_
  exact hf v u s2 x y H2 I2 r1 r2 q2
theorem ziq {op : Operator} {r : R2} (ho : OpR X (binaryOp op) r) (ha : PE X a ta) (hb : PE X b tb) : PE X (.BinOp a op b pos) (tOp r ta tb) := by
  intro pins s σ H Q I h
  exact wpAny_BinOp (binT ha hb I h fun v u s2 x y H2 I2 rx ry q => ho pins s2 σ H2 x y v u Q I2 rx ry q)
theorem opI {f : Value → Value → Sem Value} {C : Int → Int → Prop} {g : Int → Int → Int}
    (rule : ∀ (i j : Int) (t u : Tok) (s : Shared) (Q : Value → Shared → Prop) (E : Value → Shared → Prop), C i j → Q (.int (g i j) s.toks) { s with toks := s.toks + 1 } → wpAny (model X.prog X.w) X.A (f (.int i t) (.int j u)) Q E s) :
    OpR X f (rI C fun i j => .int (g i j)) := by
  intro pins s σ H x y v u Q I rx ry h
  obtain ⟨i, j, rfl, rfl, hc, q⟩ := h
  obtain ⟨t, rfl⟩ := rx
  obtain ⟨t', rfl⟩ := ry
  exact rule i j t t' s _ _ hc ⟨.int (g i j), H, I.tok _, ⟨_, rfl⟩, q⟩
theorem opI0 {f : Value → Value → Sem Value} {g : Int → Int → Int}
    (rule : ∀ (i j : Int) (t u : Tok) (s : Shared) (Q : Value → Shared → Prop) (E : Value → Shared → Prop), Q (.int (g i j) s.toks) { s with toks := s.toks + 1 } → wpAny (model X.prog X.w) X.A (f (.int i t) (.int j u)) Q E s) :
    OpR X f (rI0 fun i j => .int (g i j)) := by
  intro pins s σ H x y v u Q I rx ry h
  obtain ⟨i, j, rfl, rfl, q⟩ := h
  obtain ⟨t, rfl⟩ := rx
  obtain ⟨t', rfl⟩ := ry
  exact rule i j t t' s _ _ ⟨.int (g i j), H, I.tok _, ⟨_, rfl⟩, q⟩
theorem opB0 {f : Value → Value → Sem Value} {g : Int → Int → Bool}
    (rule : ∀ (i j : Int) (t u : Tok) (s : Shared) (Q : Value → Shared → Prop) (E : Value → Shared → Prop), Q (.bool (g i j)) s → wpAny (model X.prog X.w) X.A (f (.int i t) (.int j u)) Q E s) :
    OpR X f (rI0 fun i j => .bl (g i j)) := by
  intro pins s σ H x y v u Q I rx ry h
  obtain ⟨i, j, rfl, rfl, q⟩ := h
  obtain ⟨t, rfl⟩ := rx
  obtain ⟨t', rfl⟩ := ry
  exact rule i j t t' s _ _ ⟨.bl (g i j), H, I, rfl, q⟩
noncomputable def CDiv (i j : Int) : Prop := 0 < j ∧ j < 1073741824
noncomputable def CPow (i j : Int) : Prop := 0 ≤ j ∧ j ≤ 1000000 ∧ i.natAbs < 2 ^ 64
noncomputable def CMul (i j : Int) : Prop := (-(2 ^ 64) < i ∧ i < 2 ^ 64) ∨ (-(2 ^ 64) < j ∧ j < 2 ^ 64)
theorem CMul.ok {i j : Int} (h : CMul i j) : IntMulOk i j := by
  rcases h with ⟨h1, h2⟩ | ⟨h1, h2⟩
  · exact .of_left (intBits_le_64 h1 h2)
  · exact .of_right (intBits_le_64 h1 h2)
theorem zahr : OpR X (binaryOp .Add) (rI0 fun i j => .int (i + j)) := opI0 fun _ _ _ _ _ _ _ q => add_int q
theorem zahs : OpR X (binaryOp .Mult) (rI CMul fun i j => .int (i * j)) := opI fun _ _ _ _ _ _ _ hc q => mul_int q hc.ok
theorem zcx : OpR X (binaryOp .FloorDiv) (rI CDiv fun i j => .int (i / j)) := opI fun i j _ _ _ _ _ hc q => by
  have h1 : (0 : Int) < j := hc.1
  have h2 : j < 1073741824 := hc.2
  exact floordiv_int (by omega) (by rw [Int.fdiv_eq_ediv_of_nonneg i (by omega)]; exact q) (.inl (PyProof.noPylong_small (by omega)))
theorem zbo : OpR X (binaryOp .Mod) (rI (fun _ j => 0 < j) fun i j => .int (i % j)) := opI fun i j _ _ _ _ _ hc q => by
  have h1 : (0 : Int) < j := hc
  exact mod_int' (by omega) (by rw [Int.fmod_eq_emod_of_nonneg i (by omega)]; exact q)
theorem zacr : OpR X (binaryOp .Pow) (rI CPow fun i j => .int (i ^ j.toNat)) := opI fun _ _ _ _ _ _ _ hc q => pow_int_small hc.1 hc.2.1 hc.2.2 q
end
noncomputable def scal : V → V → Bool
  | .non, .non => true | .non, .int _ => true | .int _, .non => true | .non, .bl _ => true | .bl _, .non => true | .non, .str _ => true | .str _, .non => true
  | .int _, .int _ => true | .bl _, .bl _ => true | .str _, .str _ => true | .byt _, .byt _ => true
  | .int _, .str _ => true | .str _, .int _ => true | .bl _, .str _ => true | .str _, .bl _ => true
  | _, _ => false
noncomputable def rEq : R2 := fun x y H Q => scal x y = true ∧ Q (.bl (decide (x = y))) H
noncomputable def rNe : R2 := fun x y H Q => scal x y = true ∧ Q (.bl (!decide (x = y))) H
theorem zso {i j : Int} : decide (V.int i = V.int j) = (i == j) := by
  rw [Bool.eq_iff_iff]
  simp
theorem zwa {i j : Bool} : decide (V.bl i = V.bl j) = (i == j) := by
  rw [Bool.eq_iff_iff]
  simp
theorem zsp {i j : Str} : decide (V.str i = V.str j) = (i == j) := by
  rw [Bool.eq_iff_iff]
  simp
theorem zwb {i j : Array UInt8} : decide (V.byt i = V.byt j) = (i.toList == j.toList) := by
  rw [Bool.eq_iff_iff]
  cases i
  cases j
  simp
section
variable {X : Cx} {a b c : Expr} {ta tb tc : TE} {pos : Pos}
theorem zbw {pins : List (Addr × Obj)} {σ : St} {H : Hp} {s : Shared} {Q : VK} {k k' : Bool} (I : Inv X pins σ H s) (q : Q (.bl k) H) (e : k = k') : EP X pins σ Q (.bool k') s := by
  subst e
  exact ⟨.bl k, H, I, rfl, q⟩
theorem zakl : OpR X (compareOp .Eq) rEq := by
  intro pins s σ H x y v u Q I rx ry h
  obtain ⟨hs, q⟩ := h
  cases x with
  | non =>
    cases rx
    cases y with
    | non => cases ry; exact PySem.EqNone.eq_none_none (zbw I q (by simp))
    | bl j => cases ry; exact PySem.EqNone.eq_none_bool (zbw I q (by simp))
    | int j => obtain ⟨t', rfl⟩ := ry; exact PySem.EqNone.eq_none_int (zbw I q (by simp))
    | str j => obtain ⟨t', rfl⟩ := ry; exact PySem.EqNone.eq_none_str (zbw I q (by simp))
    | _ => exact absurd (show false = true from hs) Bool.false_ne_true
  | bl i =>
    cases rx
    cases y with
    | non => cases ry; exact PySem.EqNone.eq_bool_none (zbw I q (by simp))
    | bl j => cases ry; exact eq_bool (zbw I q zwa)
    | str j => obtain ⟨t', rfl⟩ := ry; exact PySem.EqMixed.eq_bool_str (zbw I q (by simp))
    | _ => exact absurd (show false = true from hs) Bool.false_ne_true
  | int i =>
    obtain ⟨t, rfl⟩ := rx
    cases y with
    | non => cases ry; exact PySem.EqNone.eq_int_none (zbw I q (by simp))
    | int j => obtain ⟨t', rfl⟩ := ry; exact eq_int (zbw I q zso)
    | str j => obtain ⟨t', rfl⟩ := ry; exact PySem.EqMixed.eq_int_str (zbw I q (by simp))
    | _ => exact absurd (show false = true from hs) Bool.false_ne_true
  | str i =>
    obtain ⟨t, rfl⟩ := rx
    cases y with
    | non => cases ry; exact PySem.EqNone.eq_str_none (zbw I q (by simp))
    | bl j => cases ry; exact PySem.EqMixed.eq_str_bool (zbw I q (by simp))
    | int j => obtain ⟨t', rfl⟩ := ry; exact PySem.EqMixed.eq_str_int (zbw I q (by simp))
    | str j => obtain ⟨t', rfl⟩ := ry; exact eq_str (zbw I q zsp)
    | _ => exact absurd (show false = true from hs) Bool.false_ne_true
  | byt i =>
    obtain ⟨t, rfl⟩ := rx
    cases y with
    | byt j => obtain ⟨t', rfl⟩ := ry; exact PySem.W.eq_bytes (zbw I q zwb)
    | _ => exact absurd (show false = true from hs) Bool.false_ne_true
  | _ => cases y <;> exact absurd (show false = true from hs) Bool.false_ne_true
theorem zakm : OpR X (compareOp .NotEq) rNe := by
  intro pins s σ H x y v u Q I rx ry h
  obtain ⟨hs, q⟩ := h
  cases x with
  | non =>
    cases rx
    cases y with
    | non => cases ry; exact PySem.EqNone.ne_none_none (zbw I q (by simp))
    | bl j => cases ry; exact PySem.EqNone.ne_none_bool (zbw I q (by simp))
    | int j => obtain ⟨t', rfl⟩ := ry; exact PySem.EqNone.ne_none_int (zbw I q (by simp))
    | str j => obtain ⟨t', rfl⟩ := ry; exact PySem.EqNone.ne_none_str (zbw I q (by simp))
    | _ => exact absurd (show false = true from hs) Bool.false_ne_true
  | bl i =>
    cases rx
    cases y with
    | non => cases ry; exact PySem.EqNone.ne_bool_none (zbw I q (by simp))
    | bl j => cases ry; exact ne_bool (zbw I q (congrArg not zwa))
    | str j => obtain ⟨t', rfl⟩ := ry; exact PySem.EqMixed.ne_bool_str (zbw I q (by simp))
    | _ => exact absurd (show false = true from hs) Bool.false_ne_true
  | int i =>
    obtain ⟨t, rfl⟩ := rx
    cases y with
    | non => cases ry; exact PySem.EqNone.ne_int_none (zbw I q (by simp))
    | int j => obtain ⟨t', rfl⟩ := ry; exact ne_int (zbw I q (congrArg not zso))
    | str j => obtain ⟨t', rfl⟩ := ry; exact PySem.EqMixed.ne_int_str (zbw I q (by simp))
    | _ => exact absurd (show false = true from hs) Bool.false_ne_true
  | str i =>
    obtain ⟨t, rfl⟩ := rx
    cases y with
    | non => cases ry; exact PySem.EqNone.ne_str_none (zbw I q (by simp))
    | bl j => cases ry; exact PySem.EqMixed.ne_str_bool (zbw I q (by simp))
    | int j => obtain ⟨t', rfl⟩ := ry; exact PySem.EqMixed.ne_str_int (zbw I q (by simp))
    | str j => obtain ⟨t', rfl⟩ := ry; exact ne_str (zbw I q (congrArg not zsp))
    | _ => exact absurd (show false = true from hs) Bool.false_ne_true
  | byt i =>
    obtain ⟨t, rfl⟩ := rx
    cases y with
    | byt j => obtain ⟨t', rfl⟩ := ry; exact PySem.W.ne_bytes (zbw I q (congrArg not zwb))
    | _ => exact absurd (show false = true from hs) Bool.false_ne_true
  | _ => cases y <;> exact absurd (show false = true from hs) Bool.false_ne_true
theorem zaae : OpR X (compareOp .Lt) (rI0 fun i j => .bl (decide (i < j))) := opB0 fun _ _ _ _ _ _ _ q => lt_int q
theorem zaaf : OpR X (compareOp .LtE) (rI0 fun i j => .bl (decide (i ≤ j))) := opB0 fun _ _ _ _ _ _ _ q => le_int q
theorem zwc : OpR X (compareOp .Gt) (rI0 fun i j => .bl (decide (j < i))) := opB0 fun _ _ _ _ _ _ _ q => gt_int q
theorem zakn : OpR X (compareOp .GtE) (rI0 fun i j => .bl (decide (j ≤ i))) := opB0 fun _ _ _ _ _ _ _ q => ge_int q
theorem OpR.or {f : Value → Value → Sem Value} {r r' : R2} (h : OpR X f r) (h' : OpR X f r') : OpR X f (fun x y H Q => r x y H Q ∨ r' x y H Q) := by
  intro pins s σ H x y v u Q I rx ry q
  rcases q with q | q
  · exact h pins s σ H x y v u Q I rx ry q
  · exact h' pins s σ H x y v u Q I rx ry q
theorem zbx (b : Expr) {op : CmpOp} (h : op ≠ .In := by decide) (h2 : op ≠ .NotIn := by decide) : behindInMarks op b = false := by
  have e1 : (op == CmpOp.In) = false := by cases op <;> first | rfl | exact absurd rfl h
  have e2 : (op == CmpOp.NotIn) = false := by cases op <;> first | rfl | exact absurd rfl h2
  cases b <;> simp [behindInMarks, e1, e2]
theorem zaed {op : CmpOp} {r : R2} (ho : OpR X (compareOp op) r) (ha : PE X a ta) (hb : PE X b tb) (hm : behindInMarks op b = false) : PE X (.Compare a [op] [b] pos) (tOp r ta tb) := by
  intro pins s σ H Q I h
  exact wpAny_Compare1 (binT ha hb I h fun v u s2 x y H2 I2 rx ry q => ho pins s2 σ H2 x y v u Q I2 rx ry q) hm
noncomputable def tTest (t : TE) : TT := fun σ H Q => t σ H fun x H' => ∃ k, x = .bl k ∧ Q k H'
theorem zwd {op : CmpOp} {r : R2} (ho : OpR X (compareOp op) r) (ha : PE X a ta) (hb : PE X b tb) (hm : behindInMarks op b = false) : PT X (.Compare a [op] [b] pos) (tTest (tOp r ta tb)) := by
  intro pins s σ H Q I h
  refine wpAny_isTrue_Compare1 (thn (ha pins s σ H _ I h) fun v s1 ⟨x, H1, I1, r1, q1⟩ => thn (hb pins s1 σ H1 _ I1 q1) fun u s2 ⟨y, H2, I2, r2, q2⟩ =>
    thn (ho pins s2 σ H2 x y v u _ I2 r1 r2 q2) fun c s3 ⟨z, H3, I3, r3, k, e, q3⟩ => ?_) hm
  subst e
  cases r3
  exact wpAny_truthy_bool ⟨H3, I3, q3⟩
noncomputable def tChain (r r' : R2) (ta tb tc : TE) : TE := fun σ H Q => ta σ H fun x H1 => tb σ H1 fun y H2 => r x y H2 fun z H3 => ∃ k, z = .bl k ∧
  (if k = true then tc σ H3 fun w' H4 => r' y w' H4 Q else Q (.bl false) H3)
theorem zaag {op op' : CmpOp} {r r' : R2} (ho : OpR X (compareOp op) r) (ho' : OpR X (compareOp op') r') (ha : PE X a ta) (hb : PE X b tb) (hc : PE X c tc)
    (hm : lastMarks [op, op'] [b, c] = false := by with_unfolding_all rfl) : PE X (.Compare a [op, op'] [b, c] pos) (tChain r r' ta tb tc) := by
  intro pins s σ H Q I h
  refine Compare_chain (thn (ha pins s σ H _ I h) fun v s1 ⟨x, H1, I1, r1, q1⟩ => chain_link (thn (hb pins s1 σ H1 _ I1 q1) fun u s2 ⟨y, H2, I2, r2, q2⟩ =>
    thn (ho pins s2 σ H2 x y v u _ I2 r1 r2 q2) fun d s3 ⟨z, H3, I3, r3, k, e, q3⟩ => ?_)) hm
  subst e
  cases r3
  refine wpAny_truthy_bool ?_
  cases k with
  | false => exact ite_ff ⟨.bl false, H3, I3, rfl, q3⟩
  | true => exact ite_tt (chain_last (thn (hc pins s3 σ H3 _ I3 q3) fun w' s4 ⟨z', H4, I4, r4, q4⟩ => ho' pins s4 σ H4 y z' u w' Q I4 r2 r4 q4))
theorem zaah {op op' : CmpOp} {r r' : R2} (ho : OpR X (compareOp op) r) (ho' : OpR X (compareOp op') r') (ha : PE X a ta) (hb : PE X b tb) (hc : PE X c tc)
    (hm : lastMarks [op, op'] [b, c] = false := by with_unfolding_all rfl) : PT X (.Compare a [op, op'] [b, c] pos) (tTest (tChain r r' ta tb tc)) := by
  intro pins s σ H Q I h
  refine isTrue_chain (thn (ha pins s σ H _ I h) fun v s1 ⟨x, H1, I1, r1, q1⟩ => test_link (thn (hb pins s1 σ H1 _ I1 q1) fun u s2 ⟨y, H2, I2, r2, q2⟩ =>
    thn (ho pins s2 σ H2 x y v u _ I2 r1 r2 q2) fun d s3 ⟨z, H3, I3, r3, k, e, q3⟩ => ?_)) hm
  subst e
  cases r3
  refine wpAny_truthy_bool ?_
  cases k with
  | false =>
    obtain ⟨k', e', q'⟩ := q3
    cases e'
    exact ite_ff ⟨H3, I3, q'⟩
  | true =>
    refine ite_tt (test_last (thn (hc pins s3 σ H3 _ I3 q3) fun w' s4 ⟨z', H4, I4, r4, q4⟩ => thn (ho' pins s4 σ H4 y z' u w' _ I4 r2 r4 q4) fun d' s5 ⟨z2, H5, I5, r5, k2, e2, q5⟩ => ?_))
    subst e2
    cases r5
    exact wpAny_truthy_bool ⟨H5, I5, q5⟩
noncomputable def TruV (K : PySem.W.Frag) (x : V) (H : Hp) (k : Bool) : Prop :=
  match x with
  | .non => k = false
  | .bl b => k = b
  | .int i => k = (i != 0)
  | .str y => y.length ≤ sizeLine ∧ k = ((y.length : Int) != 0)
  | .byt y => y.size ≤ sizeLine ∧ k = ((y.size : Int) != 0)
  | .ref p => (∃ xs, SqL K H p xs ∧ k = !xs.isEmpty) ∨ (∃ xs, SqT K H p xs ∧ k = !xs.isEmpty) ∨ ∃ kvs, H p = some (.dK kvs) ∧ k = !kvs.isEmpty
  | _ => False
theorem zux {κ : Type} {kvs : List (κ × V)} {vs : List (κ × Value)} (r : KV kvs vs) : (!vs.isEmpty) = !kvs.isEmpty := by
  cases r <;> rfl
theorem znd {xs : List V} {its : List Value} (r : Vals xs its) : (!its.toArray.isEmpty) = !xs.isEmpty := by
  cases r <;> simp
theorem zne : (sizeLine : Nat) < 2 ^ 63 := by rw [sizeLine_eq]; decide
theorem zaht : TruR X (fun x H Q => ∃ k, TruV X.K x H k ∧ Q k H) := by
  intro pins s σ H x v Q I rx h
  obtain ⟨k, e, q⟩ := h
  have hl := zne
  have hs : sizeLine = 16777216 := sizeLine_eq
  cases x with
  | non =>
    cases rx
    have e' : k = false := e
    subst e'
    exact truthy_none ⟨H, I, q⟩
  | bl b =>
    cases rx
    have e' : k = b := e
    subst e'
    exact wpAny_truthy_bool ⟨H, I, q⟩
  | int i =>
    obtain ⟨t, rfl⟩ := rx
    have e' : k = (i != 0) := e
    subst e'
    exact PySem.P.truthy_int ⟨H, I, q⟩
  | str y =>
    obtain ⟨t, rfl⟩ := rx
    obtain ⟨hy, e'⟩ : y.length ≤ sizeLine ∧ k = ((y.length : Int) != 0) := e
    subst e'
    exact PySem.P.truthy_str (by omega) ⟨H, I.tok _, q⟩
  | byt y =>
    obtain ⟨t, rfl⟩ := rx
    obtain ⟨hy, e'⟩ : y.size ≤ sizeLine ∧ k = ((y.size : Int) != 0) := e
    subst e'
    exact PySem.W.truthy_bytes (by omega) ⟨H, I.tok _, q⟩
  | ref p =>
    cases rx
    have e' : (∃ xs, SqL X.K H p xs ∧ k = !xs.isEmpty) ∨ (∃ xs, SqT X.K H p xs ∧ k = !xs.isEmpty) ∨ ∃ kvs, H p = some (.dK kvs) ∧ k = !kvs.isEmpty := e
    rcases e' with ⟨xs, hx, e'⟩ | ⟨xs, hx, e'⟩ | ⟨kvs, hx, e'⟩
    · subst e'
      obtain ⟨its, r, pl, hz⟩ := I.list hx
      have hlen := r.length
      exact wpAny_truthy_list pl.isList (by simp only [List.size_toArray]; omega) ⟨H, I.tok _, by rw [znd r]; exact q⟩
    · subst e'
      obtain ⟨its, r, pl, hz⟩ := I.tuple hx
      have hlen := r.length
      exact truthy_tuple pl (by simp only [List.size_toArray]; omega) ⟨H, I.tok _, by rw [znd r]; exact q⟩
    · subst e'
      obtain ⟨hz, hS, vs, r, m⟩ : kvs.length ≤ sizeLine ∧ (p == sysModules) = false ∧ ∃ vs, KV kvs vs ∧ s.heap.DictOf (zel X.prog X.w) p vs := I.hok p _ hx
      have hlen : kvs.length = vs.length := Paired.length r
      exact wpAny_truthy_dict hS m (by omega) ⟨H, I.tok _, by rw [zux r]; exact q⟩
  | _ => exact (show False from e).elim
theorem zaai (ha : PE X a ta) (he : ∀ whole, isTrue a X.env whole = (do let v ← whole; standAt a.pos; holding [v] (truthy v))) :
    PT X a (fun σ H Q => ta σ H fun x H' => ∃ k, TruV X.K x H' k ∧ Q k H') := by
  intro pins s σ H Q I h
  exact isTrue_plain (thn (ha pins s σ H _ I h) fun v s1 ⟨x, H1, I1, r1, q1⟩ => zaht pins s1 σ H1 x v Q I1 r1 q1) (he _)
theorem zuy : OpR X (binaryOp .Add) (fun x y H Q => ∃ i j, x = .str i ∧ y = .str j ∧ i.length + j.length ≤ sizeLine ∧ Q (.str (i ++ j)) H) := by
  intro pins s σ H x y v u Q I rx ry h
  obtain ⟨i, j, rfl, rfl, hz, q⟩ := h
  obtain ⟨t, rfl⟩ := rx
  obtain ⟨t', rfl⟩ := ry
  exact add_str (fun t' tk => ⟨.str (i ++ j), H, I.tok _, ⟨_, rfl⟩, q⟩) hz
theorem zuz {x : V} {us : List Value} (r : Vals [x] us) : ∃ u, us = [u] ∧ RelV x u := by
  cases r with
  | cons r1 r2 => cases r2; exact ⟨_, rfl, r1⟩
theorem zsq {x y : V} {us : List Value} (r : Vals [x, y] us) : ∃ u w', us = [u, w'] ∧ RelV x u ∧ RelV y w' := by
  cases r with
  | cons r1 r2 =>
    cases r2 with
    | cons r3 r4 => cases r4; exact ⟨_, _, rfl, r1, r3⟩
theorem zwe (hc : X.calm = true) : CallR X (.builtin "min") (fun xs H Q => ∃ i j, xs = [.int i, .int j] ∧ Q (.int (if j < i then j else i)) H) := by
  intro pins s σ H xs us Q I r h
  obtain ⟨i, j, rfl, q⟩ := h
  obtain ⟨u, w', rfl, ⟨t, rfl⟩, ⟨t', rfl⟩⟩ := zsq r
  refine min_two_ints (I.ok.hd hc) fun h' tk k => ⟨_, H, I.kept k, ?_, q⟩
  by_cases hj : j < i
  · rw [if_pos hj, if_pos hj]; exact ⟨_, rfl⟩
  · rw [if_neg hj, if_neg hj]; exact ⟨_, rfl⟩
noncomputable def LenV (K : PySem.W.Frag) (x : V) (H : Hp) (n : Nat) : Prop :=
  match x with
  | .str y => y.length ≤ sizeLine ∧ n = y.length
  | .byt y => y.size ≤ sizeLine ∧ n = y.size
  | .ref p => (∃ xs, SqL K H p xs ∧ n = xs.length) ∨ ∃ xs, SqT K H p xs ∧ n = xs.length
  | _ => False
theorem zaaj : CallR X (.builtin "len") (fun xs H Q => ∃ x n, xs = [x] ∧ LenV X.K x H n ∧ Q (.int n) H) := by
  intro pins s σ H xs us Q I r h
  obtain ⟨x, n, rfl, e, q⟩ := h
  obtain ⟨u, rfl, rx⟩ := zuz r
  have hl := zne
  have hs : sizeLine = 16777216 := sizeLine_eq
  cases x with
  | str y =>
    obtain ⟨t, rfl⟩ := rx
    obtain ⟨hy, e'⟩ : y.length ≤ sizeLine ∧ n = y.length := e
    subst e'
    exact len_str (by omega) ⟨.int _, H, I.tok _, ⟨_, rfl⟩, q⟩
  | byt y =>
    obtain ⟨t, rfl⟩ := rx
    obtain ⟨hy, e'⟩ : y.size ≤ sizeLine ∧ n = y.size := e
    subst e'
    exact PySem.W.len_bytes (by omega) ⟨.int _, H, I.tok _, ⟨_, rfl⟩, q⟩
  | ref p =>
    cases rx
    have e' : (∃ xs, SqL X.K H p xs ∧ n = xs.length) ∨ ∃ xs, SqT X.K H p xs ∧ n = xs.length := e
    rcases e' with ⟨xs, hx, e'⟩ | ⟨xs, hx, e'⟩
    · subst e'
      obtain ⟨its, r', pl, hz⟩ := I.list hx
      have hlen := r'.length
      exact Calls.call_len_list pl.isList (by simp only [List.size_toArray]; omega) ⟨.int xs.length, H, I.tok _, ⟨_, by simp only [List.size_toArray]; rw [hlen]⟩, q⟩
    · subst e'
      obtain ⟨its, r', pl, hz⟩ := I.tuple hx
      have hlen := r'.length
      exact len_tuple pl (by simp only [List.size_toArray]; omega) ⟨.int xs.length, H, I.tok _, ⟨_, by simp only [List.size_toArray]; rw [hlen]⟩, q⟩
  | _ => exact (show False from e).elim
end
end L2
namespace L2
open PySem PySem.Spec PyProof.Rows
set_option genInjectivity false in
structure ObjM (h : Heap) (x dx C : Addr) (mA : Str → Option Value) : Prop where
  obj : h.get? x = some (PySem.W.instObj C dx)
  ns : h.Ns1 dx mA
  ne : dx ≠ x
theorem zwf {h : Heap} {dx : Addr} {mA : Str → Option Value} (n : h.Ns1 dx mA) : ∃ od, h.get? dx = some od ∧ ∀ name, PySem.W.lookIn name od = some (mA name) := by
  obtain ⟨o, es, ep, ho, hd, hk, _, hm⟩ := n
  refine ⟨o, ho, fun name => ?_⟩
  have e := hm name
  unfold nsFind findBy at e
  rw [← Array.find?_toList] at e
  unfold PySem.W.lookIn
  rw [hd]
  dsimp only
  split
  · rename_i y q
    rw [q] at e
    exact congrArg some e
  · rename_i q
    rw [q] at e
    have a : es.toList.any (·.refKey) = false := by
      rw [List.any_eq_false]
      intro y hy
      obtain ⟨z, t, hkey⟩ := hk y (Array.mem_toList_iff.mp hy)
      simp [DictEntry.refKey, hkey]
    have a' : ¬ es.toList.any (·.refKey) = true := by rw [a]; exact Bool.false_ne_true
    rw [if_neg a']
    exact congrArg some e
theorem ObjM.look {h : Heap} {x dx C : Addr} {mA : Str → Option Value} (I : ObjM h x dx C mA) : ∃ od, PySem.W.InstAt h x (PySem.W.instObj C dx) C (some od) ∧ ∀ name, PySem.W.lookIn name od = some (mA name) :=
  let ⟨od, ho, hl⟩ := zwf I.ns
  ⟨od, ⟨I.obj, rfl, rfl, ho⟩, hl⟩
section
variable {prog : Program} {w : World} {A : Around} {E : Value → Shared → Prop} {s : Shared} {K : PySem.W.Frag} {x dx C f : Addr} {mA : Str → Option Value} {name : Str} {v : Value}
end
theorem zwg {v : V} {u : Value} (r : RelV v u) : PySem.W.handedIn u = true := by
  cases v with
  | non => cases (show u = Value.none from r); rfl
  | bl b => cases (show u = Value.bool b from r); rfl
  | int i => obtain ⟨t, e⟩ := (show ∃ t, u = Value.int i t from r); cases e; rfl
  | str x => obtain ⟨t, e⟩ := (show ∃ t, u = Value.str x t from r); cases e; rfl
  | byt b => obtain ⟨t, e⟩ := (show ∃ t, u = Value.bytes b t from r); cases e; rfl
  | flt b => obtain ⟨t, e⟩ := (show ∃ t, u = Value.float b t from r); cases e; rfl
  | ref a => cases (show u = Value.ref a from r); rfl
  | ty n => cases (show u = Value.type n from r); rfl
section
variable {P : Program} {w : World} {H H' : Hp} {h h' : Heap} {a C dx : Addr} {fs fs' : List (Str × V)}
theorem zaee (hok : HOk P w H h) (e : H a = some (.ins C dx fs)) : ∃ mA, ObjM h a dx C mA ∧ (∀ f, RelO (fs.lookup f) (mA f)) ∧ PySem.Within mA (fs.map (·.1)) ∧ fs.length ≤ 1000 ∧ H dx = some (.own a) := by
  obtain ⟨d, z, ne, ob, mA, n, r, q⟩ := (show zeb P w H h a (.ins C dx fs) from hok a _ e)
  exact ⟨mA, ⟨ob, n, ne⟩, r, q, z, d⟩
end
set_option genInjectivity false in
structure Cls (K : PySem.W.Frag) (C : Addr) : Prop where
  pg : PySem.W.plainGet K C Str.empty = true
  hd : PySem.W.hasDictIn K C = true
  po : PySem.W.plainOver K C = true
  sa : PySem.W.findIn K (.ref C) "__setattr__" = some (some (.builtin "object.__setattr__"))
theorem Cls.get {K : PySem.W.Frag} {C : Addr} (c : Cls K C) (f : Str) : PySem.W.plainGet K C f = true := c.pg
set_option genInjectivity false in
set_option genInjectivity false in
section
variable {X : Cx} {pins : List (Addr × Obj)} {σ : St} {H : Hp} {s : Shared} {a C dx : Addr} {fs : List (Str × V)} {f : Str} {v : V} {A : Around} {E : Value → Shared → Prop}
theorem zaef {prog : Program} {w : World} {env : Env} {e : Expr} {f : Str} {pos : Pos} {s : Shared} {Q : Value → Shared → Prop} (hb : attributeBase e f env (eval e env) = eval e env)
    (h : wpAny (model prog w) A (eval e env) (fun o s₁ => wpAny (model prog w) A (getAttr o f true) Q E s₁) E s) : wpAny (model prog w) A (eval (.Attribute e f pos) env) Q E s :=
  Attribute_any_ h (by rw [arm_eval_Attribute, hb])
end
section
variable {X : Cx} {o e value : Expr} {f : Str} {pos pos' tpos : Pos} {ta tv : TE}
end
section
variable {X : Cx} {pins : List (Addr × Obj)} {σ : St} {H : Hp} {s : Shared} {A : Around} {E : Value → Shared → Prop} {Q : Value → Shared → Prop} {c : Value} {b : Bool}
inductive TyOf (K : PySem.W.Frag) (H : Hp) : V → Value → Prop where
  | non : TyOf K H .non (.type "NoneType")
  | bl (x : Bool) : TyOf K H (.bl x) (.type "bool")
  | int (i : Int) : TyOf K H (.int i) (.type "int")
  | str (x : Str) : TyOf K H (.str x) (.type "str")
  | flt (x : UInt64) : TyOf K H (.flt x) (.type "float")
  | lst {a : Addr} {xs : List V} (e : H a = some (.lst xs)) : TyOf K H (.ref a) (.type "list")
  | frz {a : Addr} {o : Obj} {xs : List V} (e : H a = some (.frz o (.lst xs))) : TyOf K H (.ref a) (.type "list")
  | tup {a : Addr} {xs : List V} (e : H a = some (.tup xs)) : TyOf K H (.ref a) (.type "tuple")
  | dK {a : Addr} {kvs : List (Key × V)} (e : H a = some (.dK kvs)) : TyOf K H (.ref a) (.type "dict")
  | dT {a : Addr} {kvs : List (List Key × V)} (e : H a = some (.dT kvs)) : TyOf K H (.ref a) (.type "dict")
  | ins {a C dx : Addr} {fs : List (Str × V)} (e : H a = some (.ins C dx fs)) (cl : Cls K C) (ha : PySem.W.findIn K (.ref C) "__class__" = some (some (.builtin "object.__class__")))
      (hn : PySem.W.specialIn K (.builtin "object.__class__") "__get__" = some (some (.builtin "getset_descriptor.__get__"))) (htk : PySem.W.takesIn K (.builtin "object.__class__") = some true)
      (hm : PySem.W.mroIn K C (.type "object") = some true) : TyOf K H (.ref a) (.ref C)
theorem zwh {x : V} {u t : Value} (I : Inv X pins σ H s) (rx : RelV x u) (ty : TyOf X.K H x t) (e : PySem.W.kitOne X.K t c = some b) (h : ∀ tk, Q (.bool b) { s with toks := tk }) :
    wpAny (model X.prog X.w) A (call (.builtin "isinstance") [u, c]) Q E s := by
  cases ty with
  | non => cases (show u = Value.none from rx); exact PySem.W.kia_one PySem.W.kitx_none I.kIn True.intro e (fun z => nomatch z) h
  | bl y => cases (show u = Value.bool y from rx); exact PySem.W.kia_one PySem.W.kitx_bool I.kIn True.intro e (fun z => nomatch z) h
  | int i => obtain ⟨t, q⟩ := (show ∃ t, u = Value.int i t from rx); cases q; exact PySem.W.kia_one PySem.W.kitx_int I.kIn True.intro e (fun z => nomatch z) h
  | str y => obtain ⟨t, q⟩ := (show ∃ t, u = Value.str y t from rx); cases q; exact PySem.W.kia_one PySem.W.kitx_str I.kIn True.intro e (fun z => nomatch z) h
  | flt y => obtain ⟨t, q⟩ := (show ∃ t, u = Value.float y t from rx); cases q; exact PySem.W.kia_one PySem.W.kitx_float I.kIn True.intro e (fun z => nomatch z) h
  | @lst a xs ea =>
    cases (show u = Value.ref a from rx)
    obtain ⟨_, _, n, _, h1⟩ := (show zeb X.prog X.w H s.heap a (.lst xs) from I.hok a _ ea)
    exact PySem.W.kia_one PySem.W.kitx_list I.kIn ⟨_, h1, rfl⟩ e (fun z => nomatch z) h
  | @frz a ob xs ea =>
    cases (show u = Value.ref a from rx)
    obtain ⟨_, _, _, n, _, h1⟩ := (show zeb X.prog X.w H s.heap a (.frz ob (.lst xs)) from I.hok a _ ea)
    exact PySem.W.kia_one PySem.W.kitx_list I.kIn ⟨_, h1, rfl⟩ e (fun z => nomatch z) h
  | @tup a xs ea =>
    cases (show u = Value.ref a from rx)
    obtain ⟨_, _, _, p⟩ := (show zeb X.prog X.w H s.heap a (.tup xs) from I.hok a _ ea)
    obtain ⟨o, h1, h2, _⟩ := p
    exact PySem.W.kia_one PySem.W.kitx_tuple I.kIn ⟨o, h1, h2⟩ e (fun z => nomatch z) h
  | @dK a kvs ea =>
    cases (show u = Value.ref a from rx)
    obtain ⟨_, _, vs, _, p⟩ := (show zeb X.prog X.w H s.heap a (.dK kvs) from I.hok a _ ea)
    obtain ⟨o, es, ep, h1, h2, _⟩ := p
    exact PySem.W.kia_one PySem.W.kitx_dict I.kIn ⟨o, h1, h2.1⟩ e (fun z => nomatch z) h
  | @dT a kvs ea =>
    cases (show u = Value.ref a from rx)
    obtain ⟨_, _, xs, _, o, es, ep, h1, h2, _⟩ := (show zeb X.prog X.w H s.heap a (.dT kvs) from I.hok a _ ea)
    exact PySem.W.kia_one PySem.W.kitx_dict I.kIn ⟨o, h1, h2.1⟩ e (fun z => nomatch z) h
  | @ins a C dx fs ea cl ha hn htk hm =>
    cases (show u = Value.ref a from rx)
    obtain ⟨mA, O, _⟩ := zaee I.hok ea
    obtain ⟨od, J, _⟩ := O.look
    exact PySem.W.kia_one (PySem.W.kitx_own (cl.get _) cl.hd ha hn htk hm) I.kIn J e (fun z => nomatch z) h
end
end L2
namespace L2
open PySem PySem.Spec PyProof.Rows
set_option genInjectivity false in
structure Room (k : Nat) (A : Around) : Prop where
  hd : A.handled = none
  dp : A.depth + 3 * k + 5 < recursionLimit
  un : A.units + 16 * k + 200 < cLine
theorem Room.mono {j k : Nat} {A : Around} (r : Room k A) (h : j ≤ k) : Room j A := ⟨r.hd, by have := r.dp; omega, by have := r.un; omega⟩
theorem Room.deeper {k : Nat} {A : Around} (r : Room (k + 1) A) (env : Env) : Room k (A.deeper env) :=
  ⟨r.hd, by have := r.dp; show A.depth + 1 + 3 * k + 5 < _; omega, by have := r.un; show A.units + 3 + 16 * k + 200 < _; omega⟩
theorem zva {A : Around} {C : Addr} {us : List Value} {kw : List (Str × Value)} : (A.under (.builtin "type.__call__" ⟨.ref C :: us, kw⟩)).depth = A.depth + 1 := by
  first | rfl | simp [Around.under, Code.weight, Code.isCreation, Code.isGuard, Code.isCaller, Code.frames, Code.isFrame, guardIds]
theorem zvb {A : Around} {C : Addr} {us : List Value} {kw : List (Str × Value)} : (A.under (.builtin "type.__call__" ⟨.ref C :: us, kw⟩)).units = A.units + 1 := by
  first | rfl | simp [Around.under, Code.cUnits, Code.frames, Code.isFrame]
theorem Room.make {k : Nat} {A : Around} (r : Room (k + 1) A) (C : Addr) (us : List Value) (kw : List (Str × Value)) : Room k (A.under (.builtin "type.__call__" ⟨.ref C :: us, kw⟩)) :=
  ⟨r.hd, by have := r.dp; rw [zva]; omega, by have := r.un; rw [zvb]; omega⟩
theorem Room.depth {k : Nat} {A : Around} (r : Room k A) : A.depth < recursionLimit := by have := r.dp; omega
theorem Room.units {k : Nat} {A : Around} (r : Room k A) : A.units + 64 < cLine := by have := r.un; omega
noncomputable def tNil : TA := fun _ H Q => Q [] H
noncomputable def tCons (ta : TE) (tr : TA) : TA := fun σ H Q => ta σ H fun x H1 => tr σ H1 fun xs H2 => Q (x :: xs) H2
section
variable {X : Cx} {e : Expr} {es : List Expr} {te : TE} {t : TA} {pos : Pos}
theorem zkq : PA X [] tNil := fun _ _ _ _ H Q I h => Calls.spliced_nil ⟨[], H, I, .nil, h⟩
theorem zhi (ha : PE X e te) (hr : PA X es t) (hs : starEach (e :: es) X.env = (false, eval e X.env) :: starEach es X.env := by rfl) : PA X (e :: es) (tCons te t) := by
  intro pos pins s σ H Q I h
  rw [hs]
  show wpAny _ _ (spliced ((false, eval e X.env) :: backTo pos (starEach es X.env))) _ _ s
  refine Calls.spliced_cons (thn (ha pins s σ H _ I h) fun u s1 ⟨x, H1, I1, r1, q1⟩ => ?_)
  exact thn (hr pos pins s1 σ H1 _ I1 q1) fun us s2 ⟨xs, H2, I2, r2, q2⟩ => ⟨x :: xs, H2, I2, .cons r1 r2, q2⟩
noncomputable def tTup (t : TA) : TE := fun σ H Q => t σ H fun xs H1 => xs.length ≤ sizeLine ∧ ∀ p, H1 p = none → Q (.ref p) (upd H1 p (.tup xs))
noncomputable def tLst (t : TA) : TE := fun σ H Q => t σ H fun xs H1 => xs.length ≤ sizeLine ∧ ∀ p, H1 p = none → Q (.ref p) (upd H1 p (.lst xs))
theorem zahu {x1} (h : PA X es t) : PE X (.Tuple es x1 pos) (tTup t) := by
  intro pins s σ H Q I hq
  refine wpAny_Tuple_spliced (thn (h pos pins s σ H _ I hq) fun us s1 ⟨xs, H1, I1, r, z, q⟩ => ⟨by rw [← r.length]; exact z, ?_⟩)
  have hf : H1 s1.heap.objs.size = none := I1.hok.fresh (Nat.le_refl _)
  refine ⟨.ref s1.heap.objs.size, upd H1 s1.heap.objs.size (.tup xs), I1.laid (t' := s1.toks) (fun b u e => Heap.get?_push_of_some _ e) (Nat.le_refl _) ?_, rfl, q _ hf⟩
  exact ⟨z, us, r, ⟨_, Heap.get?_push_size _ rfl, rfl, _, rfl⟩⟩
theorem zacs (h : PA X es t) : PE X (.List es pos) (tLst t) := by
  intro pins s σ H Q I hq
  refine wpAny_List_spliced (thn (h pos pins s σ H _ I hq) fun us s1 ⟨xs, H1, I1, r, z, q⟩ => ⟨by rw [← r.length]; exact z, ?_⟩)
  have hf : H1 s1.heap.objs.size = none := I1.hok.fresh (Nat.le_refl _)
  refine ⟨.ref s1.heap.objs.size, upd H1 s1.heap.objs.size (.lst xs), I1.laid (t' := s1.toks) (fun b u e => Heap.get?_push_of_some _ e) (Nat.le_refl _) ?_, rfl, q _ hf⟩
  exact ⟨z, us, 0, r, Heap.get?_push_size _ rfl⟩
end
noncomputable abbrev Sp := List V → Hp → VK → XK → Prop
noncomputable abbrev CXT := List Env → Hp → Shared → XK → Value → Shared → Prop
set_option genInjectivity false in
structure Env0 (P : Program) (w : World) (K : PySem.W.Frag) (mg : Str → Option Value) (base : Heap) (A : Around) (outer : List Env) (s : Shared) (H : Hp) : Prop where
  frames : A.frames = some outer
  mod : Mod K mg base
  bs : ∀ b o, base.get? b = some o → s.heap.get? b = some o ∧ H b = none
  bsz : base.objs.size ≤ s.heap.objs.size
  funs : s.heap.FunFrames base outer
  frf : ∀ b ∈ frs outer, H b = none
  hok : HOk P w H s.heap
  bare : AllBare s.gens
noncomputable def CE (outer : List Env) (P : Program) (w : World) (H : Hp) (s : Shared) (Q : VK) (u : Value) (s' : Shared) : Prop :=
  ∃ v H', s'.os = s.os ∧ AllBare s'.gens ∧ Un (frs outer) [] H H' s.heap s'.heap ∧ HOk P w H' s'.heap ∧ RelV v u ∧ Q v H'
noncomputable def CR (CX : CXT) (outer : List Env) (P : Program) (w : World) (H : Hp) (s : Shared) (Q : VK) (E : XK) (r : Result) (s' : Shared) : Prop :=
  match r with
  | .ok (.ret u) => CE outer P w H s Q u s'
  | .ok _ => False
  | .error e => CX outer H s E e s'
set_option genInjectivity false in
structure FnOk (P : Program) (w : World) (K : PySem.W.Frag) (mg : Str → Option Value) (base : Heap) (CX : CXT) (k : Nat) (f : Addr) (fd : FuncData) (ps : List Str) (sp : Sp) : Prop where
  len : ∀ vs H Q E, sp vs H Q E → vs.length = ps.length
  run : ∀ (A : Around) (outer : List Env) (s : Shared) (H : Hp) (args : Args) (us : List Value) (vs : List V) (Q : VK) (E : XK), Room k A → Env0 P w K mg base A outer s H → BindsTo s fd args (ps.zip us) → Vals vs us → sp vs H Q E →
    codeAny (model P w) A (.call (.ref f) args) (CR CX outer P w H s Q E) s
theorem Env0.make {P : Program} {w : World} {K : PySem.W.Frag} {mg : Str → Option Value} {base : Heap} {A : Around} {outer : List Env} {s : Shared} {H : Hp} (e : Env0 P w K mg base A outer s H) (C : Addr) (us : List Value) (kw : List (Str × Value)) :
    Env0 P w K mg base (A.under (.builtin "type.__call__" ⟨.ref C :: us, kw⟩)) outer s H := ⟨by first | exact e.frames | (simpa [Around.under, Code.envs, Code.isFrame, pushEnvs] using e.frames), e.mod, e.bs, e.bsz, e.funs, e.frf, e.hok, e.bare⟩
section
variable {X : Cx} {pins : List (Addr × Obj)} {σ : St} {H : Hp} {s s' : Shared}
theorem Inv.env0 (I : Inv X pins σ H s) : Env0 X.prog X.w X.K X.mg X.base X.A X.stack s H :=
  ⟨I.ok.frames, I.ok.mod, I.bs, Nat.le_trans I.ok.bsz I.sz, I.stack, I.stkFree, I.hok, I.bare⟩
theorem Inv.after {Q : VK} {u : Value} (I : Inv X pins σ H s) (h : CE X.stack X.prog X.w H s Q u s') : EP X pins σ Q u s' := by
  obtain ⟨v, H', os, bare, un, hok, r, q⟩ := h
  obtain ⟨hh, g, d, t, os'⟩ := s'
  obtain rfl : os' = s.os := os
  exact ⟨v, H', I.call (h' := hh) (g' := g) (d' := d) (t' := t) (ch := []) un hok bare (fun b z => absurd z (by simp)), r, q⟩
end
noncomputable def tCall (sp : Sp) (dvs : List V) (E : XK) (t : TA) : TE := fun σ H Q => t σ H fun vs H1 => sp (vs ++ dvs) H1 Q E
noncomputable def zla (K : PySem.W.Frag) (fd : FuncData) (ps : List Str) (ds : List Value) : Prop :=
  ∀ (s : Shared) (us : List Value), K.In s.heap → (us ++ ds).length = ps.length → BindsTo s fd ⟨us, []⟩ (ps.zip (us ++ ds))
theorem zla.all {K : PySem.W.Frag} {fd : FuncData} {ps : List Str} (h : ∀ us : List Value, us.length = ps.length → bindArgs fd ⟨us, []⟩ = pure (ps.zip us)) : zla K fd ps [] := fun s us _ hl => by
  rw [List.append_nil] at hl ⊢
  exact .of_eq (h us hl)
noncomputable def zwi (CX : CXT) (X : Cx) (E : XK) : Prop := ∀ (pins : List (Addr × Obj)) (σ : St) (H : Hp) (s : Shared) (e : Value) (s' : Shared), Inv X pins σ H s → CX X.stack H s E e s' → X.xe e s'
section
variable {X : Cx} {CX : CXT} {k : Nat} {f C : Addr} {fd : FuncData} {ps : List Str} {sp : Sp} {dvs : List V} {ds : List Value} {E : XK} {x m : Str} {p pos apos : Pos} {e o : Expr} {es : List Expr} {ta : TE} {t : TA}
theorem zahv {pins : List (Addr × Obj)} {σ : St} {H : Hp} {s : Shared} {Q : VK} {us : List Value} {vs : List V} (F : FnOk X.prog X.w X.K X.mg X.base CX k f fd ps sp) (hr : Room k X.A) (hb : zla X.K fd ps ds) (hd : Vals dvs ds) (hx : zwi CX X E)
    (I : Inv X pins σ H s) (r : Vals vs us) (h : sp (vs ++ dvs) H Q E) : wpAny (model X.prog X.w) X.A (call (.ref f) us) (EP X pins σ Q) X.xe s := by
  have r2 : Vals (vs ++ dvs) (us ++ ds) := r.append hd
  have hl : (us ++ ds).length = ps.length := by rw [← r2.length]; exact F.len _ _ _ _ h
  refine wpAny_call (codeAny_mono (F.run X.A X.stack s H ⟨us, []⟩ (us ++ ds) (vs ++ dvs) Q E hr I.env0 (hb s us I.kIn hl) r2 h) fun r s' hq => ?_)
  cases r with
  | error e => exact hx pins σ H s e s' I hq
  | ok fl =>
    cases fl with
    | ret u => exact I.after hq
    | next => exact False.elim hq
    | brk => exact False.elim hq
    | cont => exact False.elim hq
theorem zaeg (F : FnOk X.prog X.w X.K X.mg X.base CX k f fd ps sp) (hr : Room k X.A) (hg : Gl X x) (hm : X.mg x = some (.ref f)) (hk : PySem.W.keepIn X.K (.ref f) = true) (hb : zla X.K fd ps ds) (hd : Vals dvs ds) (hx : zwi CX X E)
    (ha : PA X (e :: es) t) (hdb : (x == ("__debug__" : Str)) = false := by decide) (he : starEach (e :: es) X.env = (false, eval e X.env) :: starEach es X.env := by rfl) (hpl : (backTo pos (starEach es X.env)).any (·.1) = false := by rfl) :
    PE X (.Call (.Name x p) (e :: es) [] pos) (tCall sp dvs E t) := by
  intro pins s σ H Q I h
  refine wpAny_Call_Name_kw (zhh I hg hm ?_ hdb)
  refine PySem.W.callWith_K (h₀ := X.base) I.ok.mod.kin hk (thn (ha pos pins s σ H _ I h) fun us s1 ⟨vs, H1, I1, r, q⟩ => ⟨I1.kIn, ?_⟩) he hpl
  exact zahv F hr hb hd hx I1 r q
set_option genInjectivity false in
end
section
variable {X : Cx} {CX : CXT} {k : Nat} {f C : Addr} {fd : FuncData} {ps ks : List Str} {sp : Sp} {E : XK} {x m : Str} {p pos apos kpos : Pos} {e o : Expr} {es : List Expr} {kws : List Keyword} {te ta : TE} {t tk : TA} {nm : Option Str}
set_option genInjectivity false in
variable {g : List Value → List Value → List Value} {gV : List V → List V → List V}
end
set_option genInjectivity false in
structure FnScope (N P : List Str) (sc : Scope) : Prop where
  kind : sc.kind = .function
  co : sc.isCoroutine = false
  gen : sc.isGenerator = false
  nd : N.Nodup
  pre : N.take P.length = P
  par : ∀ x ∈ P, sc.names.lookup x = some .local ∨ sc.names.lookup x = some .cell
  nofree : ∀ y ∈ sc.names, y.2 ≠ .free
theorem zps {kindOf : Str → Option NameKind} {x : Str} : ∀ {binds : List (Str × Value)} {m : Str → Option Value}, (∀ v, (x, v) ∉ binds) → bindL kindOf binds m x = m x
  | [], _, _ => rfl
  | (n, v) :: r, m, h => by
    unfold bindL
    rw [zps fun w hw => h w (List.mem_cons_of_mem _ hw)]
    split
    · have : x ≠ n := by rintro rfl; exact h v List.mem_cons_self
      simp [this]
    · rfl
theorem zpt {kindOf : Str → Option NameKind} {x : Str} : ∀ {binds : List (Str × Value)} {m : Str → Option Value}, (∀ v, (x, v) ∉ binds) → bindC kindOf binds m x = m x
  | [], _, _ => rfl
  | (n, v) :: r, m, h => by
    unfold bindC
    rw [zpt fun w hw => h w (List.mem_cons_of_mem _ hw)]
    split
    · rfl
    · have : x ≠ n := by rintro rfl; exact h v List.mem_cons_self
      simp [this]
theorem zpu {kindOf : Str → Option NameKind} {x : Str} {v : Value} : ∀ {P : List Str} {vs : List Value} {i : Nat} {m : Str → Option Value}, P.Nodup → P[i]? = some x → vs[i]? = some v → kindOf x = some .local →
    bindL kindOf (P.zip vs) m x = some v
  | [], _, _, _, _, h, _, _ => by simp at h
  | _ :: _, [], _, _, _, _, h, _ => by simp at h
  | p :: P, w :: vs, 0, m, nd, h1, h2, hk => by
    simp at h1 h2; subst h1; subst h2
    show bindL kindOf ((p, w) :: P.zip vs) m p = _
    unfold bindL
    rw [zps fun v hv => (List.nodup_cons.mp nd).1 (List.of_mem_zip hv).1, if_pos hk]
    simp
  | p :: P, w :: vs, i + 1, m, nd, h1, h2, hk => by
    show bindL kindOf ((p, w) :: P.zip vs) m x = _
    unfold bindL
    exact zpu (i := i) (List.nodup_cons.mp nd).2 (by simpa using h1) (by simpa using h2) hk
theorem zpv {kindOf : Str → Option NameKind} {x : Str} {v : Value} : ∀ {P : List Str} {vs : List Value} {i : Nat} {m : Str → Option Value}, P.Nodup → P[i]? = some x → vs[i]? = some v → kindOf x ≠ some .local →
    bindC kindOf (P.zip vs) m x = some v
  | [], _, _, _, _, h, _, _ => by simp at h
  | _ :: _, [], _, _, _, _, h, _ => by simp at h
  | p :: P, w :: vs, 0, m, nd, h1, h2, hk => by
    simp at h1 h2; subst h1; subst h2
    show bindC kindOf ((p, w) :: P.zip vs) m p = _
    unfold bindC
    rw [zpt fun v hv => (List.nodup_cons.mp nd).1 (List.of_mem_zip hv).1, if_neg hk]
    simp
  | p :: P, w :: vs, i + 1, m, nd, h1, h2, hk => by
    show bindC kindOf ((p, w) :: P.zip vs) m x = _
    unfold bindC
    exact zpv (i := i) (List.nodup_cons.mp nd).2 (by simpa using h1) (by simpa using h2) hk
noncomputable def zjc (N : List Str) (vs : List V) : St := vs.map some ++ List.replicate (N.length - vs.length) none
noncomputable def cxOf (CX : CXT) (P : Program) (w : World) (K : PySem.W.Frag) (mg : Str → Option Value) (base : Heap) (N : List Str) (qual : Str) (scope : Scope) (f : Addr) (cd : Value) (A : Around) (outer : List Env) (s : Shared) (H : Hp) (E : XK) : Cx where
  prog := P
  w := w
  K := K
  mg := mg
  base := base
  A := A.deeper (envOfC qual scope s.heap.objs.size f cd)
  N := N
  s₀ := s
  H₀ := H
  env := envOfC qual scope s.heap.objs.size f cd
  outer := outer
  stack := envOfC qual scope s.heap.objs.size f cd :: outer
  ex := []
  calm := true
  fn := fun _ => true
  pn := []
  xe := fun e s' => wpAny (model P w) (A.deeper (envOfC qual scope s.heap.objs.size f cd)) (leaving (envOfC qual scope s.heap.objs.size f cd) e) (fun _ s'' => CX outer H s E e s'') (fun e' s'' => CX outer H s E e' s'') s'
theorem zob {sc : Scope} {n : Nat} {x : Str} (h : sc.names.lookup x = some .cell) : ∃ c, (cellsFrom n sc.names []).lookup x = some c := by
  have q := PySem.W.cellsFrom_some sc.names n [] (.inl h)
  exact Option.isSome_iff_exists.mp q
theorem zpw {CX : CXT} {P : Program} {w : World} {K : PySem.W.Frag} {mg : Str → Option Value} {base : Heap} {N ps : List Str} {qual : Str} {scope : Scope} {f : Addr} {cd : Value} {A : Around} {outer : List Env} {s s1 : Shared} {H : Hp} {E : XK} {us : List Value} {vs : List V}
    (S : FnScope N ps scope) (hd : A.handled = none) (e0 : Env0 P w K mg base A outer s H) (hl : vs.length = ps.length) (r : Vals vs us)
    (x : InCallC s s.heap.objs.size (bindL (envOfC qual scope s.heap.objs.size f cd).kindOf (ps.zip us) fun _ => none) (cellsFrom (s.heap.objs.size + 1) scope.names []) (bindC (envOfC qual scope s.heap.objs.size f cd).kindOf (ps.zip us) fun _ => none) s1) :
    Inv (cxOf CX P w K mg base N qual scope f cd A outer s H E) [] (zjc N vs) H s1 := by
  have hpl : ps.length ≤ N.length := by have := congrArg List.length S.pre; rw [List.length_take] at this; omega
  obtain ⟨h1, tk, rfl, hk⟩ := x.done
  have noA : ∀ b : Addr, b ∉ (cxOf CX P w K mg base N qual scope f cd A outer s H E).ex := fun b z => absurd (show b ∈ ([] : List Addr) from z) (by simp)
  refine ⟨⟨e0.mod, S.kind, rfl, rfl, Nat.le_refl _, fun y z c h1 h2 => ?_, fun y hy => ?_, fun y c _ h => ?_, fun _ => hd, Around.frames_deeper e0.frames, .inr ⟨rfl, rfl⟩, fun b z => absurd z (noA b), e0.bs, e0.bsz, fun b _ _ => noA b, fun b z => absurd z (noA b), e0.funs, e0.frf⟩,
    rfl, e0.bare, Un.kept hk, ⟨_, x.toInCall.ns, fun i y v h1 h2 h3 => ?_⟩, fun y c h => ⟨_, x.cell y c h⟩, e0.hok.fresh (Nat.le_refl _), fun y c h => ?_, fun p hp => absurd (show p ∈ ([] : List (Addr × Obj)) from hp) (by simp), e0.hok.kept hk, ?_⟩
  · exact name_of_addr x.apart (PySem.mem_of_lookup h1) (PySem.mem_of_lookup h2)
  · have hy : scope.names.lookup y = some .cell ∨ scope.names.lookup y = some .free := hy
    rcases hy with hy | hy
    · exact zob hy
    · exact absurd rfl (S.nofree _ (PySem.mem_of_lookup hy))
  · exact Nat.le_of_lt (x.above y c (PySem.mem_of_lookup h))
  · have hi : i < vs.length := by
      unfold zjc at h2
      by_cases hi : i < vs.length
      · exact hi
      · rw [List.getElem?_append_right (by simpa using hi)] at h2
        rw [List.getElem?_replicate] at h2
        split at h2 <;> cases h2
    have ha : vs[i]? = some v := by
      unfold zjc at h2
      rw [List.getElem?_append_left (by simpa using hi), List.getElem?_map] at h2
      cases e : vs[i]? with
      | none => rw [e] at h2; cases h2
      | some a => rw [e] at h2; cases h2; rfl
    obtain ⟨u, hu, rv⟩ := r.get ha
    have hp : ps[i]? = some y := by
      rw [← S.pre, List.getElem?_take_of_lt (by omega)]; exact h1
    have ndP : ps.Nodup := by rw [← S.pre]; exact S.nd.sublist (List.take_sublist _ _)
    refine ⟨u, rv, ?_⟩
    rcases S.par y (List.mem_of_getElem? hp) with k | k
    · exact .inl ⟨k, zpu ndP hp hu k⟩
    · obtain ⟨c, e⟩ := zob (n := s.heap.objs.size + 1) k
      refine .inr ⟨.inl k, c, e, ?_⟩
      have q := x.cell y c e
      rw [zpv ndP hp hu (by show scope.names.lookup y ≠ _; rw [k]; decide)] at q
      exact q
  · exact e0.hok.fresh (Nat.le_of_lt (x.above y c (PySem.mem_of_lookup h)))
  · unfold zjc
    show _ = N.length
    rw [List.length_append, List.length_map, List.length_replicate]
    omega
theorem zako {CX : CXT} {P : Program} {w : World} {K : PySem.W.Frag} {mg : Str → Option Value} {base : Heap} {k : Nat} {f : Addr} {name qual : Str} {params : Arguments} {body : List Stmt} {scope : Scope} {dV kV doc pm cdv ct oc : Value} {an od : Option Addr}
    {osl : Array (Option Value)} {N ps : List Str} {sp : Sp} (lk : K.lookup f = some ⟨oc, od, .func (PySem.W.fnOf name qual params body scope dV kV doc pm an cdv ct), osl⟩) (hcd : PySem.W.codeIn K cdv qual = true) (S : FnScope N ps scope)
    (len : ∀ vs H Q E, sp vs H Q E → vs.length = ps.length)
    (hbody : ∀ (A : Around) (outer : List Env) (s : Shared) (H : Hp) (vs : List V) (Q : VK) (E : XK), Room k (A.deeper (envOfC qual scope s.heap.objs.size f cdv)) → sp vs H Q E →
      ∃ t, PSs (cxOf CX P w K mg base N qual scope f cdv A outer s H E) body t ∧ t { nx := fun _ H' => Q .non H', rt := Q } (zjc N vs) H) :
    FnOk P w K mg base CX (k + 1) f (PySem.W.fnOf name qual params body scope dV kV doc pm an cdv ct) ps sp := by
  refine ⟨len, fun A outer s H args us vs Q E hr e0 hb r hsp => ?_⟩
  have hl := len _ _ _ _ hsp
  have KX : K.In s.heap := e0.mod.kin.keeps fun b o e => (e0.bs b o e).1
  have lim : s.heap.NoLimit := e0.mod.nolimit.keeps fun b o e => (e0.bs b o e).1
  have hkind : ∀ y ∈ ps.zip us, scope.names.lookup y.1 = some .local ∨ (scope.names.lookup y.1 = some .cell ∧ ((cellsFrom (s.heap.objs.size + 1) scope.names []).lookup y.1).isSome = true) := fun ⟨n, v⟩ hy => by
    rcases S.par n (List.of_mem_zip hy).1 with q | q
    · exact .inl q
    · exact .inr ⟨q, PySem.W.cellsFrom_some _ _ _ (.inl q)⟩
  refine codeAny_call_function hr.depth (KX _ _ lk) rfl S.co S.gen rfl (PySem.W.codeRec_of KX hcd) (hb _ _ _ _ ?_)
  refine wpAny_newFunctionEnv_cells S.kind hkind fun env he s1 x => ?_
  subst he
  refine ⟨lim.keeps x.toInCall.keep, codeAny_func ?_⟩
  obtain ⟨t, ht, hq⟩ := hbody A outer s H vs Q E (hr.deeper _) hsp
  have I : Inv (cxOf CX P w K mg base N qual scope f cdv A outer s H E) [] (zjc N vs) H s1 := zpw S hr.hd e0 hl r x
  refine wpAny_mono (ht [] s1 (zjc N vs) H _ I hq) (fun fl s' hs => ?_) fun e s' hs => hs
  have fin : ∀ {σ' : St} {H' : Hp} {v : V} {u : Value}, Inv (cxOf CX P w K mg base N qual scope f cdv A outer s H E) [] σ' H' s' → RelV v u → Q v H' → CE outer P w H s Q u s' :=
    fun {σ' H' v u} J rv q => ⟨v, H', J.os, J.bare, J.base, J.hok, rv, q⟩
  cases fl with
  | ret u =>
    obtain ⟨v, σ', H', J, rv, q⟩ := hs
    exact fin J rv q
  | next =>
    obtain ⟨σ', H', J, q⟩ := hs
    exact fin (v := V.non) (u := Value.none) J rfl q
  | brk =>
    obtain ⟨_, _, _, q⟩ := hs
    exact False.elim q
  | cont =>
    obtain ⟨_, _, _, q⟩ := hs
    exact False.elim q
end L2
namespace L2
open PySem PySem.Spec PyProof.Rows
section
variable {X : Cx} {x : Str} {p pos : Pos} {e : Expr} {es : List Expr} {t : TA} {id T : String} {r : List V → Hp → VK → Prop}
noncomputable def tCB (r : List V → Hp → VK → Prop) (t : TA) : TE := fun σ H Q => t σ H fun vs H1 => r vs H1 Q
theorem ztv (hc : CallR X (.builtin id) r) (hg : Gl X x) (hm : X.mg x = none) (hv : bootBuiltins x = some (.builtin id)) (ha : PA X (e :: es) t) (hn : x ≠ "__name__" := by decide) (hdb : (x == ("__debug__" : Str)) = false := by decide)
    (he : starEach (e :: es) X.env = (false, eval e X.env) :: starEach es X.env := by rfl) (hpl : (backTo pos (starEach es X.env)).any (·.1) = false := by rfl) : PE X (.Call (.Name x p) (e :: es) [] pos) (tCB r t) := by
  intro pins s σ H Q I h
  refine wpAny_Call_Name_kw (zkp I hg hm hv ?_ hn hdb)
  exact PyProof.Rows.callWith_builtin1 (thn (ha pos pins s σ H _ I h) fun us s1 ⟨vs, H1, I1, r1, q1⟩ => hc pins s1 σ H1 vs us Q I1 r1 q1) he hpl
theorem zwj (hc : CallR X (.type T) r) (hg : Gl X x) (hm : X.mg x = none) (hv : bootBuiltins x = some (.type T)) (ha : PA X (e :: es) t) (hn : x ≠ "__name__" := by decide) (hdb : (x == ("__debug__" : Str)) = false := by decide)
    (he : starEach (e :: es) X.env = (false, eval e X.env) :: starEach es X.env := by rfl) (hpl : (backTo pos (starEach es X.env)).any (·.1) = false := by rfl) : PE X (.Call (.Name x p) (e :: es) [] pos) (tCB r t) := by
  intro pins s σ H Q I h
  refine wpAny_Call_Name_kw (zkp I hg hm hv ?_ hn hdb)
  exact PyProof.Rows.callWith_type1 (thn (ha pos pins s σ H _ I h) fun us s1 ⟨vs, H1, I1, r1, q1⟩ => hc pins s1 σ H1 vs us Q I1 r1 q1) he hpl
end
end L2
namespace HT
open PySem PyProof.Rows
section
open PySem.SeqAt
open PySem.AutoSeq1 (wpAny_loadPart')
open PySem.MeetsSeq PySem.MeetsSeq2 PySem.MeetsSeq3
end
section
variable {prog : Program} {w : World} {A : Around} {E : Value → Shared → Prop} {s : Shared}
theorem cat_tup {t b : Addr} {vs ws : List Value} {Q : Value → Shared → Prop} (ht : IsTup s.heap t vs.toArray) (hb : IsTup s.heap b ws.toArray) (hv : vs ≠ [])
    (h1 : ws = [] → Q (.ref t) s) (h2 : ws ≠ [] → Q (.ref s.heap.objs.size) { s with heap := s.heap.push { cls := .type "tuple", data := .seq (vs ++ ws).toArray } })
    (hsz : vs.length + ws.length ≤ sizeLine) : wpAny (model prog w) A (binaryOp .Add (.ref t) (.ref b)) Q E s := by
  obtain ⟨⟨cls, dd, data, sl⟩, ho, hc, n, hd⟩ := id ht
  obtain ⟨⟨cls2, dd2, data2, sl2⟩, ho2, hc2, n2, hd2⟩ := id hb
  simp only at hc hd hc2 hd2
  subst hc hd hc2 hd2
  have e : vs.toArray ++ ws.toArray = (vs ++ ws).toArray := by simp
  by_cases hw : ws = []
  · exact concat_meets ⟨_, ho, rfl⟩ ⟨_, ho2, rfl⟩ noFill_tuple_add seq_tuple_add PySem.F.slot_tuple_add PySem.F.entry_tuple_add (PySem.F.args_tuple_add_2 _ _)
      (tuple_addW1 t b vs.toArray ws.toArray n n2 dd dd2 sl sl2 (by simpa using hv) (by simp [hw])) ⟨ho, ho2, h1 hw⟩
  · refine concat_meets ⟨_, ho, rfl⟩ ⟨_, ho2, rfl⟩ noFill_tuple_add seq_tuple_add PySem.F.slot_tuple_add PySem.F.entry_tuple_add (PySem.F.args_tuple_add_2 _ _)
      (tuple_addW2 t b vs.toArray ws.toArray n n2 dd dd2 sl sl2 (by simpa using hv) (by simpa using hw) (by rw [List.size_toArray, List.size_toArray]; exact hsz)) ⟨ho, ho2, ?_⟩
    rw [e]
    exact h2 hw
noncomputable def sIx (n d : Nat) : Option Int → Nat
  | none => d
  | some v => if v < 0 then (v + (n : Int)).toNat else min v.toNat n
theorem sIx_nat (n d k : Nat) : sIx n d (some (k : Int)) = min k n := by
  show (if (k : Int) < 0 then ((k : Int) + (n : Int)).toNat else min (k : Int).toNat n) = min k n
  rw [if_neg (by omega), Int.toNat_natCast]
end
end HT
namespace L2
open PySem PySem.Spec PyProof.Rows
noncomputable abbrev TO := St → Hp → (Option Int → Hp → Prop) → Prop
noncomputable def PO (X : Cx) (e : Option Expr) (t : TO) : Prop :=
  ∀ (pins : List (Addr × Obj)) (s : Shared) (σ : St) (H : Hp) (Q : Option Int → Hp → Prop), Inv X pins σ H s → t σ H Q →
    wpAny (model X.prog X.w) X.A (evalPart e X.env) (fun u s' => ∃ o H', Inv X pins σ H' s' ∧ IsPart u o ∧ Q o H') X.xe s
noncomputable def tNoPart : TO := fun _ H Q => Q none H
noncomputable def tPart (t : TE) : TO := fun σ H Q => t σ H fun x H1 => ∃ i, x = .int i ∧ Q (some i) H1
section
variable {X : Cx} {e : Expr} {te : TE} {lo hi : Option Expr} {tl th : TO} {pos p2 : Pos}
theorem zwk : PO X none tNoPart := by
  intro pins s σ H Q I h
  rw [evalPart_none]
  exact wpAny_pure ⟨none, H, I, .none, h⟩
theorem zwl (h : PE X e te) : PO X (some e) (tPart te) := by
  intro pins s σ H Q I hw
  rw [evalPart_some]
  refine thn (h pins s σ H _ I hw) fun u s1 ⟨x, H1, I1, r1, q1⟩ => ?_
  obtain ⟨i, rfl, q⟩ := q1
  obtain ⟨t, rfl⟩ := r1
  exact ⟨some i, H1, I1, .int i t, q⟩
noncomputable def SlR (X : Cx) (r : V → Option Int → Option Int → Hp → VK → Prop) : Prop :=
  ∀ (pins : List (Addr × Obj)) (s : Shared) (σ : St) (H : Hp) (x : V) (v vl vu : Value) (lo hi : Option Int) (sl : Addr) (Q : VK), Inv X pins σ H s → RelV x v → s.heap.IsSliceOf sl vl vu .none → IsPart vl lo → IsPart vu hi → r x lo hi H Q →
    ∃ T id, typeLookup (.type T) "__getitem__" = pure (some (.builtin id)) ∧ s.TypeIs v T ∧ wpAny (model X.prog X.w) X.A (getItem v (.ref sl)) (EP X pins σ Q) X.xe s
noncomputable def tSl (r : V → Option Int → Option Int → Hp → VK → Prop) (te : TE) (tl th : TO) : TE := fun σ H Q => te σ H fun x H1 => tl σ H1 fun l H2 => th σ H2 fun u H3 => r x l u H3 Q
theorem ztw {r : V → Option Int → Option Int → Hp → VK → Prop} (hr : SlR X r) (he : PE X e te) (hl : PO X lo tl) (hu : PO X hi th) : PE X (.Subscript e (.Slice lo hi none p2) pos) (tSl r te tl th) := by
  intro pins s σ H Q I h
  refine Subscript_ (thn (he pins s σ H _ I h) fun v s1 ⟨x, H1, I1, r1, q1⟩ => ?_)
  refine wpAny_Slice (thn (hl pins s1 σ H1 _ I1 q1) fun vl s2 ⟨l, H2, I2, pl, q2⟩ => thn (hu pins s2 σ H2 _ I2 q2) fun vu s3 ⟨u, H3, I3, pu, q3⟩ => ?_)
  rw [evalPart_none]
  refine wpAny_pure ?_
  have I4 : Inv X pins σ H3 { s3 with heap := s3.heap.push { cls := .type "slice", data := .fields #[vl, vu, .none] } } := I3.kept (t' := s3.toks) fun b ob q => Heap.get?_push_of_some _ q
  obtain ⟨T, id, hT, ht, hg⟩ := hr pins { s3 with heap := s3.heap.push { cls := .type "slice", data := .fields #[vl, vu, .none] } } σ H3 x v vl vu l u s3.heap.objs.size Q I4 r1 (Heap.IsSliceOf.new ..) pl pu q3
  show wpAny (model X.prog X.w) X.A (subscriptTail e (.Slice lo hi none p2) v (.ref s3.heap.objs.size)) (EP X pins σ Q) X.xe { s3 with heap := s3.heap.push { cls := .type "slice", data := .fields #[vl, vu, .none] } }
  exact tail_any (ops := [.ref s3.heap.objs.size, v]) ht hT hg (by with_unfolding_all rfl)
noncomputable def cutV (xs : List V) (lo hi : Option Int) : List V := (xs.drop (HT.sIx xs.length 0 lo)).take (HT.sIx xs.length xs.length hi - HT.sIx xs.length 0 lo)
theorem zsr (xs : List V) (lo hi : Option Int) : (cutV xs lo hi).length ≤ xs.length := by
  unfold cutV
  rw [List.length_take, List.length_drop]
  omega
noncomputable def zahw (K : PySem.W.Frag) : R2 := fun x y H Q => ∃ a b xs ys, x = .ref a ∧ y = .ref b ∧ SqT K H a xs ∧ SqT K H b ys ∧ xs ≠ [] ∧ xs.length + ys.length ≤ sizeLine ∧
  (ys = [] → Q (.ref a) H) ∧ (ys ≠ [] → ∀ p, H p = none → Q (.ref p) (upd H p (.tup (xs ++ ys))))
theorem Vals.nil_iff {xs : List V} {us : List Value} (r : Vals xs us) : us = [] ↔ xs = [] := by
  cases r with
  | nil => simp
  | cons _ _ => simp
theorem zaeh : OpR X (binaryOp .Add) (zahw X.K) := by
  intro pins s σ H x y v u Q I rx ry h
  obtain ⟨a, b, xs, ys, rfl, rfl, ha, hb, hx, hz, q1, q2⟩ := h
  cases rx
  cases ry
  obtain ⟨its, r1, p1, _⟩ := I.tuple ha
  obtain ⟨its2, r2, p2, _⟩ := I.tuple hb
  refine HT.cat_tup p1 p2 (fun z => hx (r1.nil_iff.mp z)) (fun z => ⟨.ref a, H, I, rfl, q1 (r2.nil_iff.mp z)⟩) (fun z => ?_) (by rw [← r1.length, ← r2.length]; exact hz)
  refine ⟨.ref s.heap.objs.size, _, I.laid (t' := s.toks) (o := .tup (xs ++ ys)) (fun b ob q => Heap.get?_push_of_some _ q) (Nat.le_refl _) ?_, rfl, q2 (fun w => z (r2.nil_iff.mpr w)) _ (I.hok.fresh (Nat.le_refl _))⟩
  exact ⟨by rw [List.length_append]; exact hz, _, r1.append r2, IsTup.new _ _⟩
end
end L2
namespace L2
open PySem PySem.Spec PyProof.Rows
noncomputable def ixN (n : Nat) (i : Int) : Option Nat := if 0 ≤ i then (if i < n then some i.toNat else none) else if -(n : Int) ≤ i then some (i + n).toNat else none
noncomputable def atI {α : Type} (xs : List α) (i : Int) : Option α := (ixN xs.length i).bind fun j => xs[j]?
theorem zwm {n : Nat} {i : Int} {j : Nat} (h : ixN n i = some j) : seqIndex? i n = some j ∧ j < n ∧ -(n : Int) ≤ i ∧ i < n := by
  unfold ixN at h
  by_cases h0 : 0 ≤ i
  · rw [if_pos h0] at h
    by_cases h1 : i < n
    · rw [if_pos h1] at h
      have e : i.toNat = j := Option.some.inj h
      exact ⟨by rw [seqIndex_of h0 h1, e], by omega, by omega, h1⟩
    · rw [if_neg h1] at h; cases h
  · rw [if_neg h0] at h
    by_cases h1 : -(n : Int) ≤ i
    · rw [if_pos h1] at h
      have e : (i + n).toNat = j := Option.some.inj h
      exact ⟨by rw [seqIndex_neg (by omega) h1, e], by omega, h1, by omega⟩
    · rw [if_neg h1] at h; cases h
theorem zss {α : Type} {xs : List α} {i : Int} {v : α} (h : atI xs i = some v) : ∃ j, seqIndex? i xs.length = some j ∧ xs[j]? = some v ∧ j < xs.length ∧ -(xs.length : Int) ≤ i ∧ i < xs.length := by
  unfold atI at h
  cases e : ixN xs.length i with
  | none => rw [e] at h; cases h
  | some j =>
    rw [e] at h
    obtain ⟨h1, h2, h3, h4⟩ := zwm e
    exact ⟨j, h1, h, h2, h3, h4⟩
theorem zjd {α : Type} {xs : List α} {j : Nat} {v : α} (h : xs[j]? = some v) : atI xs (j : Int) = some v := by
  have hj : j < xs.length := (List.getElem?_eq_some_iff.mp h).1
  have e : ixN xs.length (j : Int) = some j := by
    unfold ixN
    rw [if_pos (by omega), if_pos (by omega)]; simp
  unfold atI; rw [e]; exact h
noncomputable def PlainIx (b : Expr) : Prop := ∀ o i, subscripted b false o i = operate [o, i] (getItem o i)
noncomputable def IxR (X : Cx) (r : R2) : Prop :=
  ∀ (value slice : Expr) (pins : List (Addr × Obj)) (s : Shared) (σ : St) (H : Hp) (x y : V) (v u : Value) (Q : VK), Inv X pins σ H s → RelV x v → RelV y u → r x y H Q →
    subscripted slice false v u = operate [v, u] (getItem v u) → wpAny (model X.prog X.w) X.A (subscriptTail value slice v u) (EP X pins σ Q) X.xe s
noncomputable def MtR (X : Cx) (id : String) (r : V → List V → Hp → VK → Prop) : Prop :=
  ∀ (pins : List (Addr × Obj)) (s : Shared) (σ : St) (H : Hp) (x : V) (xs : List V) (v : Value) (us : List Value) (Q : VK), Inv X pins σ H s → RelV x v → Vals xs us → r x xs H Q →
    wpAny (model X.prog X.w) X.A (call (.builtin id) (v :: us)) (EP X pins σ Q) X.xe s
section
variable {X : Cx} {a b : Expr} {ta tb : TE} {pos : Pos}
theorem zahx {r : R2} (hr : IxR X r) (ha : PE X a ta) (hb : PE X b tb) (hs : PlainIx b) : PE X (.Subscript a b pos) (tOp r ta tb) := by
  intro pins s σ H Q I h
  exact Subscript_ (binT ha hb I h fun v u s2 x y H2 I2 rx ry q => hr a b pins s2 σ H2 x y v u Q I2 rx ry q (hs _ _))
noncomputable def rIxL (K : PySem.W.Frag) : R2 := fun x y H Q => ∃ p xs i v, x = .ref p ∧ y = .int i ∧ SqL K H p xs ∧ atI xs i = some v ∧ Q v H
noncomputable def rIxT (K : PySem.W.Frag) : R2 := fun x y H Q => ∃ p xs i v, x = .ref p ∧ y = .int i ∧ SqT K H p xs ∧ atI xs i = some v ∧ Q v H
noncomputable def rIxS : R2 := fun x y H Q => ∃ z i c, x = .str z ∧ y = .int i ∧ z.length ≤ sizeLine ∧ atI z.cps.toList i = some c ∧ Q (.str ⟨#[c]⟩) H
theorem zaei : IxR X (rIxL X.K) := by
  intro value slice pins s σ H x y v u Q I rx ry h hs
  obtain ⟨p, xs, i, z, rfl, rfl, hq, he, q⟩ := h
  cases rx
  obtain ⟨t, rfl⟩ := ry
  obtain ⟨its, r, pl, hz⟩ := I.list hq
  obtain ⟨j, h1, h2, h3, h4, h5⟩ := zss he
  obtain ⟨w, ew, rw'⟩ := r.get h2
  have hl := r.length
  have hn := zne
  have fin : EP X pins σ Q w s := ⟨z, H, I, rw', q⟩
  by_cases h0 : 0 ≤ i
  · have hj : i.toNat = j := by
      rw [seqIndex_of h0 h5] at h1
      exact Option.some.inj h1
    exact item_listR pl.isList h0 (by omega) (by rw [hj]; simpa using ew) fin hs
  · have hj : (i + (its.toArray.size : Int)).toNat = j := by
      rw [seqIndex_neg (by omega) h4] at h1
      rw [List.size_toArray, ← hl]
      exact Option.some.inj h1
    exact subscriptTail_builtinR (x := w) pl.isList.typeIs slot_list_getitem.lookup
      (wpAny_getItem_list_neg (Q := fun r s' => r = w ∧ EP X pins σ Q r s') pl.isList (by omega) (by rw [List.size_toArray] <;> omega) (by omega) (by rw [hj]; simpa using ew) ⟨rfl, fin⟩) hs
theorem zahy : IxR X (rIxT X.K) := by
  intro value slice pins s σ H x y v u Q I rx ry h hs
  obtain ⟨p, xs, i, z, rfl, rfl, hq, he, q⟩ := h
  cases rx
  obtain ⟨t, rfl⟩ := ry
  obtain ⟨its, r, pl, hz⟩ := I.tuple hq
  obtain ⟨j, h1, h2, h3, h4, h5⟩ := zss he
  obtain ⟨w, ew, rw'⟩ := r.get h2
  have hl := r.length
  have hn := zne
  have fin : EP X pins σ Q w s := ⟨z, H, I, rw', q⟩
  exact subscriptTail_builtinR (x := w) pl.typeIs slot_tuple_getitem.lookup
    (getItem_tuple (j := j) (Q := fun r s' => r = w ∧ EP X pins σ Q r s') pl (by omega) (by omega) (by rw [List.size_toArray, ← hl]; exact h1) (by simpa using ew) ⟨rfl, fin⟩) hs
theorem zahz : IxR X rIxS := by
  intro value slice pins s σ H x y v u Q I rx ry h hs
  obtain ⟨z, i, c, rfl, rfl, hz, he, q⟩ := h
  obtain ⟨t, rfl⟩ := rx
  obtain ⟨t', rfl⟩ := ry
  obtain ⟨j, h1, h2, h3, h4, h5⟩ := zss he
  have hl : z.cps.toList.length = z.length := by simp [Str.length]
  rw [hl] at h1 h4 h5
  have hn := zne
  exact tail_any (typeIs_str s z t) slot_str_getitem.lookup (getItem_str (c := c) (by
    have e1 : decide (i < -(2 ^ 63 : Int)) = false := decide_eq_false (by omega)
    have e2 : decide (i ≥ 2 ^ 63) = false := decide_eq_false (by omega)
    rw [e1, e2, Bool.or_false]) (by rw [h1]; simpa using h2) ⟨.str ⟨#[c]⟩, H, I.tok _, ⟨_, rfl⟩, q⟩) hs
theorem zvc (its : List Value) (n j : Nat) (u : Value) : Obj.mapSeq (·.setIfInBounds j u) { cls := .type "list", data := .seq its.toArray n } = { cls := .type "list", data := .seq (its.set j u).toArray n } := by
  simp [Obj.mapSeq]
theorem Inv.lst {pins : List (Addr × Obj)} {σ : St} {H : Hp} {s : Shared} {p : Addr} {xs : List V} (I : Inv X pins σ H s) (h : H p = some (.lst xs)) :
    ∃ (its : List Value) (n : Nat), Vals xs its ∧ s.heap.get? p = some { cls := .type "list", data := .seq its.toArray n } ∧ xs.length ≤ sizeLine := by
  obtain ⟨z, its, n, r, e⟩ := I.hok p _ h
  exact ⟨its, n, r, e, z⟩
theorem Inv.lstUpd {pins : List (Addr × Obj)} {σ : St} {H : Hp} {s : Shared} {p : Addr} {xs ys : List V} {its its' : List Value} {n n' : Nat} {f : Obj → Obj} (I : Inv X pins σ H s) (h : H p = some (.lst xs))
    (ho : s.heap.get? p = some { cls := .type "list", data := .seq its.toArray n }) (hf : f { cls := .type "list", data := .seq its.toArray n } = { cls := .type "list", data := .seq its'.toArray n' }) (r : Vals ys its') (hz : ys.length ≤ sizeLine) (t : Nat) :
    Inv X pins σ (upd H p (.lst ys)) { s with heap := s.heap.update p f, toks := t } := by
  have e : (s.heap.update p f).get? p = some { cls := .type "list", data := .seq its'.toArray n' } := by
    rw [Heap.get?_update_self f ho (by rw [hf] <;> rfl), hf]
  refine I.write (x := p) (e := p) (by rw [h]; trivial) (.inl rfl) (fun b u hb q => (Heap.get?_update_other _ _ (Ne.symm hb)).trans q) ⟨_, e⟩ ?_
  exact ⟨hz, its', n', r, e⟩
noncomputable def zaej : V → V → V → Hp → (Hp → Prop) → Prop := fun o i v H Q => ∃ p xs k j, o = .ref p ∧ i = .int k ∧ H p = some (.lst xs) ∧ ixN xs.length k = some j ∧ Q (upd H p (.lst (xs.set j v)))
theorem zaak : PSet X zaej := by
  intro pins s σ H o i v ov iv u Q I ro ri rv h
  obtain ⟨p, xs, k, j, rfl, rfl, hp, hj, q⟩ := h
  cases ro
  obtain ⟨t, rfl⟩ := ri
  obtain ⟨its, n, r, ho, hz⟩ := I.lst hp
  obtain ⟨h1, h2, h3, h4⟩ := zwm hj
  have hl := r.length
  have hn := zne
  have I' : Inv X pins σ (upd H p (.lst (xs.set j v))) { s with heap := s.heap.update p (Obj.mapSeq (·.setIfInBounds j u)) } :=
    I.lstUpd hp ho (zvc its n j u) (r.set rv j) (by rw [List.length_set]; exact hz) s.toks
  by_cases h0 : 0 ≤ k
  · have hk : k.toNat = j := by
      rw [seqIndex_of h0 h4] at h1
      exact Option.some.inj h1
    exact PySem.W.ki_setAt ho h0 (by omega) (by rw [List.size_toArray, ← hl]; exact h4) (by rw [hk]; exact ⟨_, I', q⟩)
  · have hk : (k + (its.toArray.size : Int)).toNat = j := by
      rw [seqIndex_neg (by omega) h3] at h1
      rw [List.size_toArray, ← hl]
      exact Option.some.inj h1
    exact PySem.W.ki_setBack ho (by omega) (by rw [List.size_toArray, ← hl]; exact h3) (by omega) (by rw [hk]; exact ⟨_, I', q⟩)
theorem zpx (lo hi : Option Int) (n : Nat) : (sliceBounds lo hi none n).1 = ((HT.sIx n 0 lo : Nat) : Int) ∧ (sliceBounds lo hi none n).2.1 = ((HT.sIx n n hi : Nat) : Int) ∧ (sliceBounds lo hi none n).2.2 = 1 := by
  refine ⟨?_, ?_, rfl⟩
  · cases lo with
    | none => simp [sliceBounds, HT.sIx]
    | some i =>
      simp only [sliceBounds, HT.sIx, Option.getD_none, show (1 : Int) > 0 by decide, if_true]
      by_cases h : i < 0
      · simp only [h, if_true] <;> omega
      · simp only [h, if_false] <;> omega
  · cases hi with
    | none => simp [sliceBounds, HT.sIx]
    | some i =>
      simp only [sliceBounds, HT.sIx, Option.getD_none, show (1 : Int) > 0 by decide, if_true]
      by_cases h : i < 0
      · simp only [h, if_true] <;> omega
      · simp only [h, if_false] <;> omega
theorem zoc (its : List Value) (lo hi : Option Int) : slicePick its.toArray lo hi none = ((its.drop (HT.sIx its.length 0 lo)).take (HT.sIx its.length its.length hi - HT.sIx its.length 0 lo)).toArray := by
  obtain ⟨h1, h2, h3⟩ := zpx lo hi its.toArray.size
  unfold slicePick
  rw [h1, h2, h3]
  simp only [sliceRange_one, pick_run, List.size_toArray] <;> rfl
noncomputable def rSlL (K : PySem.W.Frag) : V → Option Int → Option Int → Hp → VK → Prop := fun x lo hi H Q => ∃ a xs, x = .ref a ∧ SqL K H a xs ∧ ∀ p, H p = none → Q (.ref p) (upd H p (.lst (cutV xs lo hi)))
theorem zaek : SlR X (rSlL X.K) := by
  intro pins s σ H x v vl vu lo hi sl Q I rx hs pl pu h
  obtain ⟨a, xs, rfl, hx, q⟩ := h
  cases rx
  obtain ⟨its, r, ht, hz⟩ := I.list hx
  have hlen := r.length
  refine ⟨"list", _, slot_list_getitem.lookup, ht.isList.typeIs, ?_⟩
  refine wpAny_getItem_list_slice ht.isList hs pl pu .none (by simp) ?_ (by rw [List.size_toArray] <;> omega)
  rw [zoc, ← hlen]
  refine ⟨.ref s.heap.objs.size, _, I.laid (t' := s.toks) (o := .lst (cutV xs lo hi)) (fun b ob q => Heap.get?_push_of_some _ q) (Nat.le_refl _) ?_, rfl, q _ (I.hok.fresh (Nat.le_refl _))⟩
  exact ⟨Nat.le_trans (zsr xs lo hi) hz, _, 0, (r.drop (HT.sIx xs.length 0 lo)).take (HT.sIx xs.length xs.length hi - HT.sIx xs.length 0 lo), Heap.get?_push_size _ rfl⟩
noncomputable def zhj : V → Bool
  | .non => true
  | .bl _ => true
  | .int _ => true
  | .str _ => true
  | _ => false
noncomputable def eqV : V → V → Bool
  | .non, .non => true
  | .bl a, .bl b => a == b
  | .bl a, .int b => (if a then 1 else 0) == b
  | .int a, .bl b => a == (if b then 1 else 0)
  | .int a, .int b => a == b
  | .str a, .str b => a == b
  | _, _ => false
theorem zwn {A : Around} {s : Shared} {y x : V} {u v : Value} (ry : RelV y u) (rx : RelV x v) (fy : zhj y = true) (fx : zhj x = true) : SeqAt.EqAt A s u v (eqV y x) := by
  cases y with
  | non =>
    cases ry
    cases x with
    | non => cases rx; exact SeqAt.EqAt.same _
    | bl b => cases rx; exact SeqAt.EqAt.none_bool b
    | int b => obtain ⟨t, rfl⟩ := rx; exact SeqAt.EqAt.none_int b t
    | str b => obtain ⟨t, rfl⟩ := rx; exact SeqAt.EqAt.none_str b t
    | _ => exact absurd (show false = true from fx) Bool.false_ne_true
  | bl a =>
    cases ry
    cases x with
    | non => cases rx; exact SeqAt.EqAt.bool_none a
    | bl b => cases rx; exact SeqAt.EqAt.bool_bool a b
    | int b => obtain ⟨t, rfl⟩ := rx; exact SeqAt.EqAt.bool_int a b t
    | str b => obtain ⟨t, rfl⟩ := rx; exact SeqAt.EqAt.bool_str a b t
    | _ => exact absurd (show false = true from fx) Bool.false_ne_true
  | int a =>
    obtain ⟨t', rfl⟩ := ry
    cases x with
    | non => cases rx; exact SeqAt.EqAt.int_none a t'
    | bl b => cases rx; exact SeqAt.EqAt.int_bool a t' b
    | int b => obtain ⟨t, rfl⟩ := rx; exact SeqAt.EqAt.int_int a t' b t
    | str b => obtain ⟨t, rfl⟩ := rx; exact SeqAt.EqAt.int_str a t' b t
    | _ => exact absurd (show false = true from fx) Bool.false_ne_true
  | str a =>
    obtain ⟨t', rfl⟩ := ry
    cases x with
    | non => cases rx; exact SeqAt.EqAt.str_none a t'
    | bl b => cases rx; exact SeqAt.EqAt.str_bool a t' b
    | int b => obtain ⟨t, rfl⟩ := rx; exact SeqAt.EqAt.str_int a t' b t
    | str b => obtain ⟨t, rfl⟩ := rx; exact SeqAt.EqAt.str_str a t' b t
    | _ => exact absurd (show false = true from fx) Bool.false_ne_true
  | _ => exact absurd (show false = true from fy) Bool.false_ne_true
noncomputable def eqU (x : V) (u : Value) : Bool := match u with
  | .none => eqV .non x
  | .bool b => eqV (.bl b) x
  | .int i _ => eqV (.int i) x
  | .str z _ => eqV (.str z) x
  | _ => false
theorem zwo {x y : V} {u : Value} (r : RelV y u) (f : zhj y = true) : eqU x u = eqV y x := by
  cases y with
  | non => cases r; rfl
  | bl b => cases r; rfl
  | int i => obtain ⟨t, rfl⟩ := r; rfl
  | str z => obtain ⟨t, rfl⟩ := r; rfl
  | _ => exact absurd (show false = true from f) Bool.false_ne_true
theorem zln {x : V} : ∀ {xs : List V} {us : List Value}, Vals xs us → xs.all zhj = true → us.any (eqU x) = xs.any fun y => eqV y x
  | _, _, .nil, _ => rfl
  | y :: xs, u :: us, .cons r t, f => by
    rw [List.all_cons, Bool.and_eq_true] at f
    rw [List.any_cons, List.any_cons, zwo r f.1, zln t f.2]
theorem zjj {A : Around} {s : Shared} {x : V} {v : Value} (rx : RelV x v) (fx : zhj x = true) : ∀ {xs : List V} {us : List Value}, Vals xs us → xs.all zhj = true → ∀ u ∈ us, SeqAt.EqAt A s u v (eqU x u)
  | _, _, .nil, _ => fun u hu => by cases hu
  | y :: xs, u :: us, .cons r t, f => fun u' hu => by
    rw [List.all_cons, Bool.and_eq_true] at f
    rcases List.mem_cons.mp hu with rfl | hu
    · rw [zwo r f.1]; exact zwn r rx f.1 fx
    · exact zjj rx fx t f.2 u' hu
noncomputable def inV (x : V) (xs : List V) : Bool := xs.any fun y => eqV y x
noncomputable def rIn (K : PySem.W.Frag) (neg : Bool) : R2 := fun x y H Q => ∃ p xs, y = .ref p ∧ (SqL K H p xs ∨ SqT K H p xs) ∧ zhj x = true ∧ xs.all zhj = true ∧ Q (.bl (if neg then !inV x xs else inV x xs)) H
theorem zwp : OpR X (compareOp .In) (rIn X.K false) := by
  intro pins s σ H x y v u Q I rx ry h
  obtain ⟨p, xs, rfl, hq, fx, fs, q⟩ := h
  cases ry
  rcases hq with hq | hq
  · obtain ⟨its, r, pl, hz⟩ := I.list hq
    refine SeqAt.in_listAt (eqU x) pl.isList (fun w hw => zjj rx fx r fs w (by simpa using hw)) ⟨.bl _, H, I, rfl, ?_⟩
    rw [show its.toArray.any (eqU x) = its.any (eqU x) by simp, zln r fs]
    exact q
  · obtain ⟨its, r, pl, hz⟩ := I.tuple hq
    refine SeqAt.in_tupleAt (eqU x) pl (fun w hw => zjj rx fx r fs w (by simpa using hw)) ⟨.bl _, H, I, rfl, ?_⟩
    rw [show its.toArray.any (eqU x) = its.any (eqU x) by simp, zln r fs]
    exact q
theorem zpy : OpR X (compareOp .NotIn) (rIn X.K true) := by
  intro pins s σ H x y v u Q I rx ry h
  obtain ⟨p, xs, rfl, hq, fx, fs, q⟩ := h
  cases ry
  rcases hq with hq | hq
  · obtain ⟨its, r, pl, hz⟩ := I.list hq
    refine SeqAt.notIn_listAt (eqU x) pl.isList (fun w hw => zjj rx fx r fs w (by simpa using hw)) ⟨.bl _, H, I, rfl, ?_⟩
    rw [show its.toArray.any (eqU x) = its.any (eqU x) by simp, zln r fs]
    exact q
  · obtain ⟨its, r, pl, hz⟩ := I.tuple hq
    refine SeqAt.notIn_tupleAt (eqU x) pl (fun w hw => zjj rx fx r fs w (by simpa using hw)) ⟨.bl _, H, I, rfl, ?_⟩
    rw [show its.toArray.any (eqU x) = its.any (eqU x) by simp, zln r fs]
    exact q
theorem zpz : CallR X (.type "list") (fun xs H Q => ∃ p ys, xs = [.ref p] ∧ (SqL X.K H p ys ∨ SqT X.K H p ys) ∧ ∀ l, H l = none → Q (.ref l) (upd H l (.lst ys))) := by
  intro pins s σ H xs us Q I r h
  obtain ⟨p, ys, rfl, hq, q⟩ := h
  obtain ⟨u, rfl, rx⟩ := zuz r
  cases rx
  have fin : ∀ (its : List Value), Vals ys its → ys.length ≤ sizeLine → ∀ (h' : Heap) (c' : Nat), (∀ b o', s.heap.get? b = some o' → h'.get? b = some o') →
      h'.get? s.heap.objs.size = some { cls := .type "list", dict := none, data := .seq its.toArray c', slots := #[] } → EP X pins σ Q (.ref s.heap.objs.size) { s with heap := h' } := fun its r' hz h' c' kp e =>
    ⟨.ref s.heap.objs.size, _, I.laid (t' := s.toks) kp (Nat.le_refl _) (show zeb X.prog X.w _ h' _ (.lst ys) from ⟨hz, its, c', r', e⟩), rfl, q _ (I.hok.fresh (Nat.le_refl _))⟩
  rcases hq with hq | hq
  · obtain ⟨its, r', pl, hz⟩ := I.list hq
    have hlen := r'.length
    obtain ⟨o, ho, hc, n, hd⟩ := pl.isList
    exact call_list_seq p (.inl rfl) ho hc hd (fun h' c' kp e => fin its r' hz h' c' kp e) (by simp only [List.size_toArray] <;> omega)
  · obtain ⟨its, r', pl, hz⟩ := I.tuple hq
    have hlen := r'.length
    obtain ⟨o, ho, hc, n, hd⟩ := pl
    exact call_list_seq p (.inr rfl) ho hc hd (fun h' c' kp e => fin its r' hz h' c' kp e) (by simp only [List.size_toArray] <;> omega)
theorem zod : CallR X (.type "tuple") (fun xs H Q => ∃ p ys, xs = [.ref p] ∧ ((SqL X.K H p ys ∧ ∀ l, H l = none → Q (.ref l) (upd H l (.tup ys))) ∨ (SqT X.K H p ys ∧ Q (.ref p) H))) := by
  intro pins s σ H xs us Q I r h
  obtain ⟨p, ys, rfl, h⟩ := h
  obtain ⟨u, rfl, rx⟩ := zuz r
  cases rx
  rcases h with ⟨hq, q⟩ | ⟨hq, q⟩
  · obtain ⟨its, r', pl, hz⟩ := I.list hq
    have hlen := r'.length
    refine call_tuple_list pl.isList (fun h' kp => ?_) (by simp only [List.size_toArray] <;> omega)
    have I1 : Inv X pins σ H { s with heap := h' } := I.kept (t' := s.toks) kp
    have I2 : Inv X pins σ (upd H h'.objs.size (.tup ys)) { s with heap := h'.push { cls := .type "tuple", data := .seq its.toArray } } :=
      I1.laid (t' := s.toks) (fun b o e => Heap.get?_push_of_some _ e) (Nat.le_refl _) (show zeb X.prog X.w _ _ _ (.tup ys) from ⟨hz, its, r', IsTup.new _ _⟩)
    exact ⟨.ref h'.objs.size, _, I2, rfl, q _ (I1.hok.fresh (Nat.le_refl _))⟩
  · obtain ⟨its, r', pl, hz⟩ := I.tuple hq
    exact call_tuple_same pl ⟨.ref p, H, I, rfl, q⟩
noncomputable def tyV (K : PySem.W.Frag) (T : String) (x : V) (H : Hp) : Prop := match x with
  | .str _ => T = "str"
  | .int _ => T = "int"
  | .ref p => (T = "list" ∧ ∃ xs, SqL K H p xs) ∨ (T = "tuple" ∧ ∃ o, K.lookup p = some o ∧ o.cls = .type "tuple" ∧ o.dict = none) ∨
      (T = "dict" ∧ ((∃ kvs, H p = some (.dK kvs)) ∨ ∃ kvs, H p = some (.dT kvs))) ∨ (T = "set" ∧ ∃ S n, H p = some (.set S n))
  | _ => False
theorem zaia {pins : List (Addr × Obj)} {σ : St} {H : Hp} {s : Shared} {T : String} {x : V} {v : Value} (I : Inv X pins σ H s) (r : RelV x v) (ty : tyV X.K T x H) :
    s.TypeIs v T ∧ ∀ a, v = .ref a → ∃ ob, s.heap.get? a = some ob ∧ ob.dict = none := by
  cases x with
  | str z =>
    obtain ⟨t, rfl⟩ := r
    cases (show T = "str" from ty)
    exact ⟨typeIs_str s z t, fun _ e => nomatch e⟩
  | int i =>
    obtain ⟨t, rfl⟩ := r
    cases (show T = "int" from ty)
    exact ⟨typeIs_int s i t, fun _ e => nomatch e⟩
  | ref p =>
    cases r
    rcases ty with ⟨rfl, xs, hq⟩ | ⟨rfl, o, hk, hc, hd⟩ | ⟨rfl, hk⟩ | ⟨rfl, S, n, hk⟩
    · obtain ⟨its, _, pl, _⟩ := I.list hq
      refine ⟨pl.isList.typeIs, fun a e => ?_⟩
      cases e
      obtain ⟨o, n, e, c, hd, _⟩ := pl
      exact ⟨o, e, hd⟩
    · refine ⟨⟨o, I.kIn p o hk, hc⟩, fun a e => ?_⟩
      cases e
      exact ⟨o, I.kIn _ o hk, hd⟩
    · have z : ∃ o, s.heap.get? p = some o ∧ o.ExactDict := by
        rcases hk with ⟨kvs, hk⟩ | ⟨kvs, hk⟩
        · obtain ⟨_, _, _, _, o, _, _, e, ex, _⟩ := I.hok p _ hk
          exact ⟨o, e, ex⟩
        · obtain ⟨_, _, _, _, o, _, _, e, ex, _⟩ := I.hok p _ hk
          exact ⟨o, e, ex⟩
      obtain ⟨o, e, ex⟩ := z
      refine ⟨⟨o, e, ex.1⟩, fun a e2 => ?_⟩
      cases e2
      exact ⟨o, e, ex.2.1⟩
    · obtain ⟨o, _, _, _, e, ex, _⟩ := I.hok p _ hk
      refine ⟨⟨o, e, ex.1⟩, fun a e2 => ?_⟩
      cases e2
      exact ⟨o, e, ex.2.1⟩
  | _ => exact False.elim ty
noncomputable def tBM (K : PySem.W.Frag) (T : String) (r : V → List V → Hp → VK → Prop) (to : TE) (t : TA) : TE := fun σ H Q => to σ H fun x H1 => tyV K T x H1 ∧ t σ H1 fun xs H2 => r x xs H2 Q
variable {o e : Expr} {es : List Expr} {to : TE} {t : TA} {name : Str} {apos cpos : Pos} {T id : String} {r : V → List V → Hp → VK → Prop}
theorem zakp (pa : PlainAttrs T) (slot : Slot T name id) (hty : typeOf (.builtin id) = pure (.type "method_descriptor")) (hm : MtR X id r) (ho : PE X o to) (ha : PA X (e :: es) t)
    (hbase : attributeBase o name X.env (eval o X.env) = eval o X.env := by rfl)
    (hfew : ((backTo cpos (starEach (e :: es) X.env)).all (fun x => !x.1) && (backToKw cpos (keywordEach [] X.env)).all (fun x => x.1.isSome)
      && decide ((e :: es).length + ([] : List Keyword).length + (if ([] : List Keyword).isEmpty then 0 else 1) < 30)) = true := by rfl)
    (hline : (apos.endLine == cpos.line) = true := by rfl) (hs : starEach (e :: es) X.env = (false, eval e X.env) :: starEach es X.env := by rfl) (hplain : (backTo cpos (starEach es X.env)).any (·.1) = false := by rfl) :
    PE X (.Call (.Attribute o name apos) (e :: es) [] cpos) (tBM X.K T r to t) := by
  intro pins s σ H Q I h
  refine wpAny_Call_method_late hbase hfew hline rfl (thn (ho pins s σ H _ I h) fun v s1 ⟨x, H1, I1, r1, ty, q1⟩ => ?_)
  obtain ⟨h1, h2⟩ := zaia I1 r1 ty
  refine ⟨T, id, pa, slot, hty, h1, h2, ?_⟩
  have hA := ha cpos pins s1 σ H1 _ I1 q1
  rw [hs] at hA ⊢
  refine Calls.callWith_builtin (by show (false || (backTo cpos (starEach es X.env)).any (·.1)) = false; rw [hplain] <;> rfl) (Calls.evalArgs_plain ?_)
  exact thn hA fun us s2 ⟨vs, H2, I2, r2, q2⟩ => hm pins s2 σ H2 x vs v us Q I2 r1 r2 q2
/- xs.append(e), list.index on a module's tuple .. are MtR facts of 06m -/
end
end L2
namespace L2
open PySem PySem.Spec PyProof.Rows
noncomputable def MtM (X : Cx) (id : String) (r : V → List V → Hp → VK → Prop) : Prop :=
  ∀ (pins : List (Addr × Obj)) (s : Shared) (σ : St) (H : Hp) (x : V) (xs : List V) (v : Value) (us : List Value) (Q : VK), Inv X pins σ H s → RelV x v → Vals xs us → r x xs H Q →
    wpAny (model X.prog X.w) X.A (call (.builtin id) (v :: us)) (EP X pins σ Q) X.xe s
theorem Vals.one : ∀ {x : V} {us : List Value}, Vals [x] us → ∃ u, us = [u] ∧ RelV x u
  | _, _, .cons r .nil => ⟨_, rfl, r⟩
theorem Vals.eraseIdx : ∀ {xs : List V} {us : List Value} (i : Nat), Vals xs us → Vals (xs.eraseIdx i) (us.eraseIdx i)
  | _, _, _, .nil => .nil
  | _, _, 0, .cons _ t => t
  | _, _, i + 1, .cons r t => .cons r (Vals.eraseIdx i t)
theorem zqa {α : Type} : ∀ (l : List α) (i : Nat), (l.eraseIdx i).length ≤ l.length
  | [], _ => Nat.le_refl _
  | _ :: _, 0 => Nat.le_succ _
  | _ :: r, i + 1 => Nat.succ_le_succ (zqa r i)
section
variable {X : Cx} {pins : List (Addr × Obj)} {σ : St} {H : Hp} {s : Shared} {l b : Addr} {xs ys zs : List V}
theorem Inv.lset {its its' : List Value} {n : Nat} {f : Array Value → Array Value} {t' : Nat} (I : Inv X pins σ H s) (hH : H l = some (.lst xs))
    (e : s.heap.get? l = some { cls := .type "list", data := .seq its.toArray n }) (hf : f its.toArray = its'.toArray) (hv : Vals ys its') (hz : ys.length ≤ sizeLine) :
    Inv X pins σ (upd H l (.lst ys)) { s with heap := s.heap.update l (Obj.mapSeq f), toks := t' } := by
  have q := PySem.IsL.update e f
  rw [hf] at q
  refine I.write (x := l) (e := l) (by rw [hH]; exact trivial) (.inl rfl) (fun b' u hb hu => (Heap.get?_update_other s.heap (Obj.mapSeq f) (Ne.symm hb)).trans hu) ⟨_, q⟩ ?_
  exact ⟨hz, its', _, hv, q⟩
theorem Inv.lnew {its : List Value} {t' : Nat} (I : Inv X pins σ H s) (hv : Vals ys its) (hz : ys.length ≤ sizeLine) :
    Inv X pins σ (upd H s.heap.objs.size (.lst ys)) { s with heap := s.heap.push { cls := .type "list", data := .seq its.toArray }, toks := t' } :=
  I.laid (fun _ _ q => Heap.get?_push_of_some _ q) (Nat.le_refl _) ⟨hz, its, 0, hv, Heap.get?_push_size _ rfl⟩
theorem Inv.fresh (I : Inv X pins σ H s) : H s.heap.objs.size = none := I.hok.fresh (Nat.le_refl _)
theorem Inv.lstM (I : Inv X pins σ H s) (hH : H l = some (.lst xs)) : xs.length ≤ sizeLine ∧ ∃ (its : List Value) (n : Nat), Vals xs its ∧ xs.length = its.length ∧ s.heap.get? l = some { cls := .type "list", data := .seq its.toArray n } := by
  obtain ⟨z, its, n, r, e⟩ := I.hok l _ hH
  exact ⟨z, its, n, r, r.length, e⟩
theorem zaal {n : Nat} (h : n ≤ sizeLine) : Builtin.List.listTooLong n = false := by
  unfold Builtin.List.listTooLong
  exact decide_eq_false (by omega)
end
section
variable {X : Cx}
noncomputable def zst : V → List V → Hp → VK → Prop := fun x vs H Q => ∃ l xs y, x = .ref l ∧ vs = [y] ∧ H l = some (.lst xs) ∧ xs.length < sizeLine ∧ Q .non (upd H l (.lst (xs ++ [y])))
theorem zdr : MtM X "list.append" zst := by
  intro pins s σ H x vs v us Q I rx rv h
  obtain ⟨l, xs, y, rfl, rfl, hH, hz, q⟩ := h
  cases rx
  obtain ⟨u, rfl, ru⟩ := rv.one
  obtain ⟨z, its, n, r, hl, e⟩ := I.lstM hH
  refine call_meets F.slot_list_append ⟨_, e, rfl⟩ F.entry_list_append (F.args_list_append_2 _ _) (PySem.list_append l its.toArray n u (by rw [List.size_toArray]; omega)) ⟨e, ?_⟩
  refine ⟨.non, _, I.lset (its' := its ++ [u]) hH e (by simp) (r.append (.cons ru .nil)) ?_, rfl, q⟩
  rw [List.length_append, List.length_singleton]
  omega
noncomputable def zael : V → List V → Hp → VK → Prop := fun x vs H Q => ∃ l b xs zs, x = .ref l ∧ vs = [.ref b] ∧ H l = some (.lst xs) ∧ H b = some (.lst zs) ∧ xs.length + zs.length ≤ sizeLine ∧ Q .non (upd H l (.lst (xs ++ zs)))
theorem zaib : MtM X "list.extend" zael := by
  intro pins s σ H x vs v us Q I rx rv h
  obtain ⟨l, b, xs, zs, rfl, rfl, hH, hB, hz, q⟩ := h
  cases rx
  obtain ⟨u, rfl, ru⟩ := rv.one
  cases ru
  obtain ⟨z, its, n, r, hl, e⟩ := I.lstM hH
  obtain ⟨z2, its2, n2, r2, hl2, e2⟩ := I.lstM hB
  have hsz : its.toArray.size + its2.toArray.size ≤ sizeLine := by rw [List.size_toArray, List.size_toArray]; omega
  have hlong : ¬ (!its.toArray.isEmpty && Builtin.List.listTooLong (its.toArray.size + its2.toArray.size)) = true := by
    rw [zaal hsz, Bool.and_false]
    exact Bool.false_ne_true
  refine call_meets F.slot_list_extend ⟨_, e, rfl⟩ F.entry_list_extend (F.args_list_extend_2 _ _)
    (AutoSeq1.list_extend_list_list_0 l its.toArray n b its2.toArray n2 hlong (by rw [List.size_toArray]; omega) (by omega)) ⟨e, e2, ?_⟩
  refine ⟨.non, _, I.lset (its' := its ++ its2) hH e (by simp) (r.append r2) ?_, rfl, q⟩
  rw [List.length_append]
  omega
noncomputable def zact : V → List V → Hp → VK → Prop := fun x vs H Q => ∃ l xs i k y, x = .ref l ∧ vs = [.int i] ∧ H l = some (.lst xs) ∧ -(2 ^ 63) ≤ i ∧ i < 2 ^ 63 ∧ seqIndex? i xs.length = some k ∧ xs[k]? = some y ∧ Q y (upd H l (.lst (xs.eraseIdx k)))
theorem zaam : MtM X "list.pop" zact := by
  intro pins s σ H x vs v us Q I rx rv h
  obtain ⟨l, xs, i, k, y, rfl, rfl, hH, h1, h2, hk, hy, q⟩ := h
  cases rx
  obtain ⟨u, rfl, ru⟩ := rv.one
  obtain ⟨t, rfl⟩ := ru
  obtain ⟨z, its, n, r, hl, e⟩ := I.lstM hH
  obtain ⟨w, hw, rw'⟩ := r.get hy
  refine call_meets F.slot_list_pop ⟨_, e, rfl⟩ F.entry_list_pop (F.args_list_pop_2 _ _)
    (MeetsSeq.list_pop_at l its.toArray n i t k w (fitsIndex_both h1 h2) (by rw [List.size_toArray, ← hl]; exact hk) (by rw [← Array.getElem?_toList]; exact hw) (by rw [List.size_toArray]; omega)) ⟨e, ?_⟩
  refine ⟨y, _, I.lset (its' := its.eraseIdx k) hH e ?_ (r.eraseIdx k) ?_, rw', q⟩
  · show its.toArray.eraseIdxIfInBounds k = (its.eraseIdx k).toArray
    rw [List.eraseIdxIfInBounds_toArray]
  · have := zqa xs k
    omega
noncomputable def rCat : R2 := fun x y H Q => ∃ l b xs zs, x = .ref l ∧ y = .ref b ∧ H l = some (.lst xs) ∧ H b = some (.lst zs) ∧ xs.length + zs.length ≤ sizeLine ∧ ∀ p, H p = none → Q (.ref p) (upd H p (.lst (xs ++ zs)))
theorem zaic : OpR X (binaryOp .Add) rCat := by
  intro pins s σ H x y v u Q I rx ry h
  obtain ⟨l, b, xs, zs, rfl, rfl, hH, hB, hz, q⟩ := h
  cases rx
  cases ry
  obtain ⟨z, its, n, r, hl, e⟩ := I.lstM hH
  obtain ⟨z2, its2, n2, r2, hl2, e2⟩ := I.lstM hB
  refine PySem.P.add_list e e2 ?_ (by rw [List.size_toArray, List.size_toArray]; omega)
  have ea : its.toArray ++ its2.toArray = (its ++ its2).toArray := by simp
  rw [ea]
  exact ⟨.ref _, _, I.lnew (t' := s.toks) (r.append r2) (by rw [List.length_append]; omega), rfl, q _ I.fresh⟩
end
section
variable {prog : Program} {w : World} {A : Around} {E : Value → Shared → Prop} {s : Shared}
set_option maxRecDepth 100000 in
end
section
variable {X : Cx}
end
end L2
namespace L2
open PySem PySem.Spec PyProof.Rows
section
variable {κ : Type} [DecidableEq κ]
end
theorem zakq {P : Program} {w : World} {k : Key} {u : Value} (r : RelV (kV k) u) : (zel P w).is k u = true := by
  cases k with
  | inl i => obtain ⟨t, e⟩ := (show ∃ t, u = Value.int i t from r); subst e; exact zsl P w i t
  | inr x => obtain ⟨t, e⟩ := (show ∃ t, u = Value.str x t from r); subst e; exact zsm P w x t
section
variable {P : Program} {w : World} {H : Hp} {h : Heap} {a : Addr}
end
section
variable {X : Cx} {pins : List (Addr × Obj)} {σ : St} {H : Hp} {s : Shared} {a : Addr} {y v : V} {u r : Value} {o : Option V} {A : Around} {E : Value → Shared → Prop}
theorem Inv.big (I : Inv X pins σ H s) : sysModules < s.heap.objs.size := by
  have h : mainGlobals < s.heap.objs.size := (I.mod.glob.keeps I.bk).lt
  exact Nat.lt_trans (by decide) h
end
section
variable {X : Cx} {pins : List (Addr × Obj)} {σ : St} {H : Hp} {s : Shared} {a : Addr} {kvs : List (Key × V)} {k : Key} {u : Value} {A : Around} {E : Value → Shared → Prop}
end
section
variable {X : Cx} {o i e value : Expr} {pos pos' tpos : Pos} {td ty tv : TE}
end
theorem zaan {P : Program} {w : World} {H : Hp} (h : Heap) (hb : sysModules < h.objs.size) : zeb P w H (h.push { cls := .type "dict", data := .dict #[] }) h.objs.size (.dK []) :=
  ⟨Nat.zero_le _, beq_eq_false_iff_ne.mpr (Ne.symm (Nat.ne_of_lt hb)), [], .nil, Heap.DictOf.new h⟩
noncomputable def tDNewK : TE := fun _ H Q => ∀ p, H p = none → Q (.ref p) (upd H p (.dK []))
section
variable {X : Cx} {pos : Pos}
theorem zaao : PE X (.Dict [] [] pos) tDNewK := fun pins s σ H Q I h =>
  wpAny_Dict_empty ⟨.ref s.heap.objs.size, _, I.laid (a := s.heap.objs.size) (o := .dK []) (t' := s.toks) (fun _ _ q => Heap.get?_push_of_some _ q) (Nat.le_refl _) (zaan s.heap I.big), rfl, h _ (I.hok.fresh (Nat.le_refl _))⟩
end
set_option genInjectivity false in
set_option genInjectivity false in
section
variable {X : Cx} {pins : List (Addr × Obj)} {σ : St} {H : Hp} {s : Shared} {a : Addr} {y d : V} {u r : Value} {o : Option V} {A : Around} {E : Value → Shared → Prop}
end
section
variable {X : Cx} {o e f : Expr} {apos cpos : Pos} {td ty tx : TE}
end
section
variable {X : Cx} {pins : List (Addr × Obj)} {σ : St} {H : Hp} {s : Shared} {a : Addr} {kvs : List (Key × V)} {A : Around} {E : Value → Shared → Prop}
end
section
variable {X : Cx} {pins : List (Addr × Obj)} {σ : St} {H : Hp} {s : Shared} {a : Addr} {y : V} {u : Value} {A : Around} {E : Value → Shared → Prop}
end
end L2
namespace Att
open PySem PySem.W PySem.Calls PyProof.Rows
theorem zlo {P : Params} {h : Heap} : ∀ (ns : List Int) (vs : List Value), WellAll P h vs (ns.map WData.int) → IntsAre vs ns := by
  intro ns
  induction ns with
  | nil =>
    intro vs w
    rw [List.map_nil] at w
    cases w
    exact .nil
  | cons n ns ih =>
    intro vs w
    rw [List.map_cons] at w
    cases w with
    | cons a b =>
      cases a
      exact .cons _ _ (ih _ b)
theorem zwq {l : OpenLaw} {n : Nat} (hn : l.most = some n) {P : Params} {h : Heap} {args : List WData} {vals : List Value}
    (hpre : l.row.toRowW.claim.pre args = true) (hwl : WellAll P h vals args) :
    ∃ a vs ns, vals = [Value.ref a] ∧ args = [WData.list (ns.map WData.int)] ∧ h.get? a = some { cls := .type "list", data := .seq vs.toArray } ∧ IntsAre vs ns ∧ ns.length ≤ n := by
  have hsh : WShape.hasAll [] args [.list .int] = true := (pre_splitW hpre).1
  have hc : l.pre.holds [] { args := args } = true := (pre_splitW hpre).2
  obtain ⟨d, r, rfl, h1, h2⟩ := hasAllW_cons hsh
  obtain rfl := hasAllW_nil h2
  obtain ⟨xs, rfl, h3⟩ := hasW_list h1
  obtain ⟨ns, rfl⟩ := items_int h3
  have hlen : ns.length ≤ n := by
    unfold OpenLaw.pre at hc
    have h4 : (WTm.not (.lt (.lit (.int (n : Int))) (.len (.arg 0)))).holds [] { args := [.list (ns.map .int)] } = true := by
      have h4 := (holds_andW hc).1
      rw [hn] at h4
      exact h4
    have h5 := condW_of h4 (w_not (w_lt w_lit (w_len_list (w_arg rfl))))
    rw [List.length_map] at h5
    refine Nat.le_of_not_lt fun q => ?_
    have q' : (n : Int) < ((ns.length : Nat) : Int) := by omega
    first
      | (rw [decide_eq_true q'] at h5; exact absurd h5 (by decide))
      | (simp at h5; omega)
  cases hwl with
  | cons w1 w2 =>
    cases w2
    cases w1 with
    | list ho hall => exact ⟨_, _, ns, rfl, rfl, ho, zlo ns _ hall, hlen⟩
theorem zwr (l : OpenLaw) (args : List WData) : l.row.toRowW.claim.post args (.bool true) args = true :=
  postW_of (r := l.row.toRowW) (X := (true == true))
    (show WShape.has [] (.bool true) .bool = true by first | rfl | decide | simp [WShape.has, WShape.arms, WShape.armsAll])
    (show (WTm.eq .res (.lit (.bool true))).value [] { args := args, res := some (.bool true), after := args } = some (.bool (true == true)) from w_eq_bool (w_res rfl) w_lit) rfl
theorem attach_call {l : OpenLaw} {n : Nat} {q : Program} {loose : List Str} {XP : (Str → Option Value) → Heap → Prop} {YP : World → Heap → Prop} {d : DefRec}
    (hn : l.most = some n) (hdf : d.params.defaults = [])
    (call : ∀ (w : World) (s₀ s₁ : Shared) (mg mb : Str → Option Value) (fa : Addr) (o : Obj) (pm cd doc : Value) (a : Addr) (vs : List Value) (ns : List Int),
      Ground q loose [] XP w s₀ mg mb s₁.heap → YP w s₁.heap →
      s₁.heap.get? fa = some o → o.data = .func (docDef d.name d.params d.body d.scope pm cd doc) → s₁.heap.CodeRec cd d.name → mg d.name = some (.ref fa) →
      s₁.heap.get? a = some { cls := .type "list", data := .seq vs.toArray } → IntsAre vs ns → ns.length ≤ n → s₁.gens = #[] →
      codeAny (model l.prog w) callerA (.call (.ref fa) ⟨[.ref a], []⟩) (fun r s' => r = .ok (.ret (.bool true)) ∧ OldK s₁.heap s'.heap ∧ s'.os = s₁.os ∧ AllBare s'.gens) s₁) :
    WalkO q loose XP YP l.row.toRowW d [] (fun f vs => PySem.call f vs) := by
  intro w s₀ s₁ mg mb G Y fa o pm cd doc dV kV ho hd hcd hD hmg hg args vals as hpre hlay hrd hwl hlo
  obtain rfl : dV = .none := Dflts.none hD hdf
  obtain rfl : kV = .none := Dflts.noKw hD
  obtain ⟨a, vs, ns, rfl, rfl, hobj, hints, hlen⟩ := zwq hn hpre hwl
  refine enter_call (codeAny_mono (call w s₀ s₁ mg mb fa o pm cd doc a vs ns G Y ho (fd_plain hd) hcd hmg hobj hints hlen hg) fun r s' hq => ?_)
  obtain ⟨rfl, h2, h3, h4⟩ := hq
  exact ⟨.inl ⟨.bool true, .bool true, [], rfl, fun _ => rfl, .bool true, zwr l _, fun _ => ⟨List.Pairwise.nil, fun _ hm => (nomatch hm)⟩⟩, h2, h3, h4⟩
section
variable {prog : Program} {w : World} {A : Around} {E : Value → Shared → Prop} {s : Shared} {K : Frag}
end
end Att
namespace L2
open PySem PySem.Spec PyProof.Rows
theorem zqb : ∀ {vs : List Value} {ns : List Int}, IntsAre vs ns → Vals (ns.map V.int) vs
  | _, _, .nil => .nil
  | _, _, .cons n t h => .cons ⟨t, rfl⟩ (zqb h)
noncomputable def Only (H : Hp) : Prop := ∀ b, H b = none ∨ ∃ o xs, H b = some (.frz o (.lst xs))
theorem zaap {P : Program} {w : World} {K : PySem.W.Frag} {mg mb : Str → Option Value} {CX : CXT} {k : Nat} {fa a : Addr} {fd : FuncData} {x : Str} {sp : Sp} {s₁ : Shared} {vs : List Value} {ns : List Int}
    (KX : K.In s₁.heap) (hns : s₁.heap.Ns mainGlobals mg) (hb : s₁.heap.Ns builtinsNs mb) (hbb : ∀ x : Str, x ≠ "__name__" → mb x = bootBuiltins x) (hlim : s₁.heap.NoLimit) (hg : s₁.gens = #[])
    (ha : s₁.heap.get? a = some { cls := .type "list", data := .seq vs.toArray }) (hi : IntsAre vs ns) (hl : ns.length ≤ sizeLine) (hr : Room k callerA)
    (F : ∀ base : Heap, K.In base → base.Ns mainGlobals mg → FnOk P w K mg base CX k fa fd [x] sp) (hbind : ∀ (s : Shared) (u : Value), BindsTo s fd ⟨[u], []⟩ [(x, u)])
    (hsp : ∀ H : Hp, Only H → SqL K H a (ns.map V.int) → sp [.ref a] H (fun v _ => v = .bl true) fun _ _ _ => False)
    (hCX : ∀ H e s', CX [] H s₁ (fun _ _ _ => False) e s' → False) :
    codeAny (model P w) callerA (.call (.ref fa) ⟨[.ref a], []⟩) (fun r s' => r = .ok (.ret (.bool true)) ∧ OldK s₁.heap s'.heap ∧ s'.os = s₁.os ∧ AllBare s'.gens) s₁ := by
  have rv := zqb hi
  have lenV := hi.length
  have core : ∀ H : Hp, Only H → SqL K H a (ns.map V.int) → HOk P w H s₁.heap → (∀ b, H b ≠ none → b = a) → (H a ≠ none → K.lookup a = none) →
      codeAny (model P w) callerA (.call (.ref fa) ⟨[.ref a], []⟩) (fun r s' => r = .ok (.ret (.bool true)) ∧ OldK s₁.heap s'.heap ∧ s'.os = s₁.os ∧ AllBare s'.gens) s₁ := by
    intro H hO hS hok hA hK
    have base_of : ∀ {b : Addr} {o : Obj}, s₁.heap.get? b = some o → H b = none → (hidT s₁.heap H).get? b = some o := fun e n => zaaa e n
    have noA : ∀ {b : Addr} {o : Obj} {es : Array DictEntry} {ep : Nat}, s₁.heap.get? b = some o → o.data = .dict es ep → H b = none := fun {b o es ep} e d => by
      cases q : H b with
      | none => rfl
      | some u =>
        have e' : b = a := hA b (by rw [q]; simp)
        subst e'
        rw [ha] at e; cases e
        have d' : Data.seq vs.toArray _ = Data.dict es ep := d
        cases d'
    have nsK : ∀ {b : Addr} {m : Str → Option Value}, s₁.heap.Ns b m → (hidT s₁.heap H).Ns b m := fun {b m} ⟨o, es, ep, e, d, r⟩ => ⟨o, es, ep, base_of e (noA e d), d, r⟩
    have hKb : K.In (hidT s₁.heap H) := fun b o e => base_of (KX b o e) (by
      cases q : H b with
      | none => rfl
      | some u =>
        have e' : b = a := hA b (by rw [q]; simp)
        subst e'
        rw [hK (by rw [q]; simp)] at e; cases e)
    have hM : Mod K mg (hidT s₁.heap H) := ⟨hKb, nsK hns, ⟨mb, nsK hb, hbb⟩, let ⟨mc, h1, h2⟩ := hlim; ⟨mc, nsK h1, h2⟩⟩
    have e0 : Env0 P w K mg (hidT s₁.heap H) callerA [] s₁ H := ⟨rfl, hM, fun b o e => zadw e, Nat.le_of_eq (zvx _ _), trivial, fun b hb => absurd (show b ∈ ([] : List Addr) from hb) (by simp), hok, .of_eq hg⟩
    refine codeAny_mono ((F _ hKb (nsK hns)).run callerA [] s₁ H ⟨[.ref a], []⟩ [.ref a] [.ref a] _ _ hr e0 (hbind s₁ (.ref a)) (.cons rfl .nil) (hsp H hO hS)) fun r s' h => ?_
    cases r with
    | error e => exact (hCX H e s' h).elim
    | ok fl =>
      cases fl with
      | next => exact False.elim h
      | brk => exact False.elim h
      | cont => exact False.elim h
      | ret u =>
        obtain ⟨v, H', os, bare, un, hok', r', q⟩ := h
        have q' : v = .bl true := q
        subst q'
        obtain rfl : u = Value.bool true := r'
        refine ⟨rfl, OldK.of_keep fun b o e => ?_, os, bare⟩
        cases q : H b with
        | none => exact un.keep b o e q (by intro z; exact absurd (show b ∈ ([] : List Addr) from z) (by simp)) (by simp)
        | some u =>
          rcases hO b with z | ⟨ob, xs, z⟩
          · rw [q] at z; cases z
          · have z2 := un.frzs b ob _ z
            obtain ⟨e1, _⟩ := hok b _ z
            obtain ⟨e2, _⟩ := hok' b _ z2
            rw [e] at e1; cases e1
            exact e2
  cases hk : K.lookup a with
  | some o =>
    have e := KX a o hk
    rw [ha] at e
    cases e
    refine core (fun _ => none) (fun _ => .inl rfl) (.inr ⟨_, vs.toArray, _, hk, rfl, rfl, rfl, by rw [List.size_toArray, lenV]; exact hl, by simpa using rv⟩) (fun b u z => by have z' : (none : Option HO) = some u := z; cases z') (fun b z => absurd rfl z) fun z => absurd rfl z
  | none =>
    refine core (fun b => if b = a then some (.frz { cls := .type "list", data := .seq vs.toArray } (.lst (ns.map V.int))) else none) (fun b => ?_) (.inl (.inr ⟨{ cls := .type "list", data := .seq vs.toArray }, if_pos rfl⟩)) (fun b u z => ?_) (fun b z => ?_) fun _ => hk
    · by_cases hb : b = a
      · exact .inr ⟨_, _, if_pos hb⟩
      · exact .inl (if_neg hb)
    · by_cases hb : b = a
      · have z' := (if_pos hb).symm.trans z
        cases z'
        subst hb
        exact ⟨ha, by rw [List.length_map]; exact hl, vs, _, rv, ha⟩
      · have z' := (if_neg hb).symm.trans z
        cases z'
    · by_cases hb : b = a
      · exact hb
      · exact absurd (if_neg hb) z
end L2
namespace L2
open PySem PySem.Spec PyProof.Rows
theorem walk_of {l : PySem.W.OpenLaw} {n k : Nat} {q : Program} {loose : List Str} {XP : (Str → Option Value) → Heap → Prop} {YP : World → Heap → Prop} {d : DefRec} {K : Params → PySem.W.Frag} {CX : World → CXT} {sp : World → Sp} {x : Str}
    (hn : l.most = some n) (hn2 : n ≤ sizeLine) (hdf : d.params.defaults = []) (hr : Room k callerA)
    (hY : ∀ (w : World) (h : Heap), YP w h → (K w.params).In h)
    (F : ∀ (w : World) (mg : Str → Option Value) (fa : Addr) (h : Heap), (K w.params).In h → h.Ns mainGlobals mg → mg d.name = some (.ref fa) →
      ∃ fd : FuncData, (∀ (s : Shared) (u : Value), BindsTo s fd ⟨[u], []⟩ [(x, u)]) ∧
        ∀ base : Heap, (K w.params).In base → base.Ns mainGlobals mg → FnOk l.prog w (K w.params) mg base (CX w) k fa fd [x] (sp w))
    (hsp : ∀ (w : World) (H : Hp) (a : Addr) (ns : List Int), ns.length ≤ n → Only H → SqL (K w.params) H a (ns.map V.int) → sp w [.ref a] H (fun v _ => v = .bl true) fun _ _ _ => False)
    (hCX : ∀ (w : World) (H : Hp) (s : Shared) (e : Value) (s' : Shared), CX w [] H s (fun _ _ _ => False) e s' → False) :
    PySem.W.WalkO q loose XP YP l.row.toRowW d [] (fun f vs => PySem.call f vs) := by
  refine Att.attach_call hn hdf fun w s₀ s₁ mg mb fa o pm cd doc a vs ns G Y ho hd hcd hmg hobj hints hlen hg => ?_
  have KX := hY w _ Y
  obtain ⟨fd, hb, hF⟩ := F w mg fa _ KX G.T.g hmg
  exact zaap KX G.T.g G.T.b G.T.builtins G.T.nolimit hg hobj hints (Nat.le_trans hlen hn2) hr hF hb (fun H hO hS => hsp w H a ns hlen hO hS) fun H e s' => hCX w H s₁ e s'
end L2
/- THE LAST THEOREM (shape; LID, My.* are yours):
   My.Adr: a structure of the addresses that your layer names (classes, functions); My.Txt K t: a structure (Prop) of the equations over K;
   My.txt_mk : {K} {implicit addresses ..} (e1 : nsIn K mainGlobals "law" = some (some (.ref f))) (e2 : K.lookup f = some ⟨oc, od, .func (fnOf "law" "law" params body scope dV kV doc pm an cdv ct), sl⟩) (e3 : codeIn K cdv "law" = true) .. : ∃ t, My.Txt K t
set_option maxRecDepth 100000 in
set_option maxHeartbeats 0 in
theorem PySem.Challenge.cw_LID_holds : PySem.Challenge.rw_LID.Holds := by
  w_on; o_law; k_head; (case hw => w_witness2)
  k_fill
  refine L2.walk_of (l := PySem.Challenge.rw_LID) (n := 63) (k := 40) (x := "script") (CX := fun w => ..) (sp := fun _ => My.sp_law) rfl (by decide) rfl ⟨rfl, by decide, by decide⟩ (fun w h Y => PySem.W.kIn_of Y) ?F ?S ?C
  case F =>
    intro w mg fa h KX G hmg
    have T : ∃ t, My.Txt (L2.KOf KX) t := by
      dsimp only [L2.KOf]                          -- K must stand as «<heap const> w.params» for k_is
      refine' My.txt_mk ?e1 ?e2 ?e3 ..
      (case e1 => PySem.W.k_is)                    -- in the order: a name -> its address -> its object -> its parts
      (case e2 => PySem.W.k_is)
      ..
    obtain ⟨t, T⟩ := T
    have e0 := hmg.symm.trans (PySem.W.mg_of KX G T.law)
    cases e0                                       -- fa is the law's own address
    exact ⟨_, fun s u => .of_eq rfl, fun base kb nb => My.law_fn T kb nb⟩     -- if «.of_eq rfl» comes too early: refine' ⟨_, ?b, fun base kb nb => My.law_fn T kb nb⟩; exact fun s u => .of_eq rfl
  case S => exact fun w H a ns hl hO hS => ..
  case C => exact ..
(the tactic k_is has no namespace: write k_is) -/
namespace L2
open PySem PySem.Spec PyProof.Rows
noncomputable def zoe (s : Stmt) (j : Nat) : Stmt := match s with
  | .ClassDef _ _ _ body _ _ _ _ _ _ _ => body.getD j (.Pass ⟨0, 0, 0, 0⟩)
  | _ => .Pass ⟨0, 0, 0, 0⟩
noncomputable def zcb (s : Stmt) : Arguments := match s with
  | .FunctionDef _ a _ _ _ _ _ _ _ _ => a
  | _ => { posonlyargs := [], args := [], vararg := none, kwonlyargs := [], kw_defaults := [], kwarg := none, defaults := [] }
noncomputable def zbp (s : Stmt) : List Stmt := match s with
  | .FunctionDef _ _ b _ _ _ _ _ _ _ => b
  | _ => []
noncomputable def zal (s : Stmt) : Scope := match s with
  | .FunctionDef _ _ _ _ _ _ sc _ _ _ => sc
  | _ => { kind := .function, names := [], isGenerator := false, isCoroutine := false }
noncomputable abbrev CX0 : CXT := fun _ _ _ _ _ _ => False
noncomputable abbrev E0 : XK := fun _ _ _ => False
theorem zakr {X : Cx} : zwi CX0 X E0 := fun _ _ _ _ _ _ _ h => h.elim
set_option genInjectivity false in
structure Fun (K : PySem.W.Frag) (x qual : Str) (st : Stmt) (f : Addr) (fd : FuncData) : Prop where
  ex : ∃ (oc : Value) (od : Option Addr) (kV doc pm : Value) (an : Option Addr) (cdv ct : Value) (osl : Array (Option Value)),
    fd = PySem.W.fnOf x qual (zcb st) (zbp st) (zal st) .none kV doc pm an cdv ct ∧ K.lookup f = some ⟨oc, od, .func fd, osl⟩ ∧ PySem.W.codeIn K cdv qual = true
  kp : PySem.W.keepIn K (.ref f) = true
section
variable {P : Program} {w : World} {K : PySem.W.Frag} {mg : Str → Option Value} {base : Heap}
theorem Fun.ok {x qual : Str} {st : Stmt} {f : Addr} {fd : FuncData} {N ps : List Str} {k : Nat} {sp : Sp} (F : Fun K x qual st f fd) (S : FnScope N ps (zal st)) (len : ∀ vs H Q E, sp vs H Q E → vs.length = ps.length)
    (hbody : ∀ (cdv : Value) (A : Around) (outer : List Env) (s : Shared) (H : Hp) (vs : List V) (Q : VK) (E : XK), Room k (A.deeper (envOfC qual (zal st) s.heap.objs.size f cdv)) → sp vs H Q E →
      ∃ t, PSs (cxOf CX0 P w K mg base N qual (zal st) f cdv A outer s H E).nox (zbp st) t ∧ t { nx := fun _ H' => Q .non H', rt := Q } (zjc N vs) H) : FnOk P w K mg base CX0 (k + 1) f fd ps sp := by
  obtain ⟨oc, od, kV, doc, pm, an, cdv, ct, osl, rfl, lk, hcd⟩ := F.ex
  refine zako lk hcd S len fun A outer s H vs Q E hr hsp => ?_
  obtain ⟨t, h, q⟩ := hbody cdv A outer s H vs Q E hr hsp
  exact ⟨t, h.nox, q⟩
theorem Fun.binds {x qual : Str} {st : Stmt} {f : Addr} {fd : FuncData} {ps : List Str} (F : Fun K x qual st f fd)
    (h : ∀ (kV doc pm : Value) (an : Option Addr) (cdv ct : Value) (us : List Value), us.length = ps.length → bindArgs (PySem.W.fnOf x qual (zcb st) (zbp st) (zal st) .none kV doc pm an cdv ct) ⟨us, []⟩ = pure (ps.zip us)) : zla K fd ps [] := by
  obtain ⟨oc, od, kV, doc, pm, an, cdv, ct, osl, rfl, lk, hcd⟩ := F.ex
  exact .all (h kV doc pm an cdv ct)
theorem zej {x qual : Str} {st : Stmt} {f : Addr} {oc : Value} {od an : Option Addr} {osl : Array (Option Value)} {kV doc pm cdv ct : Value} (l : K.lookup f = some ⟨oc, od, .func (PySem.W.fnOf x qual (zcb st) (zbp st) (zal st) .none kV doc pm an cdv ct), osl⟩)
    (c : PySem.W.codeIn K cdv qual = true) (k : PySem.W.keepIn K (.ref f) = true) : Fun K x qual st f (PySem.W.fnOf x qual (zcb st) (zbp st) (zal st) .none kV doc pm an cdv ct) := ⟨⟨oc, od, kV, doc, pm, an, cdv, ct, osl, rfl, l, c⟩, k⟩
end
theorem zir {A : Around} {k : Nat} (hr : Room k A) : A.units + 1 < cLine := Nat.lt_of_le_of_lt (Nat.add_le_add_left (by decide : 1 ≤ 64) _) hr.units
section
variable {X : Cx}
theorem pv (i : Nat) {x : Str} {pos : Pos} (hN : X.N[i]? = some x := by rfl) (hv : visB X.env.scope x = true := by rfl) (hd : (x == ("__debug__" : Str)) = false := by decide)
    (hcd : (x == ("__classdict__" : Str)) = false := by decide) : PE X (.Name x pos) (tVar i) := zaco hN (visB.of hv) hd hcd
end
theorem iteF {A B : Prop} (h : B) : if false = true then A else B := by
  rw [if_neg Bool.false_ne_true]
  exact h
theorem iteT {A B : Prop} (h : A) : if true = true then A else B := by
  rw [if_pos rfl]
  exact h
theorem ite2 {c A B : Prop} [Decidable c] (h1 : c → A) (h2 : ¬ c → B) : if c then A else B := by
  by_cases h : c
  · rw [if_pos h]
    exact h1 h
  · rw [if_neg h]
    exact h2 h
noncomputable def Same (H H' : Hp) : Prop := ∀ b o, H b = some o → H' b = some o
theorem Same.refl (H : Hp) : Same H H := fun _ _ h => h
theorem Same.trans {H H1 H2 : Hp} (a : Same H H1) (b : Same H1 H2) : Same H H2 := fun c o h => b c o (a c o h)
theorem Same.free {H H' : Hp} (e : Same H H') {l : Addr} (h : H' l = Option.none) : H l = Option.none := by
  cases q : H l with
  | none => rfl
  | some o =>
    rw [e l o q] at h
    cases h
theorem Same.seq {K : PySem.W.Frag} {H H' : Hp} {a : Addr} {xs : List V} (e : Same H H') (h : SqL K H a xs) : SqL K H' a xs := by
  rcases h with (h | ⟨o, h⟩) | h
  · exact .inl (.inl (e _ _ h))
  · exact .inl (.inr ⟨o, e _ _ h⟩)
  · exact .inr h
section
variable {κ : Type} [DecidableEq κ]
theorem zws : ∀ {l : List κ} {k : κ}, l.Nodup → ¬ k ∈ l → (l ++ [k]).Nodup
  | [], k, _, _ => by simp
  | a :: r, k, h, hk => by
    obtain ⟨h1, h2⟩ := List.nodup_cons.mp h
    show (a :: (r ++ [k])).Nodup
    refine List.nodup_cons.mpr ⟨fun m => ?_, zws h2 fun m => hk (List.mem_cons.mpr (Or.inr m))⟩
    rcases List.mem_append.mp m with q | q
    · exact h1 q
    · exact hk (List.mem_cons.mpr (Or.inl (List.mem_singleton.mp q).symm))
end
end L2
set_option maxHeartbeats 4000000
namespace L2
open PySem PySem.Spec PyProof.Rows
noncomputable def clos (cells : List (Str × Addr)) : List (Str × NameKind) → List (Str × Addr) → List (Str × Addr)
  | [], acc => acc
  | (n, k) :: r, acc => if k == .free then clos cells r ((n, (cells.lookup n).getD 0) :: acc) else clos cells r acc
theorem zof {cells : List (Str × Addr)} : ∀ {names : List (Str × NameKind)} {acc : List (Str × Addr)}, (∀ y ∈ names, y.2 = .free → ∃ c, cells.lookup y.1 = some c) → ∀ p ∈ clos cells names acc, p ∈ acc ∨ ((p.1, NameKind.free) ∈ names ∧ cells.lookup p.1 = some p.2)
  | [], acc, _, p, hp => .inl hp
  | (n, k) :: r, acc, h, p, hp => by
    unfold clos at hp
    have hr : ∀ y ∈ r, y.2 = .free → ∃ c, cells.lookup y.1 = some c := fun y hy => h y (List.mem_cons_of_mem _ hy)
    split at hp
    · rename_i hk
      rcases zof hr p hp with q | q
      · rcases List.mem_cons.mp q with q | q
        · subst q
          have hk' : k = .free := by simpa using hk
          subst hk'
          obtain ⟨c, hc⟩ := h (n, .free) List.mem_cons_self rfl
          exact .inr ⟨List.mem_cons_self, by show cells.lookup n = some ((cells.lookup n).getD 0); rw [hc]; rfl⟩
        · exact .inl q
      · exact .inr ⟨List.mem_cons_of_mem _ q.1, q.2⟩
    · rcases zof hr p hp with q | q
      · exact .inl q
      · exact .inr ⟨List.mem_cons_of_mem _ q.1, q.2⟩
theorem zog {cells : List (Str × Addr)} : ∀ {names : List (Str × NameKind)} {acc : List (Str × Addr)}, ∀ p ∈ acc, p ∈ clos cells names acc
  | [], acc, p, hp => hp
  | (n, k) :: r, acc, p, hp => by
    unfold clos
    split
    · exact zog p (List.mem_cons_of_mem _ hp)
    · exact zog p hp
theorem zoh {cells : List (Str × Addr)} {x : Str} : ∀ {names : List (Str × NameKind)} {acc : List (Str × Addr)}, (x, NameKind.free) ∈ names → ∃ c, (x, c) ∈ clos cells names acc
  | [], _, h => by simp at h
  | (n, k) :: r, acc, h => by
    unfold clos
    rcases List.mem_cons.mp h with e | h
    · cases e
      rw [if_pos (show (NameKind.free == NameKind.free) = true by decide)]
      exact ⟨_, zog _ List.mem_cons_self⟩
    · split
      · exact zoh h
      · exact zoh h
theorem zjk {α : Type} {x : Str} {c : α} : ∀ {l : List (Str × α)}, (x, c) ∈ l → ∃ c', l.lookup x = some c'
  | [], h => by simp at h
  | (k, v) :: r, h => by
    rw [List.lookup_cons]
    cases hb : x == k with
    | true => exact ⟨v, rfl⟩
    | false =>
      rcases List.mem_cons.mp h with e | h
      · cases e; simp at hb
      · exact zjk h
theorem zjl {scope : Scope} {env : Env} (h : ∀ y ∈ scope.names, y.2 = .free → ∃ c, env.cells.lookup y.1 = some c) : closureFor scope env = pure (clos env.cells scope.names []) := by
  unfold closureFor
  have key : ∀ (names : List (Str × NameKind)) (acc : List (Str × Addr)), (∀ y ∈ names, y.2 = .free → ∃ c, env.cells.lookup y.1 = some c) →
      (forIn names acc (fun (x : Str × NameKind) (r : List (Str × Addr)) => (if (x.2 == .free) = true then (do let a ← cellOf env x.1; pure (ForInStep.yield ((x.1, a) :: r))) else pure (ForInStep.yield r) : Sem (ForInStep (List (Str × Addr)))))) = pure (clos env.cells names acc) := by
    intro names
    induction names with
    | nil => intro acc _; rfl
    | cons y r ih =>
      intro acc hy
      obtain ⟨n, k⟩ := y
      have hr := fun y (hm : y ∈ r) => hy y (List.mem_cons_of_mem _ hm)
      rw [List.forIn_cons]
      unfold clos
      cases hk : (k == NameKind.free) with
      | true =>
        have hk' : k = .free := by simpa using hk
        subst hk'
        obtain ⟨c, hc⟩ := hy (n, .free) List.mem_cons_self rfl
        have e1 : cellOf env n = pure c := by unfold cellOf; rw [hc]
        simp only [if_true]
        have hc' : env.cells.lookup n = some c := hc
        rw [e1, hc']
        simp only [pure_bind, Option.getD_some]
        exact ih _ hr
      | false =>
        simp only [Bool.false_eq_true, if_false, pure_bind]
        exact ih _ hr
  simpa using key scope.names [] h
theorem zfl : ∀ (names : List (Str × NameKind)) (n : Nat) (acc : List (Str × Addr)), cellsFrom n names acc = cellsFrom n names [] ++ acc
  | [], _, _ => rfl
  | (name, kind) :: r, n, acc => by
    unfold cellsFrom
    split
    · rw [zfl r (n + 1) ((name, n) :: acc), zfl r (n + 1) [(name, n)], List.append_assoc]; rfl
    · exact zfl r n acc
theorem zfm {x : Str} {c : Addr} : ∀ (names : List (Str × NameKind)) (n : Nat) (acc : List (Str × Addr)), (x, c) ∈ cellsFrom n names acc → (x, c) ∈ acc ∨ (x, NameKind.cell) ∈ names
  | [], _, _, h => .inl h
  | (name, kind) :: r, n, acc, h => by
    unfold cellsFrom at h
    split at h
    · rename_i hk
      have hk' : kind = .cell := by simpa using hk
      subst hk'
      rcases zfm r _ _ h with q | q
      · rcases List.mem_cons.mp q with q | q
        · cases q; exact .inr List.mem_cons_self
        · exact .inl q
      · exact .inr (List.mem_cons_of_mem _ q)
    · rcases zfm r _ _ h with q | q
      · exact .inl q
      · exact .inr (List.mem_cons_of_mem _ q)
theorem zih {α : Type} {x : Str} : ∀ {l r : List (Str × α)}, (l ++ r).lookup x = (l.lookup x).or (r.lookup x)
  | [], _ => by simp
  | (k, v) :: l, r => by
    rw [List.cons_append, List.lookup_cons, List.lookup_cons]
    cases x == k with
    | true => rfl
    | false => exact zih
theorem zew {env : Env} {x : Str} {k' : NameKind} : ∀ {names : List (Str × NameKind)},
    (names.map fun (n, k) => if (k == NameKind.free && env.scope.kind == .function && env.kindOf n == some .cell) then (n, NameKind.cell) else (n, k)).lookup x = some k' →
    ∃ k, names.lookup x = some k ∧ (k' = k ∨ (k = .free ∧ k' = .cell))
  | [], h => by simp at h
  | (n, k) :: r, h => by
    rw [List.map_cons] at h
    by_cases hc : (k == NameKind.free && env.scope.kind == .function && env.kindOf n == some .cell) = true
    · simp only [hc, if_true] at h
      rw [List.lookup_cons] at h ⊢
      cases hx : x == n with
      | true =>
        rw [hx] at h
        have hk : k = .free := by simp at hc; exact hc.1.1
        exact ⟨k, rfl, .inr ⟨hk, (Option.some.inj h).symm⟩⟩
      | false => rw [hx] at h; exact zew h
    · simp only [hc, Bool.false_eq_true, if_false] at h
      rw [List.lookup_cons] at h ⊢
      cases hx : x == n with
      | true => rw [hx] at h; exact ⟨k, rfl, .inl (Option.some.inj h).symm⟩
      | false => rw [hx] at h; exact zew h
theorem zhk {env : Env} {x : Str} : ∀ {names : List (Str × NameKind)}, names.lookup x = some .free →
    ((names.map fun (n, k) => if (k == NameKind.free && env.scope.kind == .function && env.kindOf n == some .cell) then (n, NameKind.cell) else (n, k)).lookup x = some .free ∨
     (names.map fun (n, k) => if (k == NameKind.free && env.scope.kind == .function && env.kindOf n == some .cell) then (n, NameKind.cell) else (n, k)).lookup x = some .cell)
  | [], h => by simp at h
  | (n, k) :: r, h => by
    rw [List.map_cons]
    rw [List.lookup_cons] at h
    by_cases hc : (k == NameKind.free && env.scope.kind == .function && env.kindOf n == some .cell) = true
    · simp only [hc, if_true]
      rw [List.lookup_cons]
      cases hx : x == n with
      | true => exact .inr rfl
      | false => rw [hx] at h; exact zhk h
    · simp only [hc, Bool.false_eq_true, if_false]
      rw [List.lookup_cons]
      cases hx : x == n with
      | true => rw [hx] at h; exact .inl h
      | false => rw [hx] at h; exact zhk h
theorem zvd {M : Model} {A : Around} {E : Value → Shared → Prop} {s : Shared} {scope : Scope} {globals : Addr} {cl : List (Str × Addr)} {qual : Str} {env : Env} {Q : Env → Shared → Prop}
    (hQ : ∀ h', (∀ b o, s.heap.get? b = some o → h'.get? b = some o) → h'.Ns s.heap.objs.size (fun _ => none) → (∀ n c, (n, c) ∈ cellsFrom (s.heap.objs.size + 1) scope.names [] → h'.IsCell c none ∧ s.heap.objs.size + 1 ≤ c) →
      ((cellsFrom (s.heap.objs.size + 1) scope.names []).Pairwise fun x y => x.2 ≠ y.2) →
      Q { scope := scope, locals := s.heap.objs.size, globals := globals, cells := cellsFrom (s.heap.objs.size + 1) scope.names [] ++ cl, qual := qual, func := none, code := env.code, frame := env.frame, builtins := env.builtins } { s with heap := h' }) :
    wpAny M A (newFunctionEnv scope globals cl [] qual none .none (some env)) Q E s := by
  simp only [newFunctionEnv, Option.isSome_some, if_true]
  refine wpAny_bind (wpAny_alloc ?_)
  refine wpAny_bind (wpAny_layCells _ (fun name kind cells => by cases hkc : kind == NameKind.cell <;> simp [hkc]) _ _ _ _ ?_)
  have ok := cellsFrom_ok scope.names (s.heap.push { cls := .type "dict", data := .dict #[] }) (s.heap.objs.size + 1) [] ⟨fun _ _ hm => (nomatch hm), List.Pairwise.nil⟩ (by rw [Heap.size_push]; exact Nat.le_refl _)
  rw [Heap.size_push] at ok
  rw [show ({ s with heap := s.heap.push { cls := .type "dict", data := .dict #[] } } : Shared).heap.objs.size = s.heap.objs.size + 1 from Heap.size_push ..]
  rw [zfl]
  refine wpAny_bind ?_
  refine wpAny_pure (wpAny_pure ?_)
  exact hQ _ (fun b o e => pushCells_keeps _ _ b o (Heap.get?_push_of_some _ e)) ((Heap.Ns.new s.heap (.type "dict")).keeps (pushCells_keeps _ _)) ok.empty ok.apart
end L2
namespace L2
open PySem PySem.Spec PyProof.Rows
noncomputable def cxComp (X : Cx) (scope : Scope) (N' own : List Str) (cl : List (Str × Addr)) (C : Addr) (s : Shared) (H : Hp) (fp : List Addr) : Cx :=
  { X with N := N', s₀ := s, H₀ := H, env := compEnvC scope cl C X.env, outer := X.stack, stack := X.stack, ex := fp, fn := fun x => own.contains x, pn := [], xe := fun _ _ => False }
structure CompOk (X : Cx) (scope : Scope) (N' own : List Str) (fr : List Nat) : Prop where
  kind : scope.kind = .function
  names : ∀ y ∈ scope.names, scope.names.lookup y.1 = some y.2
  up : ∀ y ∈ scope.names, y.2 = .free → (X.env.kindOf y.1 = some .cell ∨ X.env.kindOf y.1 = some .free)
  nm : N' = own ++ fr.map (fun j => X.N.getD j Str.empty)
  fr : ∀ j ∈ fr, j < X.N.length ∧ scope.names.lookup (X.N.getD j Str.empty) = some .free
  own : ∀ x ∈ own, scope.names.lookup x = some .local ∨ scope.names.lookup x = some .cell
noncomputable def tau (own : List Str) (fr : List Nat) (σ : St) : St := own.map (fun _ => none) ++ fr.map (fun j => σ.getD j none)
section
variable {X : Cx} {pins : List (Addr × Obj)} {σ : St} {H : Hp} {s : Shared} {scope : Scope} {N' own : List Str} {fr : List Nat}
theorem zjz (c : CompOk X scope N' own fr) (ok : X.Ok) : ∀ y ∈ scope.names, y.2 = .free → ∃ a, X.env.cells.lookup y.1 = some a := fun y hy e => ok.has y.1 (c.up y hy e)
theorem zaaq {fp : List Addr} {h' : Heap} (c : CompOk X scope N' own fr) (I : Inv X pins σ H s)
    (hf : ∀ b ∈ fp, FpOk X pins H b) (ho : ∀ b ∈ fp, ∃ o, s.heap.get? b = some o ∧ ∀ v, o.data ≠ .cell v)
    (keep : ∀ b o, s.heap.get? b = some o → h'.get? b = some o) (ns : h'.Ns s.heap.objs.size (fun _ => none))
    (cells : ∀ n c, (n, c) ∈ cellsFrom (s.heap.objs.size + 1) scope.names [] → h'.IsCell c none ∧ s.heap.objs.size + 1 ≤ c)
    (apart : (cellsFrom (s.heap.objs.size + 1) scope.names []).Pairwise fun x y => x.2 ≠ y.2) :
    Inv (cxComp X scope N' own (cellsFrom (s.heap.objs.size + 1) scope.names [] ++ clos X.env.cells scope.names []) s.heap.objs.size s H fp) [] (tau own fr σ) H { s with heap := h' } := by
  have found := zjz c I.ok
  have clm : ∀ x a, (x, a) ∈ clos X.env.cells scope.names [] → (x, NameKind.free) ∈ scope.names ∧ X.env.cells.lookup x = some a := fun x a hm => by
    rcases zof found (x, a) hm with q | q
    · simp at q
    · exact q
  have look : ∀ x a, (cellsFrom (s.heap.objs.size + 1) scope.names [] ++ clos X.env.cells scope.names []).lookup x = some a →
      ((x, a) ∈ cellsFrom (s.heap.objs.size + 1) scope.names [] ∧ (x, NameKind.cell) ∈ scope.names) ∨ ((x, NameKind.free) ∈ scope.names ∧ X.env.cells.lookup x = some a) := fun x a e => by
    rw [zih] at e
    cases q : (cellsFrom (s.heap.objs.size + 1) scope.names []).lookup x with
    | some b =>
      rw [q] at e
      cases e
      have hm := PySem.mem_of_lookup q
      rcases zfm _ _ _ hm with z | z
      · simp at z
      · exact .inl ⟨hm, z⟩
    | none =>
      rw [q] at e
      exact .inr (clm x a (PySem.mem_of_lookup e))
  have lookF : ∀ x a, (x, NameKind.free) ∈ scope.names → X.env.cells.lookup x = some a → (cellsFrom (s.heap.objs.size + 1) scope.names [] ++ clos X.env.cells scope.names []).lookup x = some a := fun x a hx e => by
    rw [zih]
    have q : (cellsFrom (s.heap.objs.size + 1) scope.names []).lookup x = none := by
      cases q : (cellsFrom (s.heap.objs.size + 1) scope.names []).lookup x with
      | none => rfl
      | some b =>
        rcases zfm _ _ _ (PySem.mem_of_lookup q) with z | z
        · simp at z
        · have h1 := c.names _ hx
          have h2 := c.names _ z
          rw [h1] at h2
          cases h2
    rw [q]
    obtain ⟨d, hd⟩ := zoh (cells := X.env.cells) (acc := []) hx
    obtain ⟨d', hd'⟩ := zjk hd
    have := (clm x d' (PySem.mem_of_lookup hd')).2
    rw [e] at this
    cases this
    exact hd'
  have below : ∀ b o, s.heap.get? b = some o → b < s.heap.objs.size := fun b o e => Heap.lt_size e
  have cold : ∀ x a, X.env.cells.lookup x = some a → a < s.heap.objs.size := fun x a e => let ⟨v, q⟩ := I.cell x a e; q.lt
  refine ⟨⟨I.ok.mod, c.kind, I.ok.glob, I.ok.blt, Nat.le_refl _, ?inj, ?has, ?cab, I.ok.hd, I.ok.frames, .inl rfl, ?exf, I.bs, Nat.le_trans I.ok.bsz I.sz, ?noex, ?exfs, I.stack, I.stkFree⟩,
    rfl, I.bare, Un.kept keep, ⟨_, ns, ?loc⟩, ?cell, I.hok.fresh (Nat.le_refl _), ?freeC, ?pin, I.hok.kept keep, ?len⟩
  case inj =>
    intro x y a h1 h2
    rcases look x a h1 with ⟨m1, k1⟩ | ⟨k1, e1⟩ <;> rcases look y a h2 with ⟨m2, k2⟩ | ⟨k2, e2⟩
    · exact name_of_addr apart m1 m2
    · exact absurd (Nat.lt_of_lt_of_le (cold y a e2) (Nat.le_of_succ_le (cells x a m1).2)) (Nat.lt_irrefl _)
    · exact absurd (Nat.lt_of_lt_of_le (cold x a e1) (Nat.le_of_succ_le (cells y a m2).2)) (Nat.lt_irrefl _)
    · exact I.ok.inj x y a e1 e2
  case has =>
    intro x hx
    have hx' : (∃ k, scope.names.lookup x = some k ∧ (k = .cell ∨ k = .free)) := by
      rcases hx with hx | hx
      · obtain ⟨k, e, q⟩ := zew (env := X.env) (names := scope.names) hx
        rcases q with q | ⟨q, _⟩
        · exact ⟨k, e, .inl q.symm⟩
        · exact ⟨k, e, .inr q⟩
      · obtain ⟨k, e, q⟩ := zew (env := X.env) (names := scope.names) hx
        rcases q with q | ⟨q, _⟩
        · exact ⟨k, e, .inr q.symm⟩
        · exact ⟨k, e, .inr q⟩
    obtain ⟨k, e, q⟩ := hx'
    show ∃ a, (cellsFrom (s.heap.objs.size + 1) scope.names [] ++ clos X.env.cells scope.names []).lookup x = some a
    rcases q with rfl | rfl
    · obtain ⟨a, ha⟩ := zob (n := s.heap.objs.size + 1) e
      exact ⟨a, by rw [zih, ha]; rfl⟩
    · obtain ⟨a, ha⟩ := found _ (PySem.mem_of_lookup e) rfl
      exact ⟨a, lookF x a (PySem.mem_of_lookup e) ha⟩
  case cab =>
    intro x a hx e
    have hx : own.contains x = true := hx
    have hx' : x ∈ own := by simpa using hx
    rcases look x a e with ⟨m1, _⟩ | ⟨k1, _⟩
    · have := (cells x a m1).2
      show s.heap.objs.size ≤ a
      omega
    · have h1 := c.names _ k1
      rcases c.own x hx' with h2 | h2
      · rw [h1] at h2; cases h2
      · rw [h1] at h2; cases h2
  case exf =>
    intro b hb
    obtain ⟨o, e, d⟩ := ho b hb
    refine ⟨Nat.ne_of_lt (below b o e), fun x a q z => ?_⟩
    subst z
    rcases look x a q with ⟨m1, _⟩ | ⟨k1, e1⟩
    · exact absurd (Nat.lt_of_lt_of_le (below a o e) (Nat.le_of_succ_le (cells x a m1).2)) (Nat.lt_irrefl _)
    · obtain ⟨v, o', e', d'⟩ := I.cell x a e1
      rw [e] at e'
      cases e'
      exact d v d'
  case noex =>
    intro b o e hb
    rcases (hf b hb).2.2.2.1 with z | z
    · exact I.ok.noex b o e z
    · exact absurd (Nat.lt_of_lt_of_le (Nat.lt_of_lt_of_le (Heap.lt_size e) I.ok.bsz) z) (Nat.lt_irrefl _)
  case exfs =>
    intro b hb z
    rcases List.mem_cons.mp (I.stkSub b z) with q | q
    · exact (hf b hb).2.1 q
    · exact (hf b hb).2.2.1 q
  case loc =>
    intro i x v h1 h2 h3
    have h1 : N'[i]? = some x := h1
    rw [c.nm] at h1
    unfold tau at h2
    by_cases hi : i < own.length
    · rw [List.getElem?_append_left (by simpa using hi), List.getElem?_map] at h2
      cases q : own[i]? with
      | none => rw [q] at h2; cases h2
      | some z => rw [q] at h2; cases h2
    · rw [List.getElem?_append_right (by simpa using hi), List.getElem?_map, List.length_map] at h2
      rw [List.getElem?_append_right (by simpa using hi), List.getElem?_map] at h1
      cases q : fr[i - own.length]? with
      | none => rw [q] at h2; cases h2
      | some j =>
        rw [q] at h1 h2
        have e1 : X.N.getD j Str.empty = x := Option.some.inj h1
        have e2 : σ.getD j none = some v := Option.some.inj h2
        obtain ⟨hj, hfree⟩ := c.fr j (List.mem_of_getElem? q)
        rw [e1] at hfree
        have hNj : X.N[j]? = some x := by
          rw [← e1, List.getD_eq_getElem?_getD, List.getElem?_eq_getElem hj]; rfl
        have hσj : σ[j]? = some (some v) := by
          rw [List.getD_eq_getElem?_getD] at e2
          cases z : σ[j]? with
          | none => rw [z] at e2; cases e2
          | some w => rw [z] at e2; rw [show w = some v from e2]
        have hmem : (x, NameKind.free) ∈ scope.names := PySem.mem_of_lookup hfree
        have hup := c.up _ hmem rfl
        obtain ⟨m, hn, hl⟩ := I.loc
        obtain ⟨u, ru, lk⟩ := hl j x v hNj hσj (by rcases hup with z | z; exact .inr (.inl z); exact .inr (.inr z))
        refine ⟨u, ru, .inr ⟨?_, ?_⟩⟩
        · rcases zhk (env := X.env) (names := scope.names) hfree with z | z
          · exact .inr z
          · exact .inl z
        · rcases lk with ⟨k1, _⟩ | ⟨_, a, ha, hc⟩
          · rcases hup with z | z
            · rw [show X.env.kindOf x = some .cell from z] at k1; cases k1
            · rw [show X.env.kindOf x = some .free from z] at k1; cases k1
          · exact ⟨a, lookF x a hmem ha, hc.keeps keep⟩
  case cell =>
    intro x a e
    rcases look x a e with ⟨m1, _⟩ | ⟨k1, e1⟩
    · exact ⟨_, (cells x a m1).1⟩
    · obtain ⟨v, q⟩ := I.cell x a e1
      exact ⟨v, q.keeps keep⟩
  case freeC =>
    intro x a e
    rcases look x a e with ⟨m1, _⟩ | ⟨k1, e1⟩
    · exact I.hok.fresh (by have := (cells x a m1).2; omega)
    · exact I.freeC x a e1
  case pin => intro p hp; exact absurd (show p ∈ ([] : List (Addr × Obj)) from hp) (by simp)
  case len =>
    show (tau own fr σ).length = N'.length
    rw [c.nm]; unfold tau; simp
end
end L2
namespace L2
open PySem PySem.Spec PyProof.Rows
noncomputable abbrev TM := St → Hp → (St → Hp → Prop) → Prop
noncomputable def PM (X : Cx) (act : Sem Unit) (t : TM) : Prop :=
  ∀ (pins : List (Addr × Obj)) (s : Shared) (σ : St) (H : Hp) (Q : St → Hp → Prop), Inv X pins σ H s → t σ H Q → wpAny (model X.prog X.w) X.A act (fun _ s' => ∃ σ' H', Inv X pins σ' H' s' ∧ Q σ' H') X.xe s
noncomputable def PF (X : Cx) (ifs : List Expr) (t : TT) : Prop :=
  ∀ (pins : List (Addr × Obj)) (s : Shared) (σ : St) (H : Hp) (Q : Bool → Hp → Prop), Inv X pins σ H s → t σ H Q →
    wpAny (model X.prog X.w) X.A (forIn ifs true fun c r => if r = true then do let ok ← isTrue c X.env (eval c X.env); pure (ForInStep.yield ok) else pure (ForInStep.yield r)) (TP X pins σ Q) X.xe s
noncomputable def tAll : TT := fun _ H Q => Q true H
section
variable {X : Cx}
theorem zaid : PF X [] tAll := fun _ s σ H Q I h => wpAny_tests_nil ⟨H, I, h⟩
theorem zaie {c : Expr} {t : TT} (h : PT X c t) : PF X [c] t := fun pins s σ H Q I q => wpAny_tests_one (h pins s σ H Q I q)
noncomputable def zaem (p : Addr) (te : TE) : TM := fun σ H Q => te σ H fun v H1 => ∃ ys, H1 p = some (.lst ys) ∧ ys.length < sizeLine ∧ Q σ (upd H1 p (.lst (ys ++ [v])))
theorem zwt {elt : Expr} {te : TE} {p : Addr} (h : PE X elt te) : PM X (do let _ ← call (.builtin "list.append") [.ref p, ← eval elt X.env]) (zaem p te) := by
  intro pins s σ H Q I q
  refine wpAny_bind (thn (h pins s σ H _ I q) fun u s1 ⟨v, H1, I1, r, ys, hp, hz, q1⟩ => ?_)
  refine wpAny_bind (thn (zdr pins s1 σ H1 (.ref p) [v] (.ref p) [u] (fun _ H2 => Q σ H2) I1 rfl (.cons r .nil) ⟨p, ys, v, rfl, rfl, hp, hz, q1⟩) fun _ s2 ⟨_, H2, I2, _, q2⟩ => ?_)
  exact wpAny_pure ⟨σ, H2, I2, q2⟩
noncomputable def zaen (J : It) (g : TG) (tt : TT) (tm : TM) : TM := fun σ H Q => ∃ W : Nat → Nat → St → Hp → Prop, (∃ m, W 0 m σ H) ∧ ∀ i m σ H, W i m σ H →
  (J.stop i H ∧ Q σ H) ∨ (J.go i H ∧ ∃ N : St → Hp → Prop, (∀ σ' H', N σ' H' → ∃ m', m' < m ∧ W (i + 1) m' σ' H') ∧ ∀ x H', J.yld i H x H' → g x σ H' fun σ2 H2 => tt σ2 H2 fun b H3 => if b = true then tm σ2 H3 N else N σ2 H3)
theorem zsu {elt0 : Expr} {gens : List Comprehension} {scope : Scope} {cpos : Pos} {depth : Nat} {target : Expr} {ifs : List Expr} {emit : Sem Unit} {acc : Value} {ip : Pos} {it : Addr} {fp : List Addr} {tn : Nat → Heap → Prop} {J : It} {g : TG} {tt : TT} {tm : TM} {pins : List (Addr × Obj)} {σ : St} {H : Hp} {s : Shared} {Q : St → Hp → Prop}
    (hx : X.xe = fun _ _ => False) (hc : X.calm = true)
    (eq : compTurn (.ListComp elt0 gens scope cpos) depth (.ref it) acc X.env = (do
      standAt ip
      match ← pyNext (.ref it) with
      | none => pure (.done .next)
      | some v =>
        letOwnedTupleGo target (.ref it) v
        assign target X.env v
        let mut ok := true
        for c in ifs do
          if ok then ok ← isTrue c X.env (eval c X.env)
        if ok then emit
        again (.compLoop (.ListComp elt0 gens scope cpos) depth (.ref it) acc X.env)))
    (T : Turn X.prog X.w X.K target J fp it tn) (hg : PG X target g) (ht : PF X ifs tt) (hm : PM X emit tm)
    (I : Inv X pins σ H s) (st : tn 0 s.heap) (hf : ∀ b ∈ fp, FpOk X pins H b) (h : zaen J g tt tm σ H Q) :
    codeAny (model X.prog X.w) X.A (.compLoop (.ListComp elt0 gens scope cpos) depth (.ref it) acc X.env) (fun r s' => r = .ok .next ∧ ∃ σ' H', Inv X pins σ' H' s' ∧ Q σ' H') s := by
  obtain ⟨W, ⟨m0, w0⟩, turn⟩ := h
  have stat : ∀ {H' : Hp}, (∀ b ∈ fp, H' b = none) → ∀ b ∈ fp, FpOk X pins H' b := fun hn b hb => ⟨hn b hb, (hf b hb).2⟩
  have xe : ∀ {α : Type} {m : Sem α} {Q' : α → Shared → Prop} {E : Value → Shared → Prop} {s : Shared}, wpAny (model X.prog X.w) X.A m Q' X.xe s → wpAny (model X.prog X.w) X.A m Q' E s := fun q => wpAny_mono q (fun _ _ z => z) fun _ _ z => by rw [hx] at z; exact z.elim
  refine codeAny_loop rfl (fun n s' => ∃ i σ' H', Inv X pins σ' H' s' ∧ tn i s'.heap ∧ (∀ b ∈ fp, H' b = none) ∧ W i n σ' H') ?_ m0 ⟨0, σ, H, I, st, fun b hb => (hf b hb).1, w0⟩
  rintro n s3 ⟨i, σ3, H3, I3, st3, fr3, w3⟩
  show wpAny _ X.A ((compTurn (.ListComp elt0 gens scope cpos) depth (.ref it) acc X.env).onRaise (fun x => do noteFrame x X.env; theTreesLotGoes x)) _ _ s3
  refine wpAny_noted ?_
  rw [eq]
  refine wpAny_bind (wpAny_standAt (wpAny_bind ?_))
  rcases turn i n σ3 H3 w3 with ⟨stop, qn⟩ | ⟨go, N, hN, step⟩
  · refine thn (T.done X rfl rfl rfl hc i pins s3 σ3 H3 _ I3 (stat fr3) st3 stop) fun r s4 ⟨hr, I4⟩ => ?_
    subst hr
    exact wpAny_pure ⟨rfl, σ3, H3, I4, qn⟩
  · refine thn (T.item X rfl rfl rfl hc i pins s3 σ3 H3 _ I3 (stat fr3) st3 go) fun r s4 ⟨u, hr, h4⟩ => ?_
    subst hr
    refine wpAny_bind (thn h4 fun _ s5 ⟨x, H5, I5, r5, y5, st5, fr5⟩ => ?_)
    have I5' := I5.pinned (stat fr5) (T.obj _ _ st5)
    refine wpAny_bind (xe (thn (hg _ s5 σ3 H5 x u _ I5' r5 (step x H5 y5)) fun _ s6 ⟨σ6, H6, I6, q6⟩ => ?_))
    have again : ∀ {σ7 : St} {H7 : Hp} {s7 : Shared}, Inv X (pins ++ zpr fp s5.heap) σ7 H7 s7 → N σ7 H7 → ∃ m, m < n ∧ ∃ i σ' H', Inv X pins σ' H' s7 ∧ tn i s7.heap ∧ (∀ b ∈ fp, H' b = none) ∧ W i m σ' H' := fun {σ7 H7 s7} I7 n7 => by
      obtain ⟨m', hm, w7⟩ := hN σ7 H7 n7
      refine ⟨m', hm, i + 1, σ7, H7, I7.unpinned, T.keep _ _ _ st5 fun b hb o e => (I7.pin (b, o) (List.mem_append_right _ (List.mem_append_right _ (zig hb e)))).1, fun b hb => ?_, w7⟩
      obtain ⟨o, e, d⟩ := T.obj _ _ st5 b hb
      exact (I7.pin (b, o) (List.mem_append_right _ (List.mem_append_right _ (zig hb e)))).2.1
    refine wpAny_bind (xe (thn (ht _ s6 σ6 H6 _ I6 q6) fun ok s7 ⟨H7, I7, q7⟩ => ?_))
    cases ok with
    | false =>
      rw [if_neg (by decide)] at q7
      exact wpAny_pure ⟨rfl, again I7 q7⟩
    | true =>
      rw [if_pos rfl] at q7
      refine wpAny_bind (xe (thn (hm _ s7 σ6 H7 _ I7 q7) fun _ s8 ⟨σ8, H8, I8, q8⟩ => ?_))
      exact wpAny_pure ⟨rfl, again I8 q8⟩
end
end L2
namespace L2
open PySem PySem.Spec PyProof.Rows
section
variable {X : Cx} {pins : List (Addr × Obj)} {σ : St} {H : Hp} {s : Shared} {scope : Scope} {N' own : List Str} {fr : List Nat}
theorem znf {elt0 target iter : Expr} {ifs : List Expr} {rest : List Comprehension} {cpos : Pos} {g : TG} {tt : TT} {tm : Addr → TM} {emit : Value → Env → Sem Unit} {it : Addr} {fp : List Addr} {tn : Nat → Heap → Prop} {J : It} {Q : VK} {E : Value → Shared → Prop} {RR : Value → Addr → Result → Shared → Prop}
    (c : CompOk X scope N' own fr) (hc : X.calm = true)
    (eq : ∀ it acc env, compTurn (.ListComp elt0 (⟨target, iter, ifs, 0⟩ :: rest) scope cpos) 0 it acc env = (do
      standAt iter.pos
      match ← pyNext it with
      | none => pure (.done .next)
      | some v =>
        letOwnedTupleGo target it v
        assign target env v
        let mut ok := true
        for c in ifs do
          if ok then ok ← isTrue c env (eval c env)
        if ok then emit acc env
        again (.compLoop (.ListComp elt0 (⟨target, iter, ifs, 0⟩ :: rest) scope cpos) 0 it acc env)))
    (T : Turn X.prog X.w X.K target J fp it tn)
    (hb : ∀ (cl : List (Str × Addr)) (C : Addr) (s : Shared) (H : Hp) (fp : List Addr) (p : Addr), PG (cxComp X scope N' own cl C s H fp) target g ∧ PF (cxComp X scope N' own cl C s H fp) ifs tt ∧ PM (cxComp X scope N' own cl C s H fp) (emit (.ref p) (compEnvC scope cl C X.env)) (tm p))
    (I : Inv X pins σ H s) (st : tn 0 s.heap) (hf : ∀ b ∈ fp, FpOk X pins H b)
    (h : ∀ p, H p = none → zaen J g tt (tm p) (tau own fr σ) (upd H p (.lst [])) (fun _ H' => Q (.ref p) H'))
    (hRR : ∀ (p C : Addr) (m : Str → Option Value) (H' : Hp) (s' : Shared), Inv X pins σ H' s' → s'.heap.Ns C m → FpOk X pins H' C → Q (.ref p) H' → RR (.ref p) C (.ok .next) s') :
    wpAny (model X.prog X.w) X.A (newList []) (fun acc s₃ => wpAny (model X.prog X.w) X.A (newFunctionEnv scope X.env.globals (clos X.env.cells scope.names []) [] X.env.qual none .none (some X.env)) (fun cenv s₄ =>
      codeAny (model X.prog X.w) X.A (.compStart (.ListComp elt0 (⟨target, iter, ifs, 0⟩ :: rest) scope cpos) 0 (.ref it) acc { cenv with scope := relabel scope X.env }) (RR acc cenv.locals) s₄) E s₃) E s := by
  refine wpAny_newObj_type ?_
  have I3 : Inv X pins σ (upd H s.heap.objs.size (.lst [])) { s with heap := s.heap.push { cls := .type "list", dict := none, data := .seq ([] : List Value).toArray } } := I.lnew (t' := s.toks) .nil (Nat.zero_le _)
  have hn0 : H s.heap.objs.size = none := I.hok.fresh (Nat.le_refl _)
  generalize e3 : ({ s with heap := s.heap.push { cls := .type "list", dict := none, data := .seq ([] : List Value).toArray } } : Shared) = s3 at I3 ⊢
  have k3 : ∀ b o, s.heap.get? b = some o → s3.heap.get? b = some o := fun b o e => by rw [← e3]; exact Heap.get?_push_of_some _ e
  have hne : ∀ b ∈ fp, b ≠ s.heap.objs.size := fun b hb => by
    obtain ⟨o, e, _⟩ := T.obj _ _ st b hb
    exact Nat.ne_of_lt (Heap.lt_size e)
  have hf3 : ∀ b ∈ fp, FpOk X pins (upd H s.heap.objs.size (.lst [])) b := fun b hb => ⟨by rw [zay (hne b hb)]; exact (hf b hb).1, (hf b hb).2⟩
  have st3 : tn 0 s3.heap := T.keep _ _ _ st fun b _ o e => k3 b o e
  refine zvd fun h' keep ns cells apart => ?_
  have I4 := zaaq c I3 hf3 (T.obj _ _ st3) keep ns cells apart
  have st4 : tn 0 h' := T.keep _ _ _ st3 fun b _ o e => keep b o e
  obtain ⟨hg, ht, hm⟩ := hb (cellsFrom (s3.heap.objs.size + 1) scope.names [] ++ clos X.env.cells scope.names []) s3.heap.objs.size s3 (upd H s.heap.objs.size (.lst [])) fp s.heap.objs.size
  have hf4 : ∀ b ∈ fp, FpOk (cxComp X scope N' own (cellsFrom (s3.heap.objs.size + 1) scope.names [] ++ clos X.env.cells scope.names []) s3.heap.objs.size s3 (upd H s.heap.objs.size (.lst [])) fp) [] (upd H s.heap.objs.size (.lst [])) b := fun b hb =>
    ⟨(hf3 b hb).1, (I4.ok.exf b hb).1, I4.ok.exfs b hb, .inl hb, (I4.ok.exf b hb).2, fun p hp => absurd (show p ∈ ([] : List (Addr × Obj)) from hp) (by simp)⟩
  have loop : codeAny (model X.prog X.w) X.A (.compLoop (.ListComp elt0 (⟨target, iter, ifs, 0⟩ :: rest) scope cpos) 0 (.ref it) (.ref s.heap.objs.size) (compEnvC scope (cellsFrom (s3.heap.objs.size + 1) scope.names [] ++ clos X.env.cells scope.names []) s3.heap.objs.size X.env)) (RR (.ref s.heap.objs.size) s3.heap.objs.size) { s3 with heap := h' } := by
    refine codeAny_mono (zsu (X := cxComp X scope N' own (cellsFrom (s3.heap.objs.size + 1) scope.names [] ++ clos X.env.cells scope.names []) s3.heap.objs.size s3 (upd H s.heap.objs.size (.lst [])) fp) (pins := []) rfl hc (eq _ _ _) T hg ht hm I4 st4 hf4 (h _ hn0)) fun r s5 hr => ?_
    obtain ⟨rfl, σ5, H5, I5, q5⟩ := hr
    obtain ⟨m, hn, _⟩ := id I5.loc
    have u5 : Un (frs X.stack) fp (upd H s.heap.objs.size (.lst [])) H5 s3.heap s5.heap := I5.base
    have hok5 : HOk X.prog X.w H5 s5.heap := I5.hok
    have os5 : s5.os = s3.os := I5.os
    have bare5 := I5.bare
    have free5 : H5 s3.heap.objs.size = none := I5.free
    have hn : s5.heap.Ns s3.heap.objs.size m := hn
    clear I5
    obtain ⟨hh, gg, dd, tk, os'⟩ := s5
    obtain rfl : os' = s3.os := os5
    have I6 : Inv X pins σ H5 { s3 with heap := hh, gens := gg, drawn := dd, toks := tk } := I3.call (ch := fp) u5 hok5 bare5 fun b hb => ⟨(hf3 b hb).2.2.2.1, (hf3 b hb).2.1, (hf3 b hb).2.2.2.2.1, (hf3 b hb).2.2.2.2.2⟩
    exact hRR _ _ m H5 _ I6 hn (I3.fpOk (Nat.le_refl _) free5) q5
  exact codeAny_compStart_list loop (T.self _ 0 _ _ _ st4 loop)
noncomputable def zaeo (wi : TI) (g : TG) (tt : TT) (tm : Addr → TM) (own : List Str) (fr : List Nat) : TE := fun σ H Q => wi σ H fun J H1 => ∀ p, H1 p = none → zaen J g tt (tm p) (tau own fr σ) (upd H1 p (.lst [])) (fun _ H' => Q (.ref p) H')
theorem zaar {elt0 target iter : Expr} {ifs : List Expr} {rest : List Comprehension} {cpos : Pos} {wi : TI} {g : TG} {tt : TT} {tm : Addr → TM} {emit : Value → Env → Sem Unit} (c : CompOk X scope N' own fr) (hc : X.calm = true)
    (eq : ∀ it acc env, compTurn (.ListComp elt0 (⟨target, iter, ifs, 0⟩ :: rest) scope cpos) 0 it acc env = (do
      standAt iter.pos
      match ← pyNext it with
      | none => pure (.done .next)
      | some v =>
        letOwnedTupleGo target it v
        assign target env v
        let mut ok := true
        for c in ifs do
          if ok then ok ← isTrue c env (eval c env)
        if ok then emit acc env
        again (.compLoop (.ListComp elt0 (⟨target, iter, ifs, 0⟩ :: rest) scope cpos) 0 it acc env)))
    (hi : PI X target iter wi)
    (hb : ∀ (cl : List (Str × Addr)) (C : Addr) (s : Shared) (H : Hp) (fp : List Addr) (p : Addr), PG (cxComp X scope N' own cl C s H fp) target g ∧ PF (cxComp X scope N' own cl C s H fp) ifs tt ∧ PM (cxComp X scope N' own cl C s H fp) (emit (.ref p) (compEnvC scope cl C X.env)) (tm p))
    (hs : ∀ x, foldedSetIterable iter X.env x = pure x := by intro _; rfl) :
    PE X (.ListComp elt0 (⟨target, iter, ifs, 0⟩ :: rest) scope cpos) (zaeo wi g tt tm own fr) := by
  intro pins s σ H Q I h
  rw [eval_ListComp]
  refine wpAny_comprehension_free (use := none) rfl hs (zjl (zjz c I.ok)) c.kind (fun y hy e => (c.names y hy).trans (by rw [e])) ?_
  refine thn (hi pins s σ H _ I h) fun v s1 h1 => thn h1 fun itv s2 h2 => ?_
  obtain ⟨it, fp, tn, J, H2, e, I2, T, st2, f2, q⟩ := h2
  subst e
  refine znf (Q := Q) c hc eq T hb I2 st2 f2 q fun p C m H' s' I' hn hC q' => ?_
  exact ⟨m, hn, fun h' sb => ⟨.ref p, H', I'.turned (t' := s'.toks) (fun b o hb e => (sb.2 b hb).trans e) hC.1 hC.2.1 hC.2.2.2.1 hC.2.2.2.2.1 hC.2.2.2.2.2, rfl, q'⟩⟩
noncomputable def zaif (wi : TI) (g : TG) (tt : TT) (tm : Addr → TM) (own : List Str) (fr : List Nat) (i : Nat) : TS := fun D σ H => zaeo wi g tt tm own fr σ H fun v H' => D.nx (σ.set i (some v)) H'
theorem zaas {elt0 target iter : Expr} {ifs : List Expr} {rest : List Comprehension} {cpos spos py : Pos} {wi : TI} {g : TG} {tt : TT} {tm : Addr → TM} {emit : Value → Env → Sem Unit} {i : Nat} {y : Str} (c : CompOk X scope N' own fr) (hc : X.calm = true)
    (eq : ∀ it acc env, compTurn (.ListComp elt0 (⟨target, iter, ifs, 0⟩ :: rest) scope cpos) 0 it acc env = (do
      standAt iter.pos
      match ← pyNext it with
      | none => pure (.done .next)
      | some v =>
        letOwnedTupleGo target it v
        assign target env v
        let mut ok := true
        for c in ifs do
          if ok then ok ← isTrue c env (eval c env)
        if ok then emit acc env
        again (.compLoop (.ListComp elt0 (⟨target, iter, ifs, 0⟩ :: rest) scope cpos) 0 it acc env)))
    (hi : PI X target iter wi)
    (hb : ∀ (cl : List (Str × Addr)) (C : Addr) (s : Shared) (H : Hp) (fp : List Addr) (p : Addr), PG (cxComp X scope N' own cl C s H fp) target g ∧ PF (cxComp X scope N' own cl C s H fp) ifs tt ∧ PM (cxComp X scope N' own cl C s H fp) (emit (.ref p) (compEnvC scope cl C X.env)) (tm p))
    (hsw : swapsWith (.ListComp elt0 (⟨target, iter, ifs, 0⟩ :: rest) scope cpos) (some (.Name y py)) spos.line X.env = pure true)
    (hN : X.N.Nodup) (hy : X.N[i]? = some y) (hl : X.env.scope.names.lookup y = some .local)
    (hs : ∀ x, foldedSetIterable iter X.env x = pure x := by intro _; rfl) :
    PS X (.Assign [.Name y py] (.ListComp elt0 (⟨target, iter, ifs, 0⟩ :: rest) scope cpos) spos) (zaif wi g tt tm own fr i) := by
  intro pins s σ H D I h
  rw [exec_Assign_Name_used _ _ _ _ hsw]
  refine wpAny_bind (wpAny_standAt (wpAny_bind ?_))
  show wpAny _ X.A (do let _ ← comprehension (.ListComp elt0 (⟨target, iter, ifs, 0⟩ :: rest) scope cpos) scope X.env _ (newList []) false (eval iter X.env) (some (assign (.Name y py) X.env))) _ _ s
  refine wpAny_bind (thn (wpAny_comprehension_free (use := some (assign (.Name y py) X.env)) (Q := fun _ s' => SP X pins D .next s') rfl hs (zjl (zjz c I.ok)) c.kind (fun y hy e => (c.names y hy).trans (by rw [e])) ?_) fun _ s' q => wpAny_pure (wpAny_pure q))
  refine thn (hi pins s σ H _ I h) fun v s1 h1 => thn h1 fun itv s2 h2 => ?_
  obtain ⟨it, fp, tn, J, H2, e, I2, T, st2, f2, q⟩ := h2
  subst e
  refine znf (Q := fun v H' => D.nx (σ.set i (some v)) H') c hc eq T hb I2 st2 f2 q fun p C m H' s' I' hn hC q' => ?_
  show wpAny _ X.A (assign (.Name y py) X.env (.ref p)) _ _ _
  refine wpAny_assign_Name (zpo I' hN hy (.inl hl) (v := .ref p) rfl (fun s'' I'' ⟨a, sb, ha⟩ => ?_) (.inr hl))
  have hCa : C ≠ a := by
    rcases ha with rfl | ha
    · exact hC.2.1
    · exact Ne.symm (hC.2.2.2.2.1 y a ha)
  refine ⟨m, hn.sameBut sb hCa, fun h' sb' => ⟨σ.set i (some (.ref p)), H', I''.turned (t' := s''.toks) (fun b o hb e => (sb'.2 b hb).trans e) hC.1 hC.2.1 hC.2.2.2.1 hC.2.2.2.2.1 hC.2.2.2.2.2, q'⟩⟩
end
end L2
namespace L2
open PySem PySem.Spec PyProof.Rows
section
variable {X : Cx}
section
variable {scope : Scope} {N' own : List Str} {fr : List Nat} {elt target iter : Expr} {ifs : List Expr} {cpos : Pos} {wi : TI} {g : TG} {tt : TT} {te : TE}
noncomputable def tComp1 (wi : TI) (g : TG) (tt : TT) (te : TE) (own : List Str) (fr : List Nat) : TE := zaeo wi g tt (fun p => zaem p te) own fr
theorem zaat (c : CompOk X scope N' own fr) (hc : X.calm = true) (hi : PI X target iter wi)
    (hb : ∀ (cl : List (Str × Addr)) (C : Addr) (s : Shared) (H : Hp) (fp : List Addr), PG (cxComp X scope N' own cl C s H fp) target g ∧ PF (cxComp X scope N' own cl C s H fp) ifs tt ∧ PE (cxComp X scope N' own cl C s H fp) elt te)
    (hs : ∀ x, foldedSetIterable iter X.env x = pure x := by intro _; rfl) : PE X (.ListComp elt [⟨target, iter, ifs, 0⟩] scope cpos) (tComp1 wi g tt te own fr) :=
  zaar (emit := fun acc env => do let _ ← call (.builtin "list.append") [acc, ← eval elt env]) c hc (fun _ _ _ => rfl) hi
    (fun cl C s H fp p => ⟨(hb cl C s H fp).1, (hb cl C s H fp).2.1, zwt (hb cl C s H fp).2.2⟩) hs
noncomputable def tAsgC1 (wi : TI) (g : TG) (tt : TT) (te : TE) (own : List Str) (fr : List Nat) (i : Nat) : TS := zaif wi g tt (fun p => zaem p te) own fr i
theorem zaau {spos py : Pos} {i : Nat} {y : Str} (c : CompOk X scope N' own fr) (hc : X.calm = true) (hi : PI X target iter wi)
    (hb : ∀ (cl : List (Str × Addr)) (C : Addr) (s : Shared) (H : Hp) (fp : List Addr), PG (cxComp X scope N' own cl C s H fp) target g ∧ PF (cxComp X scope N' own cl C s H fp) ifs tt ∧ PE (cxComp X scope N' own cl C s H fp) elt te)
    (hsw : swapsWith (.ListComp elt [⟨target, iter, ifs, 0⟩] scope cpos) (some (.Name y py)) spos.line X.env = pure true)
    (hN : X.N.Nodup) (hy : X.N[i]? = some y) (hl : X.env.scope.names.lookup y = some .local)
    (hs : ∀ x, foldedSetIterable iter X.env x = pure x := by intro _; rfl) : PS X (.Assign [.Name y py] (.ListComp elt [⟨target, iter, ifs, 0⟩] scope cpos) spos) (tAsgC1 wi g tt te own fr i) :=
  zaas (emit := fun acc env => do let _ ← call (.builtin "list.append") [acc, ← eval elt env]) c hc (fun _ _ _ => rfl) hi
    (fun cl C s H fp p => ⟨(hb cl C s H fp).1, (hb cl C s H fp).2.1, zwt (hb cl C s H fp).2.2⟩) hsw hN hy hl hs
end
noncomputable def zaks : R2 := fun x y H Q => ∃ z n, x = .str z ∧ y = .int n ∧ z.length ≤ 1000 ∧ -1000 ≤ n ∧ n ≤ 1000 ∧ Q (.str (Txt.mul z n)) H
theorem zaep : OpR X (binaryOp .Mult) zaks := by
  intro pins s σ H x y v u Q I rx ry h
  obtain ⟨z, n, rfl, rfl, h1, h2, h3, q⟩ := h
  obtain ⟨t, rfl⟩ := rx
  obtain ⟨t', rfl⟩ := ry
  exact SB.mul (mulOk_of 1000 1000 h1 (by omega) (by omega) (by decide) (by decide)) fun t' k => ⟨.str (Txt.mul z n), H, I.tok _, ⟨_, rfl⟩, q⟩
noncomputable def rSlS : V → Option Int → Option Int → Hp → VK → Prop := fun x lo hi H Q => ∃ z, x = .str z ∧ z.length ≤ sizeLine ∧ Q (.str (Txt.slice z lo hi)) H
theorem zaig : SlR X rSlS := by
  intro pins s σ H x v vl vu lo hi sl Q I rx hs pl pu h
  obtain ⟨z, rfl, hz, q⟩ := h
  obtain ⟨t, rfl⟩ := rx
  refine ⟨"str", _, F.slot_str_getitem.lookup, typeIs_str _ _ _, ?_⟩
  have fin : ∀ t' k, EP X pins σ Q (.str (Txt.slice z lo hi) t') { s with toks := k } := fun t' k => ⟨.str (Txt.slice z lo hi), H, I.tok _, ⟨_, rfl⟩, q⟩
  have fz : (Txt.slice z lo hi).length ≤ sizeLine := Nat.le_trans (Txt.slice_le z _ _) hz
  cases pl with
  | none => cases pu with
    | none => exact wpAny_getItem_str_slice (l := none) (u := none) (st := none) hs rfl (post_val_or_str ⟨fz, fin⟩)
    | int j tj => exact wpAny_getItem_str_slice (l := none) (u := some (j, tj)) (st := none) hs rfl (post_val_or_str ⟨fz, fin⟩)
  | int i ti => cases pu with
    | none => exact wpAny_getItem_str_slice (l := some (i, ti)) (u := none) (st := none) hs rfl (post_val_or_str ⟨fz, fin⟩)
    | int j tj => exact wpAny_getItem_str_slice (l := some (i, ti)) (u := some (j, tj)) (st := none) hs rfl (post_val_or_str ⟨fz, fin⟩)
theorem zaav {id : String} (hid : id = "isinstance") : CallR X (.builtin id) (fun xs H Q => ∃ x n t b, xs = [x, .ty n] ∧ TyOf X.K H x t ∧ PySem.W.kitOne X.K t (.type n) = some b ∧ Q (.bl b) H) := by
  subst hid
  intro pins s σ H xs us Q I r h
  obtain ⟨x, n, t, b, rfl, ty, e, q⟩ := h
  obtain ⟨u, w', rfl, rx, ry⟩ := zsq r
  cases ry
  exact zwh I rx ty e fun tk => ⟨.bl b, H, I.tok _, rfl, q⟩
end
end L2
namespace L2
open PySem PySem.Spec PyProof.Rows
section
variable {X : Cx}
end
end L2
namespace L2
open PySem PySem.Spec PyProof.Rows
mutual
noncomputable def Rep (K : PySem.W.Frag) (H : Hp) : PyData → V → Prop
  | .none, v => v = .non
  | .bool b, v => v = .bl b
  | .int i, v => v = .int i
  | .str x, v => v = .str x
  | .list ds, v => ∃ a xs, v = .ref a ∧ SqL K H a xs ∧ Reps K H ds xs
  | .tuple ds, v => ∃ a xs, v = .ref a ∧ SqT K H a xs ∧ Reps K H ds xs
  | .dict _, _ => False
noncomputable def Reps (K : PySem.W.Frag) (H : Hp) : List PyData → List V → Prop
  | [], xs => xs = []
  | d :: ds, xs => ∃ v vs, xs = v :: vs ∧ Rep K H d v ∧ Reps K H ds vs
end
mutual
theorem zhl {X : Cx} {pins : List (Addr × Obj)} {σ : St} {H : Hp} {s : Shared} (I : Inv X pins σ H s) : ∀ (d : PyData) {v : V} {u : Value}, Rep X.K H d v → RelV v u → ∃ as, Reads s.heap u d as
  | .none, v, u, h, r => by unfold Rep at h; subst h; cases r; exact ⟨_, .none⟩
  | .bool b, v, u, h, r => by unfold Rep at h; subst h; cases r; exact ⟨_, .bool b⟩
  | .int i, v, u, h, r => by unfold Rep at h; subst h; obtain ⟨t, rfl⟩ := r; exact ⟨_, .int i t⟩
  | .str x, v, u, h, r => by unfold Rep at h; subst h; obtain ⟨t, rfl⟩ := r; exact ⟨_, .str x t⟩
  | .list ds, v, u, h, r => by
    unfold Rep at h
    obtain ⟨a, xs, rfl, hq, hr⟩ := h
    cases r
    obtain ⟨its, rv, p, hz⟩ := I.list hq
    obtain ⟨as, q⟩ := zka I ds hr rv
    obtain ⟨o, h1, h2, n, h3⟩ := p.isList
    exact ⟨_, reads_list_at h1 h2 h3 (by simpa using q)⟩
  | .tuple ds, v, u, h, r => by
    unfold Rep at h
    obtain ⟨a, xs, rfl, hq, hr⟩ := h
    cases r
    obtain ⟨its, rv, p, hz⟩ := I.tuple hq
    obtain ⟨as, q⟩ := zka I ds hr rv
    obtain ⟨o, h1, h2, n, h3⟩ := p
    exact ⟨_, reads_tuple_at h1 h2 h3 (by simpa using q)⟩
  | .dict _, _, _, h, _ => by unfold Rep at h; exact h.elim
theorem zka {X : Cx} {pins : List (Addr × Obj)} {σ : St} {H : Hp} {s : Shared} (I : Inv X pins σ H s) : ∀ (ds : List PyData) {vs : List V} {us : List Value}, Reps X.K H ds vs → Vals vs us → ∃ as, ReadsAll s.heap us ds as
  | [], vs, us, h, r => by unfold Reps at h; subst h; cases r; exact ⟨_, .nil⟩
  | d :: ds, vs, us, h, r => by
    unfold Reps at h
    obtain ⟨v, vs', rfl, h1, h2⟩ := h
    cases r with
    | cons r rr =>
      obtain ⟨as, q1⟩ := zhl I d h1 r
      obtain ⟨bs, q2⟩ := zka I ds h2 rr
      exact ⟨_, .cons q1 q2⟩
end
theorem SqT.same {K : PySem.W.Frag} {H H' : Hp} {a : Addr} {xs : List V} (h : Same H H') (q : SqT K H a xs) : SqT K H' a xs := by
  rcases q with (q | ⟨o, q⟩) | q
  · exact .inl (.inl (h _ _ q))
  · exact .inl (.inr ⟨o, h _ _ q⟩)
  · exact .inr q
section
variable {X : Cx}
noncomputable def rEqD (K : PySem.W.Frag) (neg : Bool) : R2 := fun x y H Q => ∃ d e, Rep K H d x ∧ Rep K H e y ∧ SeqAt.shaped d = true ∧ SeqAt.shaped e = true ∧ Q (.bl (if neg then !PyData.eqv d e else PyData.eqv d e)) H
theorem zaih (hu : X.A.units + 64 < cLine) : OpR X (compareOp .Eq) (rEqD X.K false) := by
  intro pins s σ H x y v u Q I rx ry h
  obtain ⟨d, e, hd, he, sd, se, q⟩ := h
  obtain ⟨as, r1⟩ := zhl I d hd rx
  obtain ⟨bs, r2⟩ := zhl I e he ry
  exact eq_dataH r1 r2 sd se hu ⟨.bl (PyData.eqv d e), H, I, rfl, q⟩
theorem zaii (hu : X.A.units + 64 < cLine) : OpR X (compareOp .NotEq) (rEqD X.K true) := by
  intro pins s σ H x y v u Q I rx ry h
  obtain ⟨d, e, hd, he, sd, se, q⟩ := h
  obtain ⟨as, r1⟩ := zhl I d hd rx
  obtain ⟨bs, r2⟩ := zhl I e he ry
  exact ne_dataH r1 r2 sd se hu ⟨.bl (!PyData.eqv d e), H, I, rfl, q⟩
theorem zaeq {bs : List Bool} : ∀ {its : List Value}, Vals (bs.map V.bl) its → its = bs.map Value.bool := by
  induction bs with
  | nil => intro its r; cases r; rfl
  | cons b bs ih =>
    intro its r
    cases r with
    | cons r rr => cases r; rw [ih rr]; rfl
theorem zwu (bs : List Bool) : (List.range bs.length).all (fun i => bs.getD i false) = bs.all id := by
  rw [Bool.eq_iff_iff, List.all_eq_true, List.all_eq_true]
  constructor
  · intro h b hb
    obtain ⟨i, hi, e⟩ := List.getElem_of_mem hb
    have q := h i (List.mem_range.mpr hi)
    rw [List.getD_eq_getElem?_getD, List.getElem?_eq_getElem hi, e] at q
    exact q
  · intro h i hi
    have hi := List.mem_range.mp hi
    have q := h _ (List.getElem_mem hi)
    rw [List.getD_eq_getElem?_getD, List.getElem?_eq_getElem hi]
    exact q
noncomputable def rAny (K : PySem.W.Frag) (f : List Bool → Bool) : List V → Hp → VK → Prop := fun xs H Q => ∃ p bs, xs = [.ref p] ∧ SqL K H p (bs.map V.bl) ∧ Q (.bl (f bs)) H
theorem zaaw (hc : X.calm = true) : CallR X (.builtin "all") (rAny X.K fun bs => bs.all id) := by
  intro pins s σ H xs us Q I r h
  obtain ⟨p, bs, rfl, hq, q⟩ := h
  obtain ⟨u, rfl, ru⟩ := zuz r
  cases ru
  obtain ⟨its, rv, pl, hz⟩ := I.list hq
  cases zaeq rv
  have hne : p ≠ s.heap.objs.size := by obtain ⟨o, e, _⟩ := pl.isList; exact Nat.ne_of_lt (Heap.lt_size e)
  refine call_all_walk (wpAny_pyIter_list pl.isList ⟨s.heap.objs.size, _, _, _, _, _, fun i => bs.getD i false, rfl, Walks.list (A := X.A.in1) (show X.A.in1.handled = none from I.ok.hd hc) _ p hne (bs.map Value.bool).toArray, ⟨⟨_, Heap.get?_push_size _ rfl, rfl, rfl⟩, ?_⟩, ?_, ?_⟩)
  · obtain ⟨o, e, z⟩ := pl.isList
    exact ⟨o, Heap.get?_push_of_some _ e, z⟩
  · intro i v s' Q' E' hv hQ
    have hv : (bs.map Value.bool)[i]? = some v := by simpa using hv
    rw [List.getElem?_map] at hv
    cases e : bs[i]? with
    | none => rw [e] at hv; cases hv
    | some b =>
      rw [e] at hv
      cases hv
      have z : bs.getD i false = b := by rw [List.getD_eq_getElem?_getD, e]; rfl
      have hQ : Q' (bs.getD i false) s' := hQ
      rw [z] at hQ
      exact wpAny_truthy_bool hQ
  · intro h' tk hk
    refine ⟨.bl (bs.all id), H, ?_, by rw [← zwu bs]; simp; rfl, q⟩
    exact I.kept (t' := tk) fun b o e => hk b o (by have := Heap.lt_size e; simp; exact Nat.ne_of_lt this) (Heap.get?_push_of_some _ e)
end
end L2
namespace L2
open PySem PySem.Spec PyProof.Rows
noncomputable def zwv (o : Option NameKind) : Bool := o == some .cell || o == some .free
noncomputable def zww (sc : Scope) (N : List Str) (scope : Scope) (N' own : List Str) (fr : List Nat) : Bool :=
  (scope.kind == .function) && (scope.names.all fun y => scope.names.lookup y.1 == some y.2) && (scope.names.all fun y => !(y.2 == .free) || zwv (sc.names.lookup y.1)) &&
  (N' == own ++ fr.map fun j => N.getD j Str.empty) && (fr.all fun j => decide (j < N.length) && (scope.names.lookup (N.getD j Str.empty) == some .free)) &&
  (own.all fun x => scope.names.lookup x == some .local || scope.names.lookup x == some .cell)
section
variable {X : Cx}
theorem zhm {scope : Scope} {N' own : List Str} {fr : List Nat} (h : zww X.env.scope X.N scope N' own fr = true) : CompOk X scope N' own fr := by
  unfold zww at h
  simp only [Bool.and_eq_true] at h
  obtain ⟨⟨⟨⟨⟨h1, h2⟩, h3⟩, h4⟩, h5⟩, h6⟩ := h
  refine ⟨eq_of_beq h1, fun y hy => eq_of_beq (List.all_eq_true.mp h2 y hy), fun y hy e => ?_, eq_of_beq h4, fun j hj => ?_, fun x hx => ?_⟩
  · have q := List.all_eq_true.mp h3 y hy
    rw [e] at q
    have q : zwv (X.env.scope.names.lookup y.1) = true := by simpa using q
    unfold zwv at q
    rcases Bool.or_eq_true_iff.mp q with z | z
    · exact .inl (eq_of_beq z)
    · exact .inr (eq_of_beq z)
  · have q := List.all_eq_true.mp h5 j hj
    rw [Bool.and_eq_true] at q
    exact ⟨of_decide_eq_true q.1, eq_of_beq q.2⟩
  · have q := List.all_eq_true.mp h6 x hx
    rcases Bool.or_eq_true_iff.mp q with z | z
    · exact .inl (eq_of_beq z)
    · exact .inr (eq_of_beq z)
noncomputable def zaer (K : PySem.W.Frag) : R2 := fun x y H Q => match x, y with
  | .int i, .int j => Q (.int (i + j)) H
  | .str a, .str b => a.length + b.length ≤ sizeLine ∧ Q (.str (a ++ b)) H
  | .ref _, .ref _ => rCat x y H Q ∨ zahw K x y H Q
  | _, _ => False
theorem zaes : OpR X (binaryOp .Add) (zaer X.K) := by
  intro pins s σ H x y v u Q I rx ry h
  cases x <;> cases y <;> first
    | exact h.elim
    | exact zahr pins s σ H _ _ v u Q I rx ry ⟨_, _, rfl, rfl, h⟩
    | exact zuy pins s σ H _ _ v u Q I rx ry ⟨_, _, rfl, rfl, h.1, h.2⟩
    | exact (zaic.or zaeh) pins s σ H _ _ v u Q I rx ry h
noncomputable def zaij : R2 := fun x y H Q => match x, y with
  | .int i, .int j => CMul i j ∧ Q (.int (i * j)) H
  | .str z, .int n => z.length ≤ 1000 ∧ -1000 ≤ n ∧ n ≤ 1000 ∧ Q (.str (Txt.mul z n)) H
  | _, _ => False
theorem zgs : OpR X (binaryOp .Mult) zaij := by
  intro pins s σ H x y v u Q I rx ry h
  cases x <;> cases y <;> first
    | exact h.elim
    | exact zahs pins s σ H _ _ v u Q I rx ry ⟨_, _, rfl, rfl, h.1, h.2⟩
    | exact zaep pins s σ H _ _ v u Q I rx ry ⟨_, _, rfl, rfl, h.1, h.2.1, h.2.2.1, h.2.2.2⟩
noncomputable def rIxU (K : PySem.W.Frag) : R2 := fun x y H Q => match x, y with
  | .str z, .int i => z.length ≤ sizeLine ∧ ∃ c, atI z.cps.toList i = some c ∧ Q (.str ⟨#[c]⟩) H
  | .ref p, .int i => ∃ xs v, (SqL K H p xs ∨ SqT K H p xs) ∧ atI xs i = some v ∧ Q v H
  | _, _ => False
theorem ix_U : IxR X (rIxU X.K) := by
  intro value slice pins s σ H x y v u Q I rx ry h hs
  cases x <;> cases y <;> first
    | exact h.elim
    | (obtain ⟨h1, c, h2, h3⟩ := h; exact zahz value slice pins s σ H _ _ v u Q I rx ry ⟨_, _, c, rfl, rfl, h1, h2, h3⟩ hs)
    | (obtain ⟨xs, w, h1, h2, h3⟩ := h
       rcases h1 with h1 | h1
       · exact zaei value slice pins s σ H _ _ v u Q I rx ry ⟨_, xs, _, w, rfl, rfl, h1, h2, h3⟩ hs
       · exact zahy value slice pins s σ H _ _ v u Q I rx ry ⟨_, xs, _, w, rfl, rfl, h1, h2, h3⟩ hs)
noncomputable def rSlU (K : PySem.W.Frag) : V → Option Int → Option Int → Hp → VK → Prop := fun x lo hi H Q => match x with
  | .str z => z.length ≤ sizeLine ∧ Q (.str (Txt.slice z lo hi)) H
  | .ref _ => rSlL K x lo hi H Q
  | _ => False
theorem sl_U : SlR X (rSlU X.K) := by
  intro pins s σ H x v vl vu lo hi sl Q I rx hs pl pu h
  cases x <;> first
    | exact h.elim
    | exact zaig pins s σ H _ v vl vu lo hi sl Q I rx hs pl pu ⟨_, rfl, h.1, h.2⟩
    | exact zaek pins s σ H _ v vl vu lo hi sl Q I rx hs pl pu h
noncomputable def Dn (P : Program) (w : World) (K : PySem.W.Frag) (mg : Str → Option Value) (base : Heap) (x : Str) (ps : List Str) (k : Nat) (sp : Sp) : Prop :=
  ∃ f fd, FnOk P w K mg base CX0 k f fd ps sp ∧ mg x = some (.ref f) ∧ PySem.W.keepIn K (.ref f) = true ∧ zla K fd ps []
theorem zakt {x : Str} {p pos : Pos} {e : Expr} {es : List Expr} {t : TA} {ps : List Str} {k : Nat} {sp : Sp} (D : Dn X.prog X.w X.K X.mg X.base x ps k sp) (hr : Room k X.A) (hg : Gl X x) (ha : PA X (e :: es) t)
    (hdb : (x == ("__debug__" : Str)) = false := by decide) (he : starEach (e :: es) X.env = (false, eval e X.env) :: starEach es X.env := by rfl) (hpl : (backTo pos (starEach es X.env)).any (·.1) = false := by rfl) :
    PE X (.Call (.Name x p) (e :: es) [] pos) (tCall sp [] E0 t) := by
  obtain ⟨f, fd, F, hm, hk, hb⟩ := D
  exact zaeg F hr hg hm hk hb .nil zakr ha hdb he hpl
end
end L2
namespace L2
open PySem PySem.Spec PyProof.Rows
theorem Same.upd {H H' : Hp} {p : Addr} {o : HO} (h : Same H H') (hp : H p = none) : Same H (upd H' p o) := fun b u e => by rw [zay (zbz e hp)]; exact h b u e
theorem Same.new {H : Hp} {p : Addr} {o : HO} (hp : H p = none) : Same H (L2.upd H p o) := (Same.refl H).upd hp
end L2
namespace Bc
open PySem L2
noncomputable abbrev Web := List (Str × List Str)
noncomputable def nm (W : Web) : List Str := W.map (·.1)
structure WebOk (W : Web) : Prop where
  nd : (nm W).Nodup
  el : ∀ i n es, W[i]? = some (n, es) → ∀ e ∈ es, e ∈ nm (W.take i)
  few : ∀ p ∈ W, p.2.length ≤ 4
  len : W.length ≤ 12
section
variable {κ : Type} [DecidableEq κ]
end
end Bc
namespace L2
open PySem PySem.Spec PyProof.Rows
section
variable {X : Cx} {K : PySem.W.Frag} (hK : X.K = K)
include hK
theorem zaet {es : List Expr} {k : Nat} {t : TGs} {n : Nat} {pos : Pos} (hc : X.calm = true) (h : PGs X es t)
    (hn : (assignEach es X.env).length = n := by rfl) (hst : (assignEach es X.env).findIdx? (·.1) = none := by rfl) : PG X (.Tuple es k pos) (gTup K n t) := by subst hK; exact zaho hc h hn hst
theorem zbv : IxR X (rIxU K) := by subst hK; exact ix_U
theorem zkb : SlR X (rSlU K) := by subst hK; exact sl_U
theorem zbg : OpR X (binaryOp .Add) (zaer K) := by subst hK; exact zaes
theorem zacu : OpR X (compareOp .In) (rIn K false) := by subst hK; exact zwp
theorem zqc : OpR X (compareOp .NotIn) (rIn K true) := by subst hK; exact zpy
theorem zbq : CallR X (.builtin "len") (fun xs H Q => ∃ x n, xs = [x] ∧ LenV K x H n ∧ Q (.int n) H) := by subst hK; exact zaaj
theorem zqd (hc : X.calm = true) : CallR X (.builtin "all") (rAny K fun bs => bs.all id) := by subst hK; exact zaaw hc
theorem zdf : CallR X (.builtin "isinstance") (fun xs H Q => ∃ x n t b, xs = [x, .ty n] ∧ TyOf K H x t ∧ PySem.W.kitOne K t (.type n) = some b ∧ Q (.bl b) H) := by subst hK; exact zaav rfl
theorem zgi : CallR X (.type "list") (fun xs H Q => ∃ p ys, xs = [.ref p] ∧ (SqL K H p ys ∨ SqT K H p ys) ∧ ∀ l, H l = none → Q (.ref l) (upd H l (.lst ys))) := by subst hK; exact zpz
theorem zaax {tg l : Expr} {tl : TE} (hl : PE X l tl) : PI X tg l (zahq K tl) := by subst hK; exact zaec hl
theorem zwx {T : String} {name : Str} {id : String} {r : V → List V → Hp → VK → Prop} {o e : Expr} {es : List Expr} {to : TE} {t : TA} {apos cpos : Pos} (pa : PlainAttrs T) (slot : Slot T name id) (hty : typeOf (.builtin id) = pure (.type "method_descriptor")) (hm : MtR X id r) (ho : PE X o to) (ha : PA X (e :: es) t)
    (hbase : attributeBase o name X.env (eval o X.env) = eval o X.env := by rfl)
    (hfew : ((backTo cpos (starEach (e :: es) X.env)).all (fun x => !x.1) && (backToKw cpos (keywordEach [] X.env)).all (fun x => x.1.isSome)
      && decide ((e :: es).length + ([] : List Keyword).length + (if ([] : List Keyword).isEmpty then 0 else 1) < 30)) = true := by rfl)
    (hline : (apos.endLine == cpos.line) = true := by rfl) (hs : starEach (e :: es) X.env = (false, eval e X.env) :: starEach es X.env := by rfl) (hplain : (backTo cpos (starEach es X.env)).any (·.1) = false := by rfl) :
    PE X (.Call (.Attribute o name apos) (e :: es) [] cpos) (tBM K T r to t) := by subst hK; exact zakp pa slot hty hm ho ha hbase hfew hline hs hplain
end
end L2
namespace L2
open PySem PySem.Spec PyProof.Rows
noncomputable def keyD : PyData → Option Key
  | .int i => some (Sum.inl i)
  | .str s => some (Sum.inr s)
  | _ => none
mutual
noncomputable def Rp (H : Hp) : PyData → V → Prop
  | .none, v => v = .non
  | .bool b, v => v = .bl b
  | .int i, v => v = .int i
  | .str x, v => v = .str x
  | .list ds, v => ∃ a xs, v = .ref a ∧ H a = some (.lst xs) ∧ Rps H ds xs
  | .tuple ds, v => ∃ a xs, v = .ref a ∧ H a = some (.tup xs) ∧ Rps H ds xs
  | .dict kvs, v => ∃ a ps, v = .ref a ∧ H a = some (.dK ps) ∧ Rpd H kvs ps
noncomputable def Rps (H : Hp) : List PyData → List V → Prop
  | [], xs => xs = []
  | d :: ds, xs => ∃ v vs, xs = v :: vs ∧ Rp H d v ∧ Rps H ds vs
noncomputable def Rpd (H : Hp) : List (PyData × PyData) → List (Key × V) → Prop
  | [], ps => ps = []
  | (k, d) :: r, ps => ∃ k' v vs, ps = (k', v) :: vs ∧ keyD k = some k' ∧ Rp H d v ∧ Rpd H r vs
end
mutual
theorem Rp.same {H H' : Hp} (h : Same H H') : ∀ (d : PyData) {v : V}, Rp H d v → Rp H' d v
  | .none, v, q => by unfold Rp at q ⊢; exact q
  | .bool b, v, q => by unfold Rp at q ⊢; exact q
  | .int i, v, q => by unfold Rp at q ⊢; exact q
  | .str x, v, q => by unfold Rp at q ⊢; exact q
  | .list ds, v, q => by
    unfold Rp at q ⊢
    obtain ⟨a, xs, e, hq, hr⟩ := q
    exact ⟨a, xs, e, h _ _ hq, Rps.same h ds hr⟩
  | .tuple ds, v, q => by
    unfold Rp at q ⊢
    obtain ⟨a, xs, e, hq, hr⟩ := q
    exact ⟨a, xs, e, h _ _ hq, Rps.same h ds hr⟩
  | .dict kvs, v, q => by
    unfold Rp at q ⊢
    obtain ⟨a, xs, e, hq, hr⟩ := q
    exact ⟨a, xs, e, h _ _ hq, Rpd.same h kvs hr⟩
theorem Rps.same {H H' : Hp} (h : Same H H') : ∀ (ds : List PyData) {vs : List V}, Rps H ds vs → Rps H' ds vs
  | [], vs, q => by unfold Rps at q ⊢; exact q
  | d :: ds, vs, q => by
    unfold Rps at q ⊢
    obtain ⟨v, vs', e, h1, h2⟩ := q
    exact ⟨v, vs', e, Rp.same h d h1, Rps.same h ds h2⟩
theorem Rpd.same {H H' : Hp} (h : Same H H') : ∀ (ds : List (PyData × PyData)) {vs : List (Key × V)}, Rpd H ds vs → Rpd H' ds vs
  | [], vs, q => by unfold Rpd at q ⊢; exact q
  | (k, d) :: ds, vs, q => by
    unfold Rpd at q ⊢
    obtain ⟨k', v, vs', e, h0, h1, h2⟩ := q
    exact ⟨k', v, vs', e, h0, Rp.same h d h1, Rpd.same h ds h2⟩
end
theorem zca {H : Hp} : ∀ {ds : List PyData} {xs : List V}, Rps H ds xs ↔ Paired (Rp H) ds xs
  | [], xs => by
    constructor
    · intro h; unfold Rps at h; subst h; exact .nil
    · intro h; cases h; unfold Rps; rfl
  | d :: ds, xs => by
    constructor
    · intro h
      unfold Rps at h
      obtain ⟨v, vs, rfl, h1, h2⟩ := h
      exact .cons h1 (zca.mp h2)
    · intro h
      cases h with
      | cons h1 h2 => unfold Rps; exact ⟨_, _, rfl, h1, zca.mpr h2⟩
theorem Rps.length {H : Hp} {ds : List PyData} {xs : List V} (h : Rps H ds xs) : ds.length = xs.length := (zca.mp h).length
theorem zcy {H : Hp} {ds : List PyData} {v : V} (h : Rp H (.list ds) v) : ∃ a xs, v = .ref a ∧ H a = some (.lst xs) ∧ Rps H ds xs := by unfold Rp at h; exact h
theorem zdb {H : Hp} {ds : List PyData} {v : V} (h : Rp H (.tuple ds) v) : ∃ a xs, v = .ref a ∧ H a = some (.tup xs) ∧ Rps H ds xs := by unfold Rp at h; exact h
theorem zoi {H : Hp} {ds : List (PyData × PyData)} {v : V} (h : Rp H (.dict ds) v) : ∃ a xs, v = .ref a ∧ H a = some (.dK xs) ∧ Rpd H ds xs := by unfold Rp at h; exact h
theorem zct {H : Hp} {i : Int} {v : V} (h : Rp H (.int i) v) : v = .int i := by unfold Rp at h; exact h
theorem zdv {H : Hp} {i : Str} {v : V} (h : Rp H (.str i) v) : v = .str i := by unfold Rp at h; exact h
theorem zhn {H : Hp} {i : Bool} {v : V} (h : Rp H (.bool i) v) : v = .bl i := by unfold Rp at h; exact h
theorem zlp {H : Hp} {v : V} (h : Rp H .none v) : v = .non := by unfold Rp at h; exact h
theorem zab {H : Hp} {i : Int} : Rp H (.int i) (.int i) := by unfold Rp; rfl
theorem zbf {H : Hp} {i : Str} : Rp H (.str i) (.str i) := by unfold Rp; rfl
theorem zam {H : Hp} {i : Bool} : Rp H (.bool i) (.bl i) := by unfold Rp; rfl
theorem zem {H : Hp} : Rp H .none .non := by unfold Rp; rfl
theorem zii {H : Hp} {ds : List PyData} {a : Addr} {xs : List V} (h : H a = some (.lst xs)) (r : Rps H ds xs) : Rp H (.list ds) (.ref a) := by unfold Rp; exact ⟨a, xs, rfl, h, r⟩
theorem zsv {H : Hp} {ds : List PyData} {a : Addr} {xs : List V} (h : H a = some (.tup xs)) (r : Rps H ds xs) : Rp H (.tuple ds) (.ref a) := by unfold Rp; exact ⟨a, xs, rfl, h, r⟩
theorem zng {H : Hp} {ds : List (PyData × PyData)} {a : Addr} {xs : List (Key × V)} (h : H a = some (.dK xs)) (r : Rpd H ds xs) : Rp H (.dict ds) (.ref a) := by unfold Rp; exact ⟨a, xs, rfl, h, r⟩
theorem zdo {H : Hp} : Rps H [] [] := by unfold Rps; rfl
theorem zwy {H : Hp} : Rpd H [] [] := by unfold Rpd; rfl
theorem zcr {H : Hp} {d : PyData} {ds : List PyData} {v : V} {vs : List V} (h : Rp H d v) (r : Rps H ds vs) : Rps H (d :: ds) (v :: vs) := by
  show Rps H (d :: ds) _
  unfold Rps; exact ⟨v, vs, rfl, h, r⟩
theorem Rps.append {H : Hp} {ds es : List PyData} {vs ws : List V} (h : Rps H ds vs) (r : Rps H es ws) : Rps H (ds ++ es) (vs ++ ws) := by
  replace h := zca.mp h
  refine zca.mpr ?_
  induction h with
  | nil => exact zca.mp r
  | cons h _ ih => exact .cons h ih
theorem Rps.get {H : Hp} {ds : List PyData} {vs : List V} (h : Rps H ds vs) {i : Nat} {v : V} (e : vs[i]? = some v) : ∃ d, ds[i]? = some d ∧ Rp H d v := by
  replace h := zca.mp h
  induction h generalizing i with
  | nil => simp at e
  | cons h _ ih =>
    cases i with
    | zero => simp at e; subst e; exact ⟨_, rfl, h⟩
    | succ i => simpa using ih (by simpa using e)
theorem Rps.get2 {H : Hp} {ds : List PyData} {vs : List V} (h : Rps H ds vs) {i : Nat} {d : PyData} (e : ds[i]? = some d) : ∃ v, vs[i]? = some v ∧ Rp H d v := by
  replace h := zca.mp h
  induction h generalizing i with
  | nil => simp at e
  | cons h _ ih =>
    cases i with
    | zero => simp at e; subst e; exact ⟨_, rfl, h⟩
    | succ i => simpa using ih (by simpa using e)
open Classical in
noncomputable def Offs (A : Addr → Prop) (H : Hp) : Hp := fun b => if A b then none else H b
theorem Offs.get {A : Addr → Prop} {H : Hp} {b : Addr} (h : ¬ A b) : Offs A H b = H b := if_neg h
theorem Offs.out {A : Addr → Prop} {H : Hp} {b : Addr} (h : A b) : Offs A H b = none := if_pos h
theorem Offs.of {A : Addr → Prop} {H : Hp} {b : Addr} {o : HO} (h : Offs A H b = some o) : ¬ A b ∧ H b = some o := by
  by_cases hb : A b
  · rw [Offs.out hb] at h; cases h
  · rw [Offs.get hb] at h; exact ⟨hb, h⟩
theorem Offs.mono {A B : Addr → Prop} {H H' : Hp} (s : Same H H') (h : ∀ b o, H b = some o → ¬ A b → ¬ B b) : Same (Offs A H) (Offs B H') := fun b o e => by
  obtain ⟨h1, h2⟩ := Offs.of e
  rw [Offs.get (h b o h2 h1)]
  exact s b o h2
theorem Offs.same (A : Addr → Prop) (H : Hp) : Same (Offs A H) H := fun b o e => (Offs.of e).2
theorem Offs.sub {A B : Addr → Prop} {H : Hp} (h : ∀ b, B b → A b) : Same (Offs A H) (Offs B H) := Offs.mono (Same.refl _) fun b _ _ n z => n (h b z)
theorem Offs.grow {A : Addr → Prop} {H H' : Hp} (s : Same H H') : Same (Offs A H) (Offs A H') := Offs.mono s fun _ _ _ z => z
theorem Offs.upd {A : Addr → Prop} {H : Hp} {a : Addr} {o : HO} (h : A a) : Offs A (upd H a o) = Offs A H := by
  funext b
  by_cases hb : A b
  · rw [Offs.out hb, Offs.out hb]
  · rw [Offs.get hb, Offs.get hb, zay (fun e => hb (by rw [e]; exact h))]
inductive Sl where
  | no
    | pl (d : PyData)
    | ac (d : PyData)
noncomputable abbrev DEnv := List Sl
noncomputable def own (env : DEnv) (σ : St) (a : Addr) : Prop := ∃ (i : Nat) (d : PyData), env[i]? = some (.ac d) ∧ σ[i]? = some (some (.ref a))
noncomputable def zgt (Ho H : Hp) (a : Addr) : PyData → Prop
  | .list ds => ∃ xs, H a = some (.lst xs) ∧ Rps Ho ds xs
  | .dict kvs => ∃ ps, H a = some (.dK ps) ∧ Rpd Ho kvs ps
  | _ => False
theorem zgt.rp {Ho H H' : Hp} {a : Addr} {d : PyData} (h : zgt Ho H a d) (s : Same Ho H') (e : ∀ o, H a = some o → H' a = some o) : Rp H' d (.ref a) := by
  cases d with
  | list ds =>
    obtain ⟨xs, h1, h2⟩ := h
    exact zii (e _ h1) (Rps.same s _ h2)
  | dict ds =>
    obtain ⟨xs, h1, h2⟩ := h
    exact zng (e _ h1) (Rpd.same s _ h2)
  | _ => exact h.elim
theorem zgt.same {Ho H Ho' H' : Hp} {a : Addr} {d : PyData} (h : zgt Ho H a d) (s : Same Ho Ho') (e : ∀ o, H a = some o → H' a = some o) : zgt Ho' H' a d := by
  cases d with
  | list ds =>
    obtain ⟨xs, h1, h2⟩ := h
    exact ⟨xs, e _ h1, Rps.same s _ h2⟩
  | dict ds =>
    obtain ⟨xs, h1, h2⟩ := h
    exact ⟨xs, e _ h1, Rpd.same s _ h2⟩
  | _ => exact h.elim
theorem zgt.ex {Ho H : Hp} {a : Addr} {d : PyData} (h : zgt Ho H a d) : ∃ o, H a = some o := by
  cases d with
  | list ds => obtain ⟨xs, h1, h2⟩ := h; exact ⟨_, h1⟩
  | dict ds => obtain ⟨xs, h1, h2⟩ := h; exact ⟨_, h1⟩
  | _ => exact h.elim
structure EnvOk (fx : Addr → Prop) (H0 : Hp) (env : DEnv) (σ : St) (H : Hp) : Prop where
  len : env.length = σ.length
  pl : ∀ (i : Nat) (d : PyData), env[i]? = some (.pl d) → ∃ v, σ[i]? = some (some v) ∧ Rp (Offs (fun a => fx a ∨ own env σ a) H) d v
  ac : ∀ (i : Nat) (d : PyData), env[i]? = some (.ac d) → ∃ a, σ[i]? = some (some (.ref a)) ∧ H0 a = none ∧ ¬ fx a ∧ zgt (Offs (fun a => fx a ∨ own env σ a) H) H a d
  inj : ∀ (i j : Nat) (d e : PyData) (a : Addr), env[i]? = some (.ac d) → env[j]? = some (.ac e) → σ[i]? = some (some (.ref a)) → σ[j]? = some (some (.ref a)) → i = j
  base : Same H0 H
  fxs : ∀ b, fx b → ∃ o, H b = some o
theorem EnvOk.grow {fx fx' : Addr → Prop} {H0 : Hp} {env : DEnv} {σ : St} {H H' : Hp} (h : EnvOk fx H0 env σ H) (s : Same H H') (f : ∀ b o, H b = some o → ¬ fx b → ¬ fx' b) (g : ∀ b, fx' b → ∃ o, H' b = some o) : EnvOk fx' H0 env σ H' := by
  have so : Same (Offs (fun a => fx a ∨ own env σ a) H) (Offs (fun a => fx' a ∨ own env σ a) H') := Offs.mono s fun b o e n => fun z => z.elim (f b o e fun y => n (.inl y)) fun y => n (.inr y)
  refine ⟨h.len, fun i d e => ?_, fun i d e => ?_, h.inj, h.base.trans s, g⟩
  · obtain ⟨v, h1, h2⟩ := h.pl i d e
    exact ⟨v, h1, Rp.same so d h2⟩
  · obtain ⟨a, h1, h2, h3, h4⟩ := h.ac i d e
    obtain ⟨o, ho⟩ := h4.ex
    exact ⟨a, h1, h2, f a o ho h3, h4.same so fun o => s a o⟩
theorem EnvOk.up {fx : Addr → Prop} {H0 : Hp} {env : DEnv} {σ : St} {H H' : Hp} (h : EnvOk fx H0 env σ H) (s : Same H H') : EnvOk fx H0 env σ H' :=
  h.grow s (fun _ _ _ z => z) fun b z => let ⟨o, e⟩ := h.fxs b z; ⟨o, s b o e⟩
structure Val where
  d : PyData
  fr : Bool
  bs : List Nat
noncomputable def lim (fx : Addr → Prop) (env : DEnv) (σ : St) (bs : List Nat) (a : Addr) : Prop := fx a ∨ ∃ (i : Nat) (d : PyData), i ∉ bs ∧ env[i]? = some (.ac d) ∧ σ[i]? = some (some (.ref a))
structure ValOk (A : Addr → Prop) (H H' : Hp) (r : Val) (v : V) : Prop where
  rp : Rp (Offs A H') r.d v
  fr : r.fr = true → ∃ a, v = .ref a ∧ H a = none ∧ zgt (Offs (fun b => A b ∨ b = a) H') H' a r.d
theorem zje {fx : Addr → Prop} {env : DEnv} {σ : St} {bs cs : List Nat} (h : ∀ i ∈ bs, i ∈ cs) : ∀ a, lim fx env σ cs a → lim fx env σ bs a := by
  rintro a (z | ⟨i, d, h1, h2, h3⟩)
  · exact .inl z
  · exact .inr ⟨i, d, fun q => h1 (h i q), h2, h3⟩
theorem zoj {fx : Addr → Prop} {env : DEnv} {σ : St} {bs : List Nat} : ∀ a, lim fx env σ bs a → fx a ∨ own env σ a := by
  rintro a (z | ⟨i, d, h1, h2, h3⟩)
  · exact .inl z
  · exact .inr ⟨i, d, h2, h3⟩
theorem zaeu {fx : Addr → Prop} {env : DEnv} {σ : St} : ∀ a, fx a ∨ own env σ a → lim fx env σ [] a := by
  rintro a (z | ⟨i, d, h2, h3⟩)
  · exact .inl z
  · exact .inr ⟨i, d, by simp, h2, h3⟩
theorem EnvOk.lims {fx : Addr → Prop} {H0 : Hp} {env : DEnv} {σ : St} {H : Hp} (h : EnvOk fx H0 env σ H) (bs : List Nat) : ∀ b, lim fx env σ bs b → ∃ o, H b = some o := by
  rintro b (z | ⟨i, d, h1, h2, h3⟩)
  · exact h.fxs b z
  · obtain ⟨a, g1, g2, g3, g4⟩ := h.ac i d h2
    rw [h3] at g1
    cases g1
    exact g4.ex
theorem ValOk.later {A B : Addr → Prop} {H0 H H' H'' : Hp} {r : Val} {v : V} (h : ValOk A H H' r v) (s0 : Same H0 H) (s : Same H' H'') (hB : ∀ b, B b → A b) : ValOk B H0 H'' r v := by
  refine ⟨Rp.same (Offs.mono s fun b _ _ n z => n (hB b z)) _ h.rp, fun e => ?_⟩
  obtain ⟨a, h1, h2, h3⟩ := h.fr e
  exact ⟨a, h1, s0.free h2, h3.same (Offs.mono s fun b _ _ n z => n (z.elim (fun y => .inl (hB b y)) .inr)) fun o => s a o⟩
noncomputable def zen : PyData → Bool
  | .list _ => false
  | .tuple _ => false
  | .dict _ => false
  | _ => true
theorem zkc {H H' : Hp} {d : PyData} {v : V} (f : zen d = true) (h : Rp H d v) : Rp H' d v := by
  cases d <;> first
    | (unfold Rp at h ⊢; exact h)
    | cases f
noncomputable def bsOf (d : PyData) (bs : List Nat) : List Nat := if zen d = true then [] else bs
theorem zsw {fx : Addr → Prop} {env : DEnv} {σ : St} {bs : List Nat} {H : Hp} {d : PyData} {v : V} (h : Rp (Offs (lim fx env σ bs) H) d v) : Rp (Offs (lim fx env σ (bsOf d bs)) H) d v := by
  unfold bsOf
  split
  · rename_i e; exact zkc e h
  · exact h
noncomputable abbrev EF := DEnv → Option Val
noncomputable def SE (te : TE) (f : EF) : Prop := ∀ (fx : Addr → Prop) (H0 : Hp) (env : DEnv) (σ : St) (H : Hp), EnvOk fx H0 env σ H → ∀ r, f env = some r → ∀ Q : VK, (∀ v H', Same H H' → ValOk (lim fx env σ r.bs) H H' r v → Q v H') → te σ H Q
noncomputable abbrev TF := DEnv → Option Bool
noncomputable def ST (tt : TT) (f : TF) : Prop := ∀ (fx : Addr → Prop) (H0 : Hp) (env : DEnv) (σ : St) (H : Hp), EnvOk fx H0 env σ H → ∀ b, f env = some b → ∀ Q : Bool → Hp → Prop, (∀ H', Same H H' → Q b H') → tt σ H Q
noncomputable abbrev AF := DEnv → Option (List Val)
noncomputable def SA (ta : TA) (f : AF) : Prop := ∀ (fx : Addr → Prop) (H0 : Hp) (env : DEnv) (σ : St) (H : Hp), EnvOk fx H0 env σ H → ∀ rs, f env = some rs → ∀ Q : List V → Hp → Prop,
  (∀ vs H', Same H H' → Paired (fun r v => ValOk (lim fx env σ r.bs) H H' r v) rs vs → Q vs H') → ta σ H Q
section
variable {X : Cx}
noncomputable def eVar (i : Nat) : EF := fun env => match env[i]? with
  | some (.pl d) => some ⟨d, false, []⟩
  | some (.ac d) => some ⟨d, false, [i]⟩
  | _ => none
theorem zad (i : Nat) : SE (tVar i) (eVar i) := by
  intro fx H0 env σ H h r hr Q q
  unfold eVar at hr
  cases e : env[i]? with
  | none => rw [e] at hr; cases hr
  | some sl =>
    rw [e] at hr
    cases sl with
    | no => cases hr
    | pl d =>
      cases hr
      obtain ⟨v, h1, h2⟩ := h.pl i d e
      exact ⟨v, h1, q v H (Same.refl _) ⟨Rp.same (Offs.sub zoj) _ h2, fun z => by cases z⟩⟩
    | ac d =>
      cases hr
      obtain ⟨a, h1, h2, h3, h4⟩ := h.ac i d e
      have hna : ¬ lim fx env σ [i] a := by
        rintro (z | ⟨j, d', g1, g2, g3⟩)
        · exact h3 z
        · exact g1 (List.mem_singleton.mpr (h.inj j i d' d a g2 e g3 h1))
      exact ⟨_, h1, q _ H (Same.refl _) ⟨h4.rp (Offs.sub zoj) fun o z => by rw [Offs.get hna]; exact z, fun z => by cases z⟩⟩
noncomputable def eC (d : PyData) : EF := fun _ => some ⟨d, false, []⟩
theorem se_c {d : PyData} {v : V} (h : ∀ H, Rp H d v) : SE (tC v) (eC d) := by
  intro fx H0 env σ H _ r hr Q q
  cases hr
  exact q v H (Same.refl _) ⟨h _, fun z => by cases z⟩
noncomputable abbrev OF := PyData → PyData → Option (PyData × Bool)
noncomputable def SO (r : R2) (f : OF) : Prop := ∀ (A : Addr → Prop) (H : Hp) (x y : V) (dx dy : PyData), (∀ b, A b → ∃ o, H b = some o) → Rp (Offs A H) dx x → Rp (Offs A H) dy y → ∀ d fr, f dx dy = some (d, fr) → ∀ Q : VK,
  (∀ v H', Same H H' → Rp (Offs A H') d v → (fr = true → ∃ a, v = .ref a ∧ H a = none ∧ zgt (Offs (fun b => A b ∨ b = a) H') H' a d) → Q v H') → r x y H Q
noncomputable def eOp (f : OF) (a b : EF) : EF := fun env => (a env).bind fun x => (b env).bind fun y => (f x.d y.d).bind fun z => some ⟨z.1, z.2, bsOf z.1 (x.bs ++ y.bs)⟩
theorem zap {r : R2} {f : OF} {ta tb : TE} {fa fb : EF} (ho : SO r f) (ha : SE ta fa) (hb : SE tb fb) : SE (tOp r ta tb) (eOp f fa fb) := by
  intro fx H0 env σ H h rr hr Q q
  unfold eOp at hr
  obtain ⟨x, ex, hr⟩ := Option.bind_eq_some_iff.mp hr
  obtain ⟨y, ey, hr⟩ := Option.bind_eq_some_iff.mp hr
  obtain ⟨⟨d, fr⟩, ez, hr⟩ := Option.bind_eq_some_iff.mp hr
  cases hr
  refine ha fx H0 env σ H h x ex _ fun v H1 s1 v1 => hb fx H0 env σ H1 (h.up s1) y ey _ fun u H2 s2 v2 => ?_
  have l1 : ∀ b, lim fx env σ (x.bs ++ y.bs) b → lim fx env σ x.bs b := zje fun i hi => List.mem_append_left _ hi
  have l2 : ∀ b, lim fx env σ (x.bs ++ y.bs) b → lim fx env σ y.bs b := zje fun i hi => List.mem_append_right _ hi
  refine ho (lim fx env σ (x.bs ++ y.bs)) H2 v u x.d y.d ((h.up (s1.trans s2)).lims _) (v1.later (Same.refl _) s2 l1).rp (v2.later (Same.refl _) (Same.refl _) l2).rp d fr ez _ fun w H3 s3 rp fr3 => q w H3 ((s1.trans s2).trans s3) ⟨zsw rp, fun e => ?_⟩
  obtain ⟨a, g1, g2, g3⟩ := fr3 e
  refine ⟨a, g1, (s1.trans s2).free g2, ?_⟩
  have nf : zen d = false := by cases d <;> first | rfl | exact g3.elim
  show zgt (Offs (fun b => lim fx env σ (bsOf d (x.bs ++ y.bs)) b ∨ b = a) H3) H3 a d
  rw [show bsOf d (x.bs ++ y.bs) = x.bs ++ y.bs by unfold bsOf; rw [if_neg (by rw [nf]; decide)]]
  exact g3
end
end L2
namespace L2
open PySem PySem.Spec PyProof.Rows
theorem zfq {n : Nat} (h : n ≤ 100000) : n ≤ sizeLine := Nat.le_trans h (by decide)
theorem zok {n : Nat} (h : n < 100000) : n < sizeLine := Nat.lt_trans h (by decide)
theorem zfe {A : Addr → Prop} {H : Hp} (hA : ∀ b, A b → ∃ o, H b = some o) {p : Addr} (hp : H p = none) : ¬ A p := fun z => by
  obtain ⟨o, e⟩ := hA p z
  rw [hp] at e; cases e
theorem zol {A : Addr → Prop} {H : Hp} {p : Addr} {ds : List PyData} {xs : List V} (hp : H p = none) (r : Rps (Offs A H) ds xs) : zgt (Offs (fun b => A b ∨ b = p) (upd H p (.lst xs))) (upd H p (.lst xs)) p (.list ds) := by
  refine ⟨xs, zau, Rps.same (Offs.mono (Same.new hp) fun b o e n z => ?_) _ r⟩
  rcases z with z | z
  · exact n z
  · rw [z, hp] at e; cases e
theorem ztx {A : Addr → Prop} {H : Hp} {p : Addr} {ds : List PyData} {xs : List V} (hp : H p = none) (hA : ¬ A p) (r : Rps (Offs A H) ds xs) : Rp (Offs A (upd H p (.lst xs))) (.list ds) (.ref p) :=
  zii (by rw [Offs.get hA]; exact zau) (Rps.same (Offs.grow (Same.new hp)) _ r)
theorem zkd {A : Addr → Prop} {H : Hp} {p : Addr} {ds : List PyData} {xs : List V} (hp : H p = none) (hA : ¬ A p) (r : Rps (Offs A H) ds xs) : Rp (Offs A (upd H p (.tup xs))) (.tuple ds) (.ref p) :=
  zsv (by rw [Offs.get hA]; exact zau) (Rps.same (Offs.grow (Same.new hp)) _ r)
theorem zdw {A : Addr → Prop} {H : Hp} {a : Addr} {o : HO} (h : Offs A H a = some o) : H a = some o := (Offs.of h).2
noncomputable def addD : OF
  | .int i, .int j => some (.int (i + j), false)
  | .str a, .str b => if a.length + b.length ≤ 100000 then some (.str (a ++ b), false) else none
  | .list a, .list b => if a.length + b.length ≤ 100000 then some (.list (a ++ b), true) else none
  | .tuple a, .tuple b => if a.isEmpty = false ∧ a.length + b.length ≤ 100000 then some (.tuple (a ++ b), false) else none
  | _, _ => none
theorem zds {K : PySem.W.Frag} : SO (zaer K) addD := by
  intro A H x y dx dy hA rx ry d fr e Q q
  unfold addD at e
  split at e
  · cases e
    cases zct rx; cases zct ry
    exact q _ H (Same.refl _) zab (fun z => by cases z)
  · split at e
    · rename_i hl
      cases e
      cases zdv rx; cases zdv ry
      exact ⟨zfq hl, q _ H (Same.refl _) zbf (fun z => by cases z)⟩
    · cases e
  · split at e
    · rename_i hl
      cases e
      obtain ⟨p, xs, rfl, hp, r1⟩ := zcy rx
      obtain ⟨p', ys, rfl, hp', r2⟩ := zcy ry
      refine .inl ⟨p, p', xs, ys, rfl, rfl, zdw hp, zdw hp', zfq (by rw [← r1.length, ← r2.length]; exact hl), fun b hb => ?_⟩
      exact q _ _ (Same.new hb) (ztx hb (zfe hA hb) (r1.append r2)) fun _ => ⟨b, rfl, hb, zol hb (r1.append r2)⟩
    · cases e
  · split at e
    · rename_i hl
      cases e
      obtain ⟨p, xs, rfl, hp, r1⟩ := zdb rx
      obtain ⟨p', ys, rfl, hp', r2⟩ := zdb ry
      refine .inr ⟨p, p', xs, ys, rfl, rfl, SqT.of (zdw hp), SqT.of (zdw hp'), fun z => ?_, zfq (by rw [← r1.length, ← r2.length]; exact hl.2), fun z => ?_, fun _ b hb => ?_⟩
      · have h1 := r1.length
        have h0 := hl.1
        rw [z] at h1
        rw [List.isEmpty_eq_false_iff] at h0
        exact h0 (List.length_eq_zero_iff.mp h1)
      · have h2 := r2.length
        rw [z] at h2
        have := List.length_eq_zero_iff.mp h2
        subst this
        rw [List.append_nil] at q
        exact q _ H (Same.refl _) rx (fun z => by cases z)
      · exact q _ _ (Same.new hb) (zkd hb (zfe hA hb) (r1.append r2)) (fun z => by cases z)
    · cases e
  · cases e
noncomputable def intD (c : Int → Int → Bool) (f : Int → Int → PyData) : OF
  | .int i, .int j => if c i j = true then some (f i j, false) else none
  | _, _ => none
theorem zacv {C : Int → Int → Prop} {g : Int → Int → V} {c : Int → Int → Bool} {f : Int → Int → PyData} (hc : ∀ i j, c i j = true → C i j) (hf : ∀ H i j, Rp H (f i j) (g i j)) : SO (rI C g) (intD c f) := by
  intro A H x y dx dy hA rx ry d fr e Q q
  unfold intD at e
  split at e
  · split at e
    · rename_i h
      cases e
      cases zct rx; cases zct ry
      exact ⟨_, _, rfl, rfl, hc _ _ h, q _ H (Same.refl _) (hf _ _ _) (fun z => by cases z)⟩
    · cases e
  · cases e
theorem zom {g : Int → Int → V} {f : Int → Int → PyData} (hf : ∀ H i j, Rp H (f i j) (g i j)) : SO (rI0 g) (intD (fun _ _ => true) f) := by
  intro A H x y dx dy hA rx ry d fr e Q q
  unfold intD at e
  split at e
  · split at e
    · cases e
      cases zct rx; cases zct ry
      exact ⟨_, _, rfl, rfl, q _ H (Same.refl _) (hf _ _ _) (fun z => by cases z)⟩
    · cases e
  · cases e
noncomputable def ltD : OF := intD (fun _ _ => true) fun i j => .bool (decide (i < j))
theorem zaev : SO (rI0 fun i j => .bl (decide (i < j))) ltD := zom fun _ _ _ => zam
noncomputable def leD : OF := intD (fun _ _ => true) fun i j => .bool (decide (i ≤ j))
theorem zaay : SO (rI0 fun i j => .bl (decide (i ≤ j))) leD := zom fun _ _ _ => zam
noncomputable def gtD : OF := intD (fun _ _ => true) fun i j => .bool (decide (j < i))
theorem zwz : SO (rI0 fun i j => .bl (decide (j < i))) gtD := zom fun _ _ _ => zam
noncomputable def geD : OF := intD (fun _ _ => true) fun i j => .bool (decide (j ≤ i))
theorem zaku : SO (rI0 fun i j => .bl (decide (j ≤ i))) geD := zom fun _ _ _ => zam
noncomputable def modD : OF := intD (fun _ j => decide (0 < j)) fun i j => .int (i % j)
theorem zby : SO (rI (fun _ j => 0 < j) fun i j => .int (i % j)) modD := zacv (fun _ _ h => of_decide_eq_true h) fun _ _ _ => zab
noncomputable def zci : OF := intD (fun _ j => decide (0 < j ∧ j < 1073741824)) fun i j => .int (i / j)
theorem zdg : SO (rI CDiv fun i j => .int (i / j)) zci := zacv (fun i j h => (of_decide_eq_true h : 0 < j ∧ j < 1073741824)) fun _ _ _ => zab
noncomputable def mulD : OF
  | .int i, .int j => if (-(2 ^ 64) < i ∧ i < 2 ^ 64) ∨ (-(2 ^ 64) < j ∧ j < 2 ^ 64) then some (.int (i * j), false) else none
  | .str z, .int n => if z.length ≤ 1000 ∧ -1000 ≤ n ∧ n ≤ 1000 then some (.str (Txt.mul z n), false) else none
  | _, _ => none
theorem zqe : SO zaij mulD := by
  intro A H x y dx dy hA rx ry d fr e Q q
  unfold mulD at e
  split at e
  · split at e
    · rename_i h
      cases e
      cases zct rx; cases zct ry
      exact ⟨h, q _ H (Same.refl _) zab (fun z => by cases z)⟩
    · cases e
  · split at e
    · rename_i h
      cases e
      cases zdv rx; cases zct ry
      exact ⟨h.1, h.2.1, h.2.2, q _ H (Same.refl _) zbf (fun z => by cases z)⟩
    · cases e
  · cases e
mutual
theorem zqf {K : PySem.W.Frag} {H : Hp} : ∀ {d : PyData} {v : V}, d.canLay0 = true → Rp H d v → Rep K H d v
  | .none, v, _, h => by unfold Rp at h; unfold Rep; exact h
  | .bool b, v, _, h => by unfold Rp at h; unfold Rep; exact h
  | .int i, v, _, h => by unfold Rp at h; unfold Rep; exact h
  | .str x, v, _, h => by unfold Rp at h; unfold Rep; exact h
  | .list ds, v, c, h => by
    obtain ⟨a, xs, e, h1, h2⟩ := zcy h
    unfold Rep
    exact ⟨a, xs, e, SqL.of h1, zon (by simpa [PyData.canLay0] using c) h2⟩
  | .tuple ds, v, c, h => by
    obtain ⟨a, xs, e, h1, h2⟩ := zdb h
    unfold Rep
    exact ⟨a, xs, e, SqT.of h1, zon (by simpa [PyData.canLay0] using c) h2⟩
  | .dict _, v, c, h => by simp [PyData.canLay0] at c
theorem zon {K : PySem.W.Frag} {H : Hp} : ∀ {ds : List PyData} {vs : List V}, PyData.canLayAll0 ds = true → Rps H ds vs → Reps K H ds vs
  | [], vs, _, h => by unfold Rps at h; unfold Reps; exact h
  | d :: ds, vs, c, h => by
    unfold Rps at h
    obtain ⟨v, ws, e, h1, h2⟩ := h
    have c : d.canLay0 = true ∧ PyData.canLayAll0 ds = true := by simpa [PyData.canLayAll0] using c
    unfold Reps
    exact ⟨v, ws, e, zqf c.1 h1, zon c.2 h2⟩
end
noncomputable def zaaz : PyData → PyData → Bool
  | .none, .none => true | .none, .int _ => true | .int _, .none => true | .none, .bool _ => true | .bool _, .none => true | .none, .str _ => true | .str _, .none => true
  | .int _, .int _ => true | .bool _, .bool _ => true | .str _, .str _ => true
  | .int _, .str _ => true | .str _, .int _ => true | .bool _, .str _ => true | .str _, .bool _ => true
  | _, _ => false
noncomputable def eqOk (dx dy : PyData) : Bool := zaaz dx dy || (SeqAt.shaped dx && SeqAt.shaped dy)
noncomputable def eqD : OF := fun dx dy => if eqOk dx dy = true then some (.bool (PyData.eqv dx dy), false) else none
noncomputable def neD : OF := fun dx dy => if eqOk dx dy = true then some (.bool (!PyData.eqv dx dy), false) else none
theorem zxa {H : Hp} {dx dy : PyData} {x y : V} (s : zaaz dx dy = true) (rx : Rp H dx x) (ry : Rp H dy y) : scal x y = true ∧ decide (x = y) = PyData.eqv dx dy := by
  cases dx <;> cases dy <;> first
    | (exact absurd (show false = true from s) Bool.false_ne_true)
    | (unfold Rp at rx ry; subst rx; subst ry; refine ⟨rfl, ?_⟩; first | rfl | exact zso | exact zwa | exact zsp | simp [PyData.eqv])
theorem zho {K : PySem.W.Frag} : SO (fun x y H Q => rEq x y H Q ∨ rEqD K false x y H Q) eqD := by
  intro A H x y dx dy hA rx ry d fr e Q q
  unfold eqD at e
  split at e
  · rename_i h
    cases e
    cases hs : zaaz dx dy with
    | true =>
      obtain ⟨h1, h2⟩ := zxa hs rx ry
      exact .inl ⟨h1, by rw [h2]; exact q _ H (Same.refl _) zam (fun z => by cases z)⟩
    | false =>
      unfold eqOk at h
      rw [hs, Bool.false_or, Bool.and_eq_true] at h
      have rx := Rp.same (Offs.same A H) _ rx
      have ry := Rp.same (Offs.same A H) _ ry
      exact .inr ⟨dx, dy, zqf (SeqAt.canLay_of_shaped h.1) rx, zqf (SeqAt.canLay_of_shaped h.2) ry, h.1, h.2, q _ H (Same.refl _) zam (fun z => by cases z)⟩
  · cases e
theorem zaba {K : PySem.W.Frag} : SO (fun x y H Q => rNe x y H Q ∨ rEqD K true x y H Q) neD := by
  intro A H x y dx dy hA rx ry d fr e Q q
  unfold neD at e
  split at e
  · rename_i h
    cases e
    cases hs : zaaz dx dy with
    | true =>
      obtain ⟨h1, h2⟩ := zxa hs rx ry
      exact .inl ⟨h1, by rw [h2]; exact q _ H (Same.refl _) zam (fun z => by cases z)⟩
    | false =>
      unfold eqOk at h
      rw [hs, Bool.false_or, Bool.and_eq_true] at h
      have rx := Rp.same (Offs.same A H) _ rx
      have ry := Rp.same (Offs.same A H) _ ry
      exact .inr ⟨dx, dy, zqf (SeqAt.canLay_of_shaped h.1) rx, zqf (SeqAt.canLay_of_shaped h.2) ry, h.1, h.2, q _ H (Same.refl _) zam (fun z => by cases z)⟩
  · cases e
noncomputable def zey (ds : List PyData) : Bool := ds.all zen
theorem zacw {H : Hp} {d : PyData} {v : V} (f : zen d = true) (h : Rp H d v) : zhj v = true := by
  cases d <;> first
    | (unfold Rp at h; subst h; rfl)
    | cases f
theorem zaew {H : Hp} {ds : List PyData} {vs : List V} (f : zey ds = true) (h : Rps H ds vs) : vs.all zhj = true := by
  replace h := zca.mp h
  induction h with
  | nil => rfl
  | cons h _ ih =>
    unfold zey at f
    rw [List.all_cons, Bool.and_eq_true] at f
    rw [List.all_cons, zacw f.1 h, ih f.2]; rfl
theorem zaex {H : Hp} {d e : PyData} {v u : V} (f : zen d = true) (g : zen e = true) (h : Rp H d v) (k : Rp H e u) : eqV v u = PyData.eqv d e := by
  cases d <;> cases e <;> first
    | (unfold Rp at h k; subst h; subst k; rfl)
    | exact absurd (show false = true from f) Bool.false_ne_true
    | exact absurd (show false = true from g) Bool.false_ne_true
theorem zaey {H : Hp} {d : PyData} {v : V} (f : zen d = true) (h : Rp H d v) {ds : List PyData} {vs : List V} (g : zey ds = true) (r : Rps H ds vs) : inV v vs = ds.any fun e => PyData.eqv e d := by
  replace r := zca.mp r
  unfold inV
  induction r with
  | nil => rfl
  | cons r _ ih =>
    unfold zey at g
    rw [List.all_cons, Bool.and_eq_true] at g
    rw [List.any_cons, List.any_cons, zaex g.1 f r h, ih g.2]
noncomputable def zit : PyData → Option (List PyData)
  | .list ds => some ds
  | .tuple ds => some ds
  | _ => none
noncomputable def inD (neg : Bool) : OF := fun d c => match zit c with
  | some ds => if zen d = true ∧ zey ds = true then some (.bool (if neg then !(ds.any fun e => PyData.eqv e d) else ds.any fun e => PyData.eqv e d), false) else none
  | none => none
theorem zoo {K : PySem.W.Frag} {H : Hp} {c : PyData} {v : V} {ds : List PyData} (h : Rp H c v) (e : zit c = some ds) : ∃ p xs, v = .ref p ∧ (SqL K H p xs ∨ SqT K H p xs) ∧ Rps H ds xs := by
  cases c <;> first
    | cases e
    | skip
  · obtain ⟨a, xs, e, h1, h2⟩ := zcy h; exact ⟨a, xs, e, .inl (SqL.of h1), h2⟩
  · obtain ⟨a, xs, e, h1, h2⟩ := zdb h; exact ⟨a, xs, e, .inr (SqT.of h1), h2⟩
theorem zabb {K : PySem.W.Frag} {neg : Bool} : SO (rIn K neg) (inD neg) := by
  intro A H x y dx dy hA rx ry d fr e Q q
  unfold inD at e
  split at e
  · rename_i ds hi
    split at e
    · rename_i h
      cases e
      have rx := Rp.same (Offs.same A H) _ rx
      obtain ⟨p, xs, rfl, hq, r⟩ := zoo (K := K) (Rp.same (Offs.same A H) _ ry) hi
      refine ⟨p, xs, rfl, hq, zacw h.1 rx, zaew h.2 r, ?_⟩
      rw [zaey h.1 rx h.2 r]
      refine q _ H (Same.refl _) ?_ (fun z => by cases z)
      cases neg <;> exact zam
    · cases e
  · cases e
noncomputable def ixD : OF
  | .str z, .int i => if z.length ≤ 100000 then (atI z.cps.toList i).map fun c => (.str ⟨#[c]⟩, false) else none
  | .list ds, .int i => (atI ds i).map fun d => (d, false)
  | .tuple ds, .int i => (atI ds i).map fun d => (d, false)
  | _, _ => none
theorem Rps.atI {H : Hp} {ds : List PyData} {vs : List V} (h : Rps H ds vs) {i : Int} {d : PyData} (e : atI ds i = some d) : ∃ v, L2.atI vs i = some v ∧ Rp H d v := by
  unfold L2.atI at e ⊢
  rw [← h.length]
  cases g : ixN ds.length i with
  | none => rw [g] at e; cases e
  | some j =>
    rw [g] at e
    exact h.get2 e
theorem zqg {K : PySem.W.Frag} : SO (rIxU K) ixD := by
  intro A H x y dx dy hA rx ry d fr e Q q
  unfold ixD at e
  split at e
  · split at e
    · rename_i z i hl
      obtain ⟨c, hc, e⟩ := Option.map_eq_some_iff.mp e
      cases e
      cases zdv rx; cases zct ry
      exact ⟨zfq hl, c, hc, q _ H (Same.refl _) zbf (fun z => by cases z)⟩
    · cases e
  · obtain ⟨c, hc, e⟩ := Option.map_eq_some_iff.mp e
    cases e
    obtain ⟨p, xs, rfl, hp, r⟩ := zcy rx
    cases zct ry
    obtain ⟨v, hv, rv⟩ := r.atI hc
    exact ⟨xs, v, .inl (SqL.of (zdw hp)), hv, q _ H (Same.refl _) rv (fun z => by cases z)⟩
  · obtain ⟨c, hc, e⟩ := Option.map_eq_some_iff.mp e
    cases e
    obtain ⟨p, xs, rfl, hp, r⟩ := zdb rx
    cases zct ry
    obtain ⟨v, hv, rv⟩ := r.atI hc
    exact ⟨xs, v, .inr (SqT.of (zdw hp)), hv, q _ H (Same.refl _) rv (fun z => by cases z)⟩
  · cases e
end L2
namespace L2
open PySem PySem.Spec PyProof.Rows
noncomputable def zaez : List (PyData × PyData) → Key → Option PyData
  | [], _ => none
  | (k, d) :: r, j => if keyD k = some j then some d else zaez r j
noncomputable def zakv (kvs : List (PyData × PyData)) (k : PyData) (d : PyData) : List (PyData × PyData) :=
  if (kvs.any fun kv => decide (keyD kv.1 = keyD k)) = true then kvs.map (fun kv => if keyD kv.1 = keyD k then (kv.1, d) else kv) else kvs ++ [(k, d)]
noncomputable def zafa (kvs more : List (PyData × PyData)) : List (PyData × PyData) := more.foldl (fun acc kv => zakv acc kv.1 kv.2) kvs
theorem zve {H : Hp} {k d : PyData} {r : List (PyData × PyData)} {ps : List (Key × V)} (h : Rpd H ((k, d) :: r) ps) : ∃ k' v vs, ps = (k', v) :: vs ∧ keyD k = some k' ∧ Rp H d v ∧ Rpd H r vs := by
  unfold Rpd at h; exact h
theorem Rpd.length {H : Hp} : ∀ {kvs : List (PyData × PyData)} {ps : List (Key × V)}, Rpd H kvs ps → kvs.length = ps.length
  | [], ps, h => by unfold Rpd at h; subst h; rfl
  | (k, d) :: r, ps, h => by
    obtain ⟨k', v, vs, rfl, _, _, h3⟩ := zve h
    rw [List.length_cons, List.length_cons, h3.length]
noncomputable def zas (f : EF) : TF := fun env => (f env).bind fun r => match r.d with | .bool b => some b | _ => none
theorem st_b {te : TE} {f : EF} (h : SE te f) : ST (tB te) (zas f) := by
  intro fx H0 env σ H hE b hb Q q
  unfold zas at hb
  obtain ⟨⟨d, fr, bs⟩, e, hb⟩ := Option.bind_eq_some_iff.mp hb
  cases d with
  | bool c =>
    have hb : some c = some b := hb
    cases hb
    exact h fx H0 env σ H hE _ e _ fun v H' s v1 => ⟨_, zhn v1.rp, q H' s⟩
  | _ => cases hb
theorem st_t {te : TE} {f : EF} (h : SE te f) : ST (tTest te) (zas f) := st_b h
noncomputable def truD : PyData → Option Bool
  | .none => some false
  | .bool b => some b
  | .int i => some (i != 0)
  | .str x => if x.length ≤ 100000 then some ((x.length : Int) != 0) else none
  | .list ds => some (!ds.isEmpty)
  | .tuple ds => some (!ds.isEmpty)
  | .dict ds => some (!ds.isEmpty)
noncomputable def tTru (f : EF) : TF := fun env => (f env).bind fun r => truD r.d
theorem zgu {α β : Type} {xs : List α} {ys : List β} (h : xs.length = ys.length) : xs.isEmpty = ys.isEmpty := by
  cases xs <;> cases ys <;> simp at h <;> rfl
theorem zaik {K : PySem.W.Frag} {H : Hp} {d : PyData} {v : V} {b : Bool} (h : Rp H d v) (e : truD d = some b) : TruV K v H b := by
  cases d with
  | none => cases e; cases zlp h; rfl
  | bool c => cases e; cases zhn h; rfl
  | int i => cases e; cases zct h; rfl
  | str x =>
    have e : (if x.length ≤ 100000 then some ((x.length : Int) != 0) else none) = some b := e
    split at e
    · rename_i hl; cases e; cases zdv h; exact ⟨zfq hl, rfl⟩
    · cases e
  | list ds => cases e; obtain ⟨a, xs, rfl, h1, h2⟩ := zcy h; exact .inl ⟨xs, SqL.of h1, by rw [zgu h2.length]⟩
  | tuple ds => cases e; obtain ⟨a, xs, rfl, h1, h2⟩ := zdb h; exact .inr (.inl ⟨xs, SqT.of h1, by rw [zgu h2.length]⟩)
  | dict ds => cases e; obtain ⟨a, xs, rfl, h1, h2⟩ := zoi h; exact .inr (.inr ⟨xs, h1, by rw [zgu h2.length]⟩)
theorem zfi {K : PySem.W.Frag} {te : TE} {f : EF} (h : SE te f) : ST (fun σ H Q => te σ H fun x H1 => ∃ k, TruV K x H1 k ∧ Q k H1) (tTru f) := by
  intro fx H0 env σ H hE b hb Q q
  unfold tTru at hb
  obtain ⟨r, e, hb⟩ := Option.bind_eq_some_iff.mp hb
  exact h fx H0 env σ H hE _ e _ fun v H' s v1 => ⟨b, zaik (Rp.same (Offs.same _ _) _ v1.rp) hb, q H' s⟩
noncomputable def zabc (f g : TF) : TF := fun env => (f env).bind fun b => if b = true then g env else some false
noncomputable def tOrF (f g : TF) : TF := fun env => (f env).bind fun b => if b = true then some true else g env
noncomputable def zbs (f : TF) : TF := fun env => (f env).map fun b => !b
theorem zis {t u : TT} {f g : TF} (h : ST t f) (k : ST u g) : ST (tOr t u) (tOrF f g) := by
  intro fx H0 env σ H hE b hb Q q
  unfold tOrF at hb
  obtain ⟨c, e, hb⟩ := Option.bind_eq_some_iff.mp hb
  refine h fx H0 env σ H hE c e _ fun H' s => ?_
  cases c with
  | false => exact iteF (k fx H0 env σ H' (hE.up s) b hb _ fun H'' s' => q H'' (s.trans s'))
  | true => cases hb; exact iteT (q H' s)
theorem zez {t : TT} {f : TF} (h : ST t f) : ST (tNot t) (zbs f) := by
  intro fx H0 env σ H hE b hb Q q
  unfold zbs at hb
  obtain ⟨c, e, rfl⟩ := Option.map_eq_some_iff.mp hb
  exact h fx H0 env σ H hE c e _ fun H' s => q H' s
noncomputable def asB : PyData → Option Bool | .bool b => some b | _ => none
theorem as_b {H : Hp} {d : PyData} {v : V} {c : Bool} (h : Rp H d v) (e : asB d = some c) : v = .bl c := by
  cases d <;> first
    | (cases e; exact zhn h)
    | cases e
end L2
namespace L2
open PySem PySem.Spec PyProof.Rows
noncomputable def aNil : AF := fun _ => some []
noncomputable def zac (a : EF) (r : AF) : AF := fun env => (a env).bind fun x => (r env).map fun xs => x :: xs
theorem zao : SA tNil aNil := by
  intro fx H0 env σ H h rs hr Q q
  cases hr
  exact q [] H (Same.refl _) .nil
theorem zae {te : TE} {ta : TA} {f : EF} {g : AF} (h1 : SE te f) (h2 : SA ta g) : SA (tCons te ta) (zac f g) := by
  intro fx H0 env σ H h rs hr Q q
  unfold zac at hr
  obtain ⟨x, ex, hr⟩ := Option.bind_eq_some_iff.mp hr
  obtain ⟨xs, exs, rfl⟩ := Option.map_eq_some_iff.mp hr
  exact h1 fx H0 env σ H h x ex _ fun v H1 s1 v1 => h2 fx H0 env σ H1 (h.up s1) xs exs _ fun vs H2 s2 vs2 => q (v :: vs) H2 (s1.trans s2)
    (.cons (v1.later (Same.refl _) s2 fun _ z => z) (Paired.mapP vs2 fun _ _ z => z.later s1 (Same.refl _) fun _ y => y))
noncomputable def zhf (rs : List Val) : List PyData := rs.map (·.d)
noncomputable def bss (rs : List Val) : List Nat := rs.flatMap (·.bs)
theorem zfz {fx : Addr → Prop} {env : DEnv} {σ : St} {H H' : Hp} : ∀ {rs : List Val} {vs : List V} {cs : List Nat}, (∀ i ∈ bss rs, i ∈ cs) → Paired (fun r v => ValOk (lim fx env σ r.bs) H H' r v) rs vs → Rps (Offs (lim fx env σ cs) H') (zhf rs) vs
  | _, _, _, _, .nil => zdo
  | r :: rs, v :: vs, cs, hc, .cons h t => zcr (Rp.same (Offs.sub (zje fun i hi => hc i (List.mem_flatMap.mpr ⟨r, List.mem_cons_self, hi⟩))) _ h.rp)
      (zfz (fun i hi => hc i (by obtain ⟨x, h1, h2⟩ := List.mem_flatMap.mp hi; exact List.mem_flatMap.mpr ⟨x, List.mem_cons_of_mem _ h1, h2⟩)) t)
noncomputable def eTup (f : AF) : EF := fun env => (f env).bind fun rs => if rs.length ≤ 100000 then some ⟨.tuple (zhf rs), false, bss rs⟩ else none
noncomputable def eLst (f : AF) : EF := fun env => (f env).bind fun rs => if rs.length ≤ 100000 then some ⟨.list (zhf rs), true, bss rs⟩ else none
theorem zgj (rs : List Val) : (zhf rs).length = rs.length := by unfold zhf; rw [List.length_map]
theorem zga {ta : TA} {f : AF} (ha : SA ta f) : SE (tTup ta) (eTup f) := by
  intro fx H0 env σ H h rr hr Q q
  unfold eTup at hr
  obtain ⟨rs, er, hr⟩ := Option.bind_eq_some_iff.mp hr
  split at hr
  · rename_i hl
    cases hr
    refine ha fx H0 env σ H h rs er _ fun vs H1 s1 v1 => ?_
    have r := zfz (fun i hi => hi) v1
    have hA := (h.up s1).lims (bss rs)
    refine ⟨zfq (by rw [← r.length, zgj]; exact hl), fun p hp => q _ _ (s1.trans (Same.new hp)) ⟨zkd hp (zfe hA hp) r, fun z => by cases z⟩⟩
  · cases hr
theorem zhp {ta : TA} {f : AF} (ha : SA ta f) : SE (tLst ta) (eLst f) := by
  intro fx H0 env σ H h rr hr Q q
  unfold eLst at hr
  obtain ⟨rs, er, hr⟩ := Option.bind_eq_some_iff.mp hr
  split at hr
  · rename_i hl
    cases hr
    refine ha fx H0 env σ H h rs er _ fun vs H1 s1 v1 => ?_
    have r := zfz (fun i hi => hi) v1
    have hA := (h.up s1).lims (bss rs)
    refine ⟨zfq (by rw [← r.length, zgj]; exact hl), fun p hp => q _ _ (s1.trans (Same.new hp)) ⟨ztx hp (zfe hA hp) r, fun _ => ⟨p, rfl, s1.free hp, zol hp r⟩⟩⟩
  · cases hr
noncomputable def zsx : EF := fun _ => some ⟨.dict [], true, []⟩
theorem zxb : SE tDNewK zsx := by
  intro fx H0 env σ H h rr hr Q q
  cases hr
  intro p hp
  have hA := h.lims []
  exact q _ _ (Same.new hp) ⟨zng (by rw [Offs.get (zfe hA hp)]; exact zau) zwy, fun _ => ⟨p, rfl, hp, ⟨[], zau, zwy⟩⟩⟩
noncomputable abbrev GF := List PyData → Option (PyData × Bool)
noncomputable def SC (r : List V → Hp → VK → Prop) (g : GF) : Prop := ∀ (A : Addr → Prop) (H : Hp) (vs : List V) (ds : List PyData), (∀ b, A b → ∃ o, H b = some o) → Rps (Offs A H) ds vs → ∀ d fr, g ds = some (d, fr) → ∀ Q : VK,
  (∀ v H', Same H H' → Rp (Offs A H') d v → (fr = true → ∃ a, v = .ref a ∧ H a = none ∧ zgt (Offs (fun b => A b ∨ b = a) H') H' a d) → Q v H') → r vs H Q
noncomputable def eCB (g : GF) (f : AF) : EF := fun env => (f env).bind fun rs => (g (zhf rs)).bind fun z => some ⟨z.1, z.2, bsOf z.1 (bss rs)⟩
theorem zfa {r : List V → Hp → VK → Prop} {g : GF} {ta : TA} {f : AF} (hc : SC r g) (ha : SA ta f) : SE (tCB r ta) (eCB g f) := by
  intro fx H0 env σ H h rr hr Q q
  unfold eCB at hr
  obtain ⟨rs, er, hr⟩ := Option.bind_eq_some_iff.mp hr
  obtain ⟨⟨d, fr⟩, ez, hr⟩ := Option.bind_eq_some_iff.mp hr
  cases hr
  refine ha fx H0 env σ H h rs er _ fun vs H1 s1 v1 => hc (lim fx env σ (bss rs)) H1 vs (zhf rs) ((h.up s1).lims _) (zfz (fun i hi => hi) v1) d fr ez _ fun w H3 s3 rp fr3 => q w H3 (s1.trans s3) ⟨zsw rp, fun e => ?_⟩
  obtain ⟨a, g1, g2, g3⟩ := fr3 e
  refine ⟨a, g1, s1.free g2, ?_⟩
  have nf : zen d = false := by cases d <;> first | rfl | exact g3.elim
  show zgt (Offs (fun b => lim fx env σ (bsOf d (bss rs)) b ∨ b = a) H3) H3 a d
  rw [show bsOf d (bss rs) = bss rs by unfold bsOf; rw [if_neg (by rw [nf]; decide)]]
  exact g3
theorem rps1 {H : Hp} {d : PyData} {vs : List V} (h : Rps H [d] vs) : ∃ v, vs = [v] ∧ Rp H d v := by
  unfold Rps at h
  obtain ⟨v, ws, rfl, h1, h2⟩ := h
  unfold Rps at h2
  subst h2
  exact ⟨v, rfl, h1⟩
theorem rps2 {H : Hp} {d e : PyData} {vs : List V} (h : Rps H [d, e] vs) : ∃ v u, vs = [v, u] ∧ Rp H d v ∧ Rp H e u := by
  unfold Rps at h
  obtain ⟨v, ws, rfl, h1, h2⟩ := h
  obtain ⟨u, rfl, h3⟩ := rps1 h2
  exact ⟨v, u, rfl, h1, h3⟩
noncomputable def lenD : GF
  | [.str x] => if x.length ≤ 100000 then some (.int x.length, false) else none
  | [.list ds] => some (.int ds.length, false)
  | [.tuple ds] => some (.int ds.length, false)
  | _ => none
theorem zfj {K : PySem.W.Frag} : SC (fun xs H Q => ∃ x n, xs = [x] ∧ LenV K x H n ∧ Q (.int n) H) lenD := by
  intro A H vs ds hA rv d fr e Q q
  unfold lenD at e
  split at e
  · split at e
    · rename_i hl
      cases e
      obtain ⟨v, rfl, r⟩ := rps1 rv
      cases zdv r
      exact ⟨_, _, rfl, ⟨zfq hl, rfl⟩, q _ H (Same.refl _) zab (fun z => by cases z)⟩
    · cases e
  · cases e
    obtain ⟨v, rfl, r⟩ := rps1 rv
    obtain ⟨a, xs, rfl, h1, h2⟩ := zcy r
    exact ⟨_, _, rfl, .inl ⟨xs, SqL.of (zdw h1), rfl⟩, by rw [← h2.length]; exact q _ H (Same.refl _) zab (fun z => by cases z)⟩
  · cases e
    obtain ⟨v, rfl, r⟩ := rps1 rv
    obtain ⟨a, xs, rfl, h1, h2⟩ := zdb r
    exact ⟨_, _, rfl, .inr ⟨xs, SqT.of (zdw h1), rfl⟩, by rw [← h2.length]; exact q _ H (Same.refl _) zab (fun z => by cases z)⟩
  · cases e
noncomputable def minD : GF
  | [.int i, .int j] => some (.int (if j < i then j else i), false)
  | _ => none
theorem zail : SC (fun xs H Q => ∃ i j, xs = [.int i, .int j] ∧ Q (.int (if j < i then j else i)) H) minD := by
  intro A H vs ds hA rv d fr e Q q
  unfold minD at e
  split at e
  · cases e
    obtain ⟨v, u, rfl, r1, r2⟩ := rps2 rv
    cases zct r1; cases zct r2
    exact ⟨_, _, rfl, q _ H (Same.refl _) zab (fun z => by cases z)⟩
  · cases e
noncomputable def zjm : GF
  | [c] => (zit c).map fun ds => (.list ds, true)
  | _ => none
theorem zlq {K : PySem.W.Frag} : SC (fun xs H Q => ∃ p ys, xs = [.ref p] ∧ (SqL K H p ys ∨ SqT K H p ys) ∧ ∀ l, H l = none → Q (.ref l) (upd H l (.lst ys))) zjm := by
  intro A H vs ds hA rv d fr e Q q
  unfold zjm at e
  split at e
  · obtain ⟨es, he, e⟩ := Option.map_eq_some_iff.mp e
    cases e
    obtain ⟨v, rfl, r1⟩ := rps1 rv
    obtain ⟨p, xs, rfl, hq, r⟩ := zoo (K := K) r1 he
    refine ⟨p, xs, rfl, hq.imp (Offs.same A H).seq (SqT.same (Offs.same A H)), fun l hl => ?_⟩
    exact q _ _ (Same.new hl) (ztx hl (zfe hA hl) r) fun _ => ⟨l, rfl, hl, zol hl r⟩
  · cases e
noncomputable def zlr : GF
  | [c] => (zit c).map fun ds => (.tuple ds, false)
  | _ => none
theorem zty {K : PySem.W.Frag} : SC (fun xs H Q => ∃ p ys, xs = [.ref p] ∧ ((SqL K H p ys ∧ ∀ l, H l = none → Q (.ref l) (upd H l (.tup ys))) ∨ (SqT K H p ys ∧ Q (.ref p) H))) zlr := by
  intro A H vs ds hA rv d fr e Q q
  unfold zlr at e
  split at e
  · obtain ⟨es, he, e⟩ := Option.map_eq_some_iff.mp e
    cases e
    obtain ⟨v, rfl, r1⟩ := rps1 rv
    rename_i c
    cases c with
    | list ds =>
      cases he
      obtain ⟨p, xs, rfl, h1, r⟩ := zcy r1
      exact ⟨p, xs, rfl, .inl ⟨SqL.of (zdw h1), fun l hl => q _ _ (Same.new hl) (zkd hl (zfe hA hl) r) (fun z => by cases z)⟩⟩
    | tuple ds =>
      cases he
      obtain ⟨p, xs, rfl, h1, r⟩ := zdb r1
      exact ⟨p, xs, rfl, .inr ⟨SqT.of (zdw h1), q _ H (Same.refl _) r1 (fun z => by cases z)⟩⟩
    | _ => cases he
  · cases e
noncomputable def znh : List PyData → Option (List Bool)
  | [] => some []
  | .bool b :: r => (znh r).map fun bs => b :: bs
  | _ => none
theorem zqh {H : Hp} : ∀ {ds : List PyData} {vs : List V} {bs : List Bool}, Rps H ds vs → znh ds = some bs → vs = bs.map V.bl
  | [], vs, bs, h, e => by unfold Rps at h; cases e; exact h
  | d :: ds, vs, bs, h, e => by
    unfold Rps at h
    obtain ⟨v, ws, rfl, h1, h2⟩ := h
    cases d with
    | bool b =>
      obtain ⟨cs, ec, rfl⟩ := Option.map_eq_some_iff.mp e
      rw [zhn h1, zqh h2 ec]; rfl
    | _ => cases e
noncomputable def anyD (f : List Bool → Bool) : GF
  | [.list ds] => (znh ds).map fun bs => (.bool (f bs), false)
  | _ => none
theorem zacx {K : PySem.W.Frag} {f : List Bool → Bool} : SC (rAny K f) (anyD f) := by
  intro A H vs ds hA rv d fr e Q q
  unfold anyD at e
  split at e
  · obtain ⟨bs, he, e⟩ := Option.map_eq_some_iff.mp e
    cases e
    obtain ⟨v, rfl, r1⟩ := rps1 rv
    obtain ⟨p, xs, rfl, h1, r⟩ := zcy r1
    cases zqh r he
    exact ⟨p, bs, rfl, SqL.of (zdw h1), q _ H (Same.refl _) zam (fun z => by cases z)⟩
  · cases e
noncomputable def zkr : PyData → String
  | .none => "NoneType" | .bool _ => "bool" | .int _ => "int" | .str _ => "str" | .list _ => "list" | .tuple _ => "tuple" | .dict _ => "dict"
theorem zakw {K : PySem.W.Frag} {H : Hp} {d : PyData} {v : V} (h : Rp H d v) : TyOf K H v (.type (zkr d)) := by
  cases d with
  | list ds => obtain ⟨a, xs, rfl, h1, _⟩ := zcy h; exact .lst h1
  | tuple ds => obtain ⟨a, xs, rfl, h1, _⟩ := zdb h; exact .tup h1
  | dict ds => obtain ⟨a, xs, rfl, h1, _⟩ := zoi h; exact .dK h1
  | none => cases zlp h; exact .non
  | bool b => cases zhn h; exact .bl _
  | int b => cases zct h; exact .int _
  | str b => cases zdv h; exact .str _
noncomputable def isiB (n : String) (d : PyData) : Bool := zkr d == n || (zkr d == "bool" && n == "int")
noncomputable def eIsi (n : String) (a : EF) : EF := fun env => (a env).map fun x => ⟨.bool (isiB n x.d), false, []⟩
theorem zhq {K : PySem.W.Frag} {n : String} {te : TE} {f : EF} (h1 : SE te f) (hk : ∀ d, PySem.W.kitOne K (.type (zkr d)) (.type n) = some (isiB n d)) :
    SE (tCB (fun xs H Q => ∃ x n t b, xs = [x, .ty n] ∧ TyOf K H x t ∧ PySem.W.kitOne K t (.type n) = some b ∧ Q (.bl b) H) (tCons te (tCons (tC (.ty n)) tNil))) (eIsi n f) := by
  intro fx H0 env σ H h rr hr Q q
  unfold eIsi at hr
  obtain ⟨x, ex, rfl⟩ := Option.map_eq_some_iff.mp hr
  refine h1 fx H0 env σ H h _ ex _ fun v H1 s1 v1 => ?_
  exact ⟨v, n, _, _, rfl, zakw (Rp.same (Offs.same _ _) _ v1.rp), hk _, q _ H1 s1 ⟨zam, fun z => by cases z⟩⟩
theorem zlh {K : PySem.W.Frag} : ∀ d, PySem.W.kitOne K (.type (zkr d)) (.type "list") = some (isiB "list" d) := by intro d; cases d <;> rfl
theorem zqi {K : PySem.W.Frag} : ∀ d, PySem.W.kitOne K (.type (zkr d)) (.type "tuple") = some (isiB "tuple" d) := by intro d; cases d <;> rfl
theorem zsy {K : PySem.W.Frag} : ∀ d, PySem.W.kitOne K (.type (zkr d)) (.type "str") = some (isiB "str" d) := by intro d; cases d <;> rfl
theorem ztz {K : PySem.W.Frag} : ∀ d, PySem.W.kitOne K (.type (zkr d)) (.type "bool") = some (isiB "bool" d) := by intro d; cases d <;> rfl
noncomputable abbrev PF' := DEnv → Option (Option Int)
noncomputable def SPt (t : TO) (f : PF') : Prop := ∀ (fx : Addr → Prop) (H0 : Hp) (env : DEnv) (σ : St) (H : Hp), EnvOk fx H0 env σ H → ∀ r, f env = some r → ∀ Q : Option Int → Hp → Prop, (∀ H', Same H H' → Q r H') → t σ H Q
noncomputable def zdd : PF' := fun _ => some none
noncomputable def zcc (a : EF) : PF' := fun env => (a env).bind fun x => match x.d with | .int i => some (some i) | _ => none
theorem zfr : SPt tNoPart zdd := by
  intro fx H0 env σ H h r hr Q q
  cases hr
  exact q H (Same.refl _)
theorem zeo {te : TE} {f : EF} (h1 : SE te f) : SPt (tPart te) (zcc f) := by
  intro fx H0 env σ H h r hr Q q
  unfold zcc at hr
  obtain ⟨⟨d, fr, bs⟩, ex, hr⟩ := Option.bind_eq_some_iff.mp hr
  cases d with
  | int i =>
    cases hr
    exact h1 fx H0 env σ H h _ ex _ fun v H1 s1 v1 => ⟨i, zct v1.rp, q H1 s1⟩
  | _ => cases hr
noncomputable def cutD (xs : List PyData) (lo hi : Option Int) : List PyData := (xs.drop (HT.sIx xs.length 0 lo)).take (HT.sIx xs.length xs.length hi - HT.sIx xs.length 0 lo)
theorem Rps.drop {H : Hp} {ds : List PyData} {vs : List V} (h : Rps H ds vs) (n : Nat) : Rps H (ds.drop n) (vs.drop n) := by
  induction n generalizing ds vs with
  | zero => exact h
  | succ n ih =>
    cases ds with
    | nil => unfold Rps at h; subst h; exact zdo
    | cons d ds => unfold Rps at h; obtain ⟨v, ws, rfl, h1, h2⟩ := h; exact ih h2
theorem Rps.take {H : Hp} {ds : List PyData} {vs : List V} (h : Rps H ds vs) (n : Nat) : Rps H (ds.take n) (vs.take n) := by
  induction n generalizing ds vs with
  | zero => exact zdo
  | succ n ih =>
    cases ds with
    | nil => unfold Rps at h; subst h; exact zdo
    | cons d ds => unfold Rps at h; obtain ⟨v, ws, rfl, h1, h2⟩ := h; exact zcr h1 (ih h2)
theorem Rps.cut {H : Hp} {ds : List PyData} {vs : List V} (h : Rps H ds vs) (lo hi : Option Int) : Rps H (cutD ds lo hi) (cutV vs lo hi) := by
  unfold cutD cutV
  rw [← h.length]
  exact (h.drop _).take _
noncomputable def slD (d : PyData) (lo hi : Option Int) : Option (PyData × Bool) := match d with
  | .str z => if z.length ≤ 100000 then some (.str (Txt.slice z lo hi), false) else none
  | .list ds => some (.list (cutD ds lo hi), true)
  | _ => none
noncomputable def eSl (a : EF) (l h : PF') : EF := fun env => (a env).bind fun x => (l env).bind fun lo => (h env).bind fun hi => (slD x.d lo hi).bind fun z => some ⟨z.1, z.2, bsOf z.1 x.bs⟩
theorem zlb {K : PySem.W.Frag} {te : TE} {tl th : TO} {f : EF} {fl fh : PF'} (h1 : SE te f) (h2 : SPt tl fl) (h3 : SPt th fh) : SE (tSl (rSlU K) te tl th) (eSl f fl fh) := by
  intro fx H0 env σ H h rr hr Q q
  unfold eSl at hr
  obtain ⟨⟨d, frd, bs⟩, ex, hr⟩ := Option.bind_eq_some_iff.mp hr
  obtain ⟨lo, el, hr⟩ := Option.bind_eq_some_iff.mp hr
  obtain ⟨hi, eh, hr⟩ := Option.bind_eq_some_iff.mp hr
  obtain ⟨⟨d', fr'⟩, ez, hr⟩ := Option.bind_eq_some_iff.mp hr
  cases hr
  refine h1 fx H0 env σ H h _ ex _ fun v H1 s1 v1 => h2 fx H0 env σ H1 (h.up s1) _ el _ fun H2 s2 => h3 fx H0 env σ H2 (h.up (s1.trans s2)) _ eh _ fun H3 s3 => ?_
  have v3 := (v1.later (Same.refl _) (s2.trans s3) fun _ z => z).rp
  have t3 := (s1.trans s2).trans s3
  cases d with
  | str z =>
    have ez : (if z.length ≤ 100000 then some (PyData.str (Txt.slice z lo hi), false) else none) = some (d', fr') := ez
    split at ez
    · rename_i hl
      cases ez
      cases zdv v3
      exact ⟨zfq hl, q _ H3 t3 ⟨zbf, fun z => by cases z⟩⟩
    · cases ez
  | list ds =>
    cases ez
    obtain ⟨p, xs, rfl, hp, r⟩ := zcy v3
    refine ⟨p, xs, rfl, SqL.of (zdw hp), fun l hl => q _ _ (t3.trans (Same.new hl)) ?_⟩
    have hA := (h.up t3).lims bs
    exact ⟨ztx hl (zfe hA hl) (r.cut lo hi), fun _ => ⟨l, rfl, t3.free hl, zol hl (r.cut lo hi)⟩⟩
  | _ => cases ez
noncomputable def zsz (fx : Addr → Prop) (H0 : Hp) (d : PyData) (fr : Bool) (v : V) (H : Hp) : Prop := Rp (Offs fx H) d v ∧ (fr = true → ∃ a, v = .ref a ∧ H0 a = none ∧ zgt (Offs (fun b => fx b ∨ b = a) H) H a d)
noncomputable def spD (n : Nat) (g : GF) : Sp := fun vs H Q _ => ∃ (fx : Addr → Prop) (ds : List PyData) (d : PyData) (fr : Bool), ds.length = n ∧ (∀ b, fx b → ∃ o, H b = some o) ∧ Rps (Offs fx H) ds vs ∧ g ds = some (d, fr) ∧ ∀ v H', Same H H' → zsz fx H d fr v H' → Q v H'
noncomputable def zbr (n : Nat) (g : GF) (f : AF) : EF := fun env => (f env).bind fun rs => if rs.length = n then (g (zhf rs)).bind fun z => some ⟨z.1, z.2, bsOf z.1 (bss rs)⟩ else none
theorem zcz {n : Nat} {g : GF} {ta : TA} {f : AF} (ha : SA ta f) : SE (tCall (spD n g) [] E0 ta) (zbr n g f) := by
  intro fx H0 env σ H h rr hr Q q
  unfold zbr at hr
  obtain ⟨rs, er, hr⟩ := Option.bind_eq_some_iff.mp hr
  split at hr
  · rename_i hn
    obtain ⟨⟨d, fr⟩, ez, hr⟩ := Option.bind_eq_some_iff.mp hr
    cases hr
    refine ha fx H0 env σ H h rs er _ fun vs H1 s1 v1 => ?_
    rw [List.append_nil]
    refine ⟨lim fx env σ (bss rs), zhf rs, d, fr, by rw [zgj]; exact hn, (h.up s1).lims _, zfz (fun i hi => hi) v1, ez, fun w H3 s3 ⟨rp, fr3⟩ => q w H3 (s1.trans s3) ⟨zsw rp, fun e => ?_⟩⟩
    obtain ⟨a, g1, g2, g3⟩ := fr3 e
    refine ⟨a, g1, s1.free g2, ?_⟩
    have nf : zen d = false := by cases d <;> first | rfl | exact g3.elim
    show zgt (Offs (fun b => lim fx env σ (bsOf d (bss rs)) b ∨ b = a) H3) H3 a d
    rw [show bsOf d (bss rs) = bss rs by unfold bsOf; rw [if_neg (by rw [nf]; decide)]]
    exact g3
  · cases hr
end L2
namespace L2
open PySem PySem.Spec PyProof.Rows
inductive Out where
  | nx (env : DEnv)
  | bk (env : DEnv)
  | ct (env : DEnv)
  | rt (d : PyData) (fr : Bool)
noncomputable def Sat (fx : Addr → Prop) (H0 : Hp) (D : Ends) : Out → Prop
  | .nx env => ∀ σ H, EnvOk fx H0 env σ H → D.nx σ H
  | .bk env => ∀ σ H, EnvOk fx H0 env σ H → D.bk σ H
  | .ct env => ∀ σ H, EnvOk fx H0 env σ H → D.ct σ H
  | .rt d fr => ∀ v H, Same H0 H → zsz fx H0 d fr v H → D.rt v H
noncomputable abbrev SF := DEnv → Option Out
noncomputable def SS (ts : TS) (F : SF) : Prop := ∀ (fx : Addr → Prop) (H0 : Hp) (env : DEnv) (σ : St) (H : Hp) (D : Ends), EnvOk fx H0 env σ H → ∀ o, F env = some o → Sat fx H0 D o → ts D σ H
noncomputable def frz1 (env : DEnv) (i : Nat) : DEnv := match env[i]? with
  | some (.ac d) => env.set i (.pl d)
  | _ => env
noncomputable def frzs (env : DEnv) (bs : List Nat) : DEnv := bs.foldl frz1 env
theorem zabd (env : DEnv) (i : Nat) : (frz1 env i).length = env.length := by
  unfold frz1; split
  · rw [List.length_set]
  · rfl
theorem zcd {α : Type} {l : List α} {i j : Nat} {x y : α} (h : (l.set i x)[j]? = some y) : (j = i ∧ y = x) ∨ (j ≠ i ∧ l[j]? = some y) := by
  rw [List.getElem?_set] at h
  by_cases e : i = j
  · subst e
    rw [if_pos rfl] at h
    split at h
    · exact .inl ⟨rfl, (Option.some.inj h).symm⟩
    · cases h
  · rw [if_neg e] at h
    exact .inr ⟨fun z => e z.symm, h⟩
theorem zke {env : DEnv} {i j : Nat} {d : PyData} (h : (frz1 env i)[j]? = some (.ac d)) : env[j]? = some (.ac d) ∧ j ≠ i := by
  unfold frz1 at h
  split at h
  · rcases zcd h with ⟨_, e⟩ | ⟨e, h⟩
    · cases e
    · exact ⟨h, e⟩
  · rename_i hn
    refine ⟨h, fun e => ?_⟩
    subst e
    exact hn d h
theorem zafb {env : DEnv} {i j : Nat} {d : PyData} (h : (frz1 env i)[j]? = some (.pl d)) : env[j]? = some (.pl d) ∨ (j = i ∧ env[i]? = some (.ac d)) := by
  unfold frz1 at h
  split at h
  · rename_i d' hd
    rcases zcd h with ⟨e1, e⟩ | ⟨e, h⟩
    · cases e; exact .inr ⟨e1, hd⟩
    · exact .inl h
  · exact .inl h
theorem zabe {env : DEnv} {σ : St} {i : Nat} : ∀ a, own (frz1 env i) σ a → own env σ a := by
  rintro a ⟨j, d, h1, h2⟩
  exact ⟨j, d, (zke h1).1, h2⟩
theorem EnvOk.frz1 {fx : Addr → Prop} {H0 : Hp} {env : DEnv} {σ : St} {H : Hp} (h : EnvOk fx H0 env σ H) (i : Nat) : EnvOk fx H0 (frz1 env i) σ H := by
  have so : Same (Offs (fun a => fx a ∨ own env σ a) H) (Offs (fun a => fx a ∨ own (L2.frz1 env i) σ a) H) := Offs.sub fun b z => z.imp (fun y => y) (zabe b)
  refine ⟨by rw [zabd]; exact h.len, fun j d e => ?_, fun j d e => ?_, fun j k d d' a h1 h2 h3 h4 => h.inj j k d d' a (zke h1).1 (zke h2).1 h3 h4, h.base, h.fxs⟩
  · rcases zafb e with e | ⟨rfl, e⟩
    · obtain ⟨v, h1, h2⟩ := h.pl j d e
      exact ⟨v, h1, Rp.same so _ h2⟩
    · obtain ⟨a, h1, h2, h3, h4⟩ := h.ac j d e
      refine ⟨_, h1, h4.rp so fun o eo => ?_⟩
      rw [Offs.get]
      · exact eo
      · rintro (z | ⟨k, d', z1, z2⟩)
        · exact h3 z
        · obtain ⟨z1, z3⟩ := zke z1
          exact z3 (h.inj k j d' d a z1 e z2 h1)
  · obtain ⟨a, h1, h2, h3, h4⟩ := h.ac j d (zke e).1
    exact ⟨a, h1, h2, h3, h4.same so fun o z => z⟩
theorem EnvOk.frzs {fx : Addr → Prop} {H0 : Hp} {σ : St} {H : Hp} : ∀ (bs : List Nat) {env : DEnv}, EnvOk fx H0 env σ H → EnvOk fx H0 (frzs env bs) σ H
  | [], _, h => h
  | i :: bs, _, h => EnvOk.frzs bs (h.frz1 i)
theorem zxc : ∀ {bs : List Nat} {env : DEnv} {j : Nat} {d : PyData}, (frzs env bs)[j]? = some (.ac d) → env[j]? = some (.ac d) ∧ j ∉ bs
  | [], _, _, _, h => ⟨h, by simp⟩
  | i :: bs, env, j, d, h => by
    obtain ⟨h1, h2⟩ := zxc (bs := bs) h
    obtain ⟨h3, h4⟩ := zke h1
    exact ⟨h3, by simp [h4, h2]⟩
theorem zgb {fx : Addr → Prop} {env : DEnv} {σ : St} {bs : List Nat} : ∀ a, fx a ∨ own (frzs env bs) σ a → lim fx env σ bs a := by
  rintro a (z | ⟨i, d, h1, h2⟩)
  · exact .inl z
  · obtain ⟨h3, h4⟩ := zxc h1
    exact .inr ⟨i, d, h4, h3, h2⟩
theorem zxd {env : DEnv} {σ : St} {i : Nat} {d : PyData} {v : V} : ∀ a, own (env.set i (.pl d)) (σ.set i (some v)) a → own env σ a := by
  rintro a ⟨j, e, h1, h2⟩
  rcases zcd h1 with ⟨_, z⟩ | ⟨ne, h1⟩
  · cases z
  · rcases zcd h2 with ⟨z, _⟩ | ⟨_, h2⟩
    · exact absurd z ne
    · exact ⟨j, e, h1, h2⟩
theorem EnvOk.setPl {fx : Addr → Prop} {H0 : Hp} {env : DEnv} {σ : St} {H : Hp} (h : EnvOk fx H0 env σ H) (i : Nat) {d : PyData} {v : V} (r : Rp (Offs (fun a => fx a ∨ own env σ a) H) d v) : EnvOk fx H0 (env.set i (.pl d)) (σ.set i (some v)) H := by
  have so : Same (Offs (fun a => fx a ∨ own env σ a) H) (Offs (fun a => fx a ∨ own (env.set i (.pl d)) (σ.set i (some v)) a) H) := Offs.sub fun b z => z.imp (fun y => y) (zxd b)
  have kept : ∀ {j : Nat}, j ≠ i → (σ.set i (some v))[j]? = σ[j]? := fun {j} n => List.getElem?_set_ne fun z => n z.symm
  refine ⟨by rw [List.length_set, List.length_set]; exact h.len, fun j e hj => ?_, fun j e hj => ?_, fun j k d1 d2 a h1 h2 h3 h4 => ?_, h.base, h.fxs⟩
  · rcases zcd hj with ⟨rfl, z⟩ | ⟨ne, hj'⟩
    · cases z
      have hl : j < env.length := by have := (List.getElem?_eq_some_iff.mp hj).1; rwa [List.length_set] at this
      exact ⟨v, by rw [List.getElem?_set_self (by rw [← h.len]; exact hl)], Rp.same so _ r⟩
    · obtain ⟨u, h1, h2⟩ := h.pl j e hj'
      exact ⟨u, by rw [kept ne]; exact h1, Rp.same so _ h2⟩
  · rcases zcd hj with ⟨_, z⟩ | ⟨ne, hj'⟩
    · cases z
    · obtain ⟨a, h1, h2, h3, h4⟩ := h.ac j e hj'
      exact ⟨a, by rw [kept ne]; exact h1, h2, h3, h4.same so fun o z => z⟩
  · rcases zcd h1 with ⟨_, z⟩ | ⟨n1, h1⟩
    · cases z
    rcases zcd h2 with ⟨_, z⟩ | ⟨n2, h2⟩
    · cases z
    rw [kept n1] at h3
    rw [kept n2] at h4
    exact h.inj j k d1 d2 a h1 h2 h3 h4
theorem EnvOk.setAc {fx : Addr → Prop} {H0 : Hp} {env : DEnv} {σ : St} {H : Hp} {a : Addr} (h : EnvOk (fun b => fx b ∨ b = a) H0 env σ H) (i : Nat) {d : PyData} (r : zgt (Offs (fun b => (fx b ∨ own env σ b) ∨ b = a) H) H a d) (h0 : H0 a = none) (hf : ¬ fx a) :
    EnvOk fx H0 (env.set i (.ac d)) (σ.set i (some (.ref a))) H := by
  have kept : ∀ {j : Nat}, j ≠ i → (σ.set i (some (V.ref a)))[j]? = σ[j]? := fun {j} n => List.getElem?_set_ne fun z => n z.symm
  have sub : ∀ b, fx b ∨ own (env.set i (.ac d)) (σ.set i (some (.ref a))) b → (fx b ∨ b = a) ∨ own env σ b := by
    rintro b (z | ⟨j, e, h1, h2⟩)
    · exact .inl (.inl z)
    · rcases zcd h1 with ⟨rfl, z⟩ | ⟨ne, h1⟩
      · have hl : j < env.length := by have := (List.getElem?_eq_some_iff.mp ‹(env.set j (.ac d))[j]? = _›).1; rwa [List.length_set] at this
        rw [List.getElem?_set_self (by rw [← h.len]; exact hl)] at h2
        cases h2
        exact .inl (.inr rfl)
      · rw [kept ne] at h2
        exact .inr ⟨j, e, h1, h2⟩
  have so : Same (Offs (fun b => (fx b ∨ b = a) ∨ own env σ b) H) (Offs (fun b => fx b ∨ own (env.set i (.ac d)) (σ.set i (some (.ref a))) b) H) := Offs.sub sub
  have so2 : Same (Offs (fun b => (fx b ∨ own env σ b) ∨ b = a) H) (Offs (fun b => fx b ∨ own (env.set i (.ac d)) (σ.set i (some (.ref a))) b) H) := Offs.sub fun b z => by
    rcases sub b z with (y | y) | y
    · exact .inl (.inl y)
    · exact .inr y
    · exact .inl (.inr y)
  refine ⟨by rw [List.length_set, List.length_set]; exact h.len, fun j e hj => ?_, fun j e hj => ?_, fun j k d1 d2 b h1 h2 h3 h4 => ?_, h.base, fun b z => h.fxs b (.inl z)⟩
  · rcases zcd hj with ⟨_, z⟩ | ⟨ne, hj'⟩
    · cases z
    · obtain ⟨u, h1, h2⟩ := h.pl j e hj'
      exact ⟨u, by rw [kept ne]; exact h1, Rp.same so _ h2⟩
  · rcases zcd hj with ⟨rfl, z⟩ | ⟨ne, hj'⟩
    · cases z
      have hl : j < env.length := by have := (List.getElem?_eq_some_iff.mp hj).1; rwa [List.length_set] at this
      exact ⟨a, by rw [List.getElem?_set_self (by rw [← h.len]; exact hl)], h0, hf, r.same so2 fun o z => z⟩
    · obtain ⟨b, h1, h2, h3, h4⟩ := h.ac j e hj'
      exact ⟨b, by rw [kept ne]; exact h1, h2, fun z => h3 (.inl z), h4.same so fun o z => z⟩
  · rcases zcd h1 with ⟨e1, z1⟩ | ⟨n1, h1'⟩ <;> rcases zcd h2 with ⟨e2, z2⟩ | ⟨n2, h2'⟩
    · rw [e1, e2]
    · subst e1
      have hl : j < env.length := by have := (List.getElem?_eq_some_iff.mp h1).1; rwa [List.length_set] at this
      rw [List.getElem?_set_self (by rw [← h.len]; exact hl)] at h3
      rw [kept n2] at h4
      cases h3
      obtain ⟨b, g1, g2, g3, g4⟩ := h.ac k d2 h2'
      rw [h4] at g1
      cases g1
      exact absurd (.inr rfl) g3
    · subst e2
      have hl : k < env.length := by have := (List.getElem?_eq_some_iff.mp h2).1; rwa [List.length_set] at this
      rw [List.getElem?_set_self (by rw [← h.len]; exact hl)] at h4
      rw [kept n1] at h3
      cases h4
      obtain ⟨b, g1, g2, g3, g4⟩ := h.ac j d1 h1'
      rw [h3] at g1
      cases g1
      exact absurd (.inr rfl) g3
    · rw [kept n1] at h3
      rw [kept n2] at h4
      exact h.inj j k d1 d2 b h1' h2' h3 h4
noncomputable def slOf (r : Val) : Sl := if r.fr = true then .ac r.d else .pl r.d
noncomputable def putV (env : DEnv) (i : Nat) (r : Val) : DEnv := (frzs env r.bs).set i (slOf r)
theorem EnvOk.put {fx : Addr → Prop} {H0 : Hp} {env : DEnv} {σ : St} {H H' : Hp} (h : EnvOk fx H0 env σ H) (s : Same H H') {r : Val} {v : V} (hv : ValOk (lim fx env σ r.bs) H H' r v) (i : Nat) : EnvOk fx H0 (putV env i r) (σ.set i (some v)) H' := by
  unfold putV slOf
  cases e : r.fr with
  | false =>
    rw [if_neg Bool.false_ne_true]
    exact ((h.up s).frzs r.bs).setPl i (Rp.same (Offs.sub zgb) _ hv.rp)
  | true =>
    rw [if_pos rfl]
    obtain ⟨a, rfl, ha, hacc⟩ := hv.fr e
    have nfx : ¬ fx a := zfe h.fxs ha
    have g : EnvOk (fun b => fx b ∨ b = a) H0 env σ H' := h.grow s (fun b o eo n z => z.elim n fun y => by rw [y, ha] at eo; cases eo) fun b z => by
      rcases z with z | z
      · obtain ⟨o, eo⟩ := h.fxs b z; exact ⟨o, s b o eo⟩
      · rw [z]; exact hacc.ex
    refine (g.frzs r.bs).setAc i (hacc.same (Offs.sub fun b z => ?_) fun o z => z) (h.base.free ha) nfx
    rcases z with z | z
    · exact .inl (zgb b z)
    · exact .inr z
noncomputable def sNil : SF := fun env => some (.nx env)
noncomputable def sSeq (f g : SF) : SF := fun env => (f env).bind fun o => match o with
  | .nx env' => g env'
  | o => some o
theorem zck : SS tNext sNil := by
  intro fx H0 env σ H D h o e q
  cases e
  exact q σ H h
theorem zar {t u : TS} {f g : SF} (h1 : SS t f) (h2 : SS u g) : SS (tSeq t u) (sSeq f g) := by
  intro fx H0 env σ H D h o e q
  unfold sSeq at e
  obtain ⟨o1, e1, e⟩ := Option.bind_eq_some_iff.mp e
  refine h1 fx H0 env σ H _ h o1 e1 ?_
  cases o1 with
  | nx env' => exact fun σ' H' h' => h2 fx H0 env' σ' H' D h' o e q
  | bk env' => cases e; exact q
  | ct env' => cases e; exact q
  | rt d fr => cases e; exact q
noncomputable def sRet (f : EF) : SF := fun env => (f env).map fun r => .rt r.d r.fr
theorem zbm {te : TE} {f : EF} (h1 : SE te f) : SS (tRet te) (sRet f) := by
  intro fx H0 env σ H D h o e q
  unfold sRet at e
  obtain ⟨r, er, rfl⟩ := Option.map_eq_some_iff.mp e
  refine h1 fx H0 env σ H h r er _ fun v H' s hv => q v H' (h.base.trans s) ⟨Rp.same (Offs.sub fun b z => .inl z) _ hv.rp, fun z => ?_⟩
  obtain ⟨a, g1, g2, g3⟩ := hv.fr z
  exact ⟨a, g1, h.base.free g2, g3.same (Offs.sub fun b y => y.imp .inl id) fun o z => z⟩
noncomputable def zqj (i : Nat) : SF := fun env => match env[i]? with
  | some (.pl d) => some (.rt d false)
  | some (.ac d) => some (.rt d true)
  | _ => none
theorem zls {i : Nat} : SS (tRet (tVar i)) (zqj i) := by
  intro fx H0 env σ H D h o e q
  unfold zqj at e
  cases ei : env[i]? with
  | none => rw [ei] at e; cases e
  | some sl =>
    rw [ei] at e
    cases sl with
    | no => cases e
    | pl d =>
      cases e
      obtain ⟨v, h1, h2⟩ := h.pl i d ei
      exact ⟨v, h1, q v H h.base ⟨Rp.same (Offs.sub fun b z => .inl z) _ h2, fun z => by cases z⟩⟩
    | ac d =>
      cases e
      obtain ⟨a, h1, h2, h3, h4⟩ := h.ac i d ei
      refine ⟨_, h1, q _ H h.base ⟨h4.rp (Offs.sub fun b z => .inl z) fun o eo => by rw [Offs.get h3]; exact eo, fun _ => ⟨a, rfl, h2, h4.same (Offs.sub fun b z => ?_) fun o z => z⟩⟩⟩
      rcases z with z | z
      · exact .inl z
      · rw [z]; exact .inr ⟨i, d, ei, h1⟩
noncomputable def sIf (c : TF) (f g : SF) : SF := fun env => (c env).bind fun b => if b = true then f env else g env
theorem zdi {tc : TT} {t u : TS} {c : TF} {f g : SF} (hc : ST tc c) (h1 : SS t f) (h2 : SS u g) : SS (tIfS tc t u) (sIf c f g) := by
  intro fx H0 env σ H D h o e q
  unfold sIf at e
  obtain ⟨b, eb, e⟩ := Option.bind_eq_some_iff.mp e
  refine hc fx H0 env σ H h b eb _ fun H' s => ?_
  cases b with
  | true => exact iteT (h1 fx H0 env σ H' D (h.up s) o e q)
  | false => exact iteF (h2 fx H0 env σ H' D (h.up s) o e q)
noncomputable def sSet (i : Nat) (f : EF) : SF := fun env => (f env).map fun r => .nx (putV env i r)
theorem zbj {te : TE} {f : EF} {i : Nat} (h1 : SE te f) : SS (tAsg te (gName i)) (sSet i f) := by
  intro fx H0 env σ H D h o e q
  unfold sSet at e
  obtain ⟨r, er, rfl⟩ := Option.map_eq_some_iff.mp e
  exact h1 fx H0 env σ H h r er _ fun v H' s hv => q _ H' (h.put s hv i)
noncomputable abbrev GT := PyData → DEnv → Option DEnv
noncomputable def SG (g : TG) (f : GT) : Prop := ∀ (fx : Addr → Prop) (H0 : Hp) (env : DEnv) (σ : St) (H : Hp) (d : PyData) (v : V), EnvOk fx H0 env σ H → Rp (Offs (fun a => fx a ∨ own env σ a) H) d v → ∀ env', f d env = some env' → ∀ Q : St → Hp → Prop,
  (∀ σ', EnvOk fx H0 env' σ' H → Q σ' H) → g v σ H Q
noncomputable abbrev GTs := List PyData → DEnv → Option DEnv
noncomputable def SGs (g : TGs) (f : GTs) : Prop := ∀ (fx : Addr → Prop) (H0 : Hp) (env : DEnv) (σ : St) (H : Hp) (ds : List PyData) (vs : List V), EnvOk fx H0 env σ H → Rps (Offs (fun a => fx a ∨ own env σ a) H) ds vs → ∀ env', f ds env = some env' → ∀ Q : St → Hp → Prop,
  (∀ σ', EnvOk fx H0 env' σ' H → Q σ' H) → g vs σ H Q
noncomputable def gN (i : Nat) : GT := fun d env => some (env.set i (.pl d))
theorem zkf {i : Nat} : SG (gName i) (gN i) := by
  intro fx H0 env σ H d v h r env' e Q q
  cases e
  exact q _ (h.setPl i r)
noncomputable def zfs : GTs := fun ds env => match ds with | [] => some env | _ => none
noncomputable def zbe (i : Nat) (g : GTs) : GTs := fun ds env => match ds with | d :: r => g r (env.set i (.pl d)) | [] => none
theorem zhr : SGs gNil zfs := by
  intro fx H0 env σ H ds vs h r env' e Q q
  cases ds with
  | nil => cases e; unfold Rps at r; exact ⟨r, q _ h⟩
  | cons _ _ => cases e
theorem zcl {i : Nat} {t : TGs} {g : GTs} (h1 : SGs t g) : SGs (gCons (gName i) t) (zbe i g) := by
  intro fx H0 env σ H ds vs h r env' e Q q
  cases ds with
  | nil => cases e
  | cons d ds =>
    unfold Rps at r
    obtain ⟨v, ws, rfl, r1, r2⟩ := r
    refine ⟨v, ws, rfl, h1 fx H0 (env.set i (.pl d)) _ H ds ws (h.setPl i r1) (Rps.same (Offs.sub fun b z => z.imp (fun y => y) (zxd b)) _ r2) env' e Q q⟩
noncomputable def gT (n : Nat) (g : GTs) : GT := fun d env => match d with | .tuple ds => if ds.length = n then g ds env else none | _ => none
theorem zks {K : PySem.W.Frag} {n : Nat} {t : TGs} {g : GTs} (h1 : SGs t g) : SG (gTup K n t) (gT n g) := by
  intro fx H0 env σ H d v h r env' e Q q
  unfold gT at e
  cases d with
  | tuple ds =>
    have e : (if ds.length = n then g ds env else none) = some env' := e
    split at e
    · rename_i hn
      obtain ⟨a, xs, rfl, ha, rs⟩ := zdb r
      exact ⟨a, xs, rfl, SqT.of (zdw ha), by rw [← rs.length]; exact hn, h1 fx H0 env σ H ds xs h rs env' e Q q⟩
    · cases e
  | _ => cases e
noncomputable def sAsg (f : EF) (g : GT) : SF := fun env => (f env).bind fun r => (g r.d (frzs env r.bs)).map .nx
theorem zaim {te : TE} {f : EF} {g : TG} {gf : GT} (h1 : SE te f) (h2 : SG g gf) : SS (tAsg te g) (sAsg f gf) := by
  intro fx H0 env σ H D h o e q
  unfold sAsg at e
  obtain ⟨r, er, e⟩ := Option.bind_eq_some_iff.mp e
  obtain ⟨env', e', rfl⟩ := Option.map_eq_some_iff.mp e
  exact h1 fx H0 env σ H h r er _ fun v H' s hv => h2 fx H0 _ σ H' r.d v ((h.up s).frzs r.bs) (Rp.same (Offs.sub zgb) _ hv.rp) env' e' _ fun σ' h' => q σ' H' h'
theorem EnvOk.mut {fx : Addr → Prop} {H0 : Hp} {env : DEnv} {σ : St} {H : Hp} (h : EnvOk fx H0 env σ H) {i : Nat} {d d' : PyData} {a : Addr} {o : HO} (e : env[i]? = some (.ac d)) (ea : σ[i]? = some (some (.ref a)))
    (r : zgt (Offs (fun b => fx b ∨ own env σ b) H) (upd H a o) a d') : EnvOk fx H0 (env.set i (.ac d')) σ (upd H a o) := by
  have hl : i < env.length := (List.getElem?_eq_some_iff.mp e).1
  have oa : own env σ a := ⟨i, d, e, ea⟩
  have ow : ∀ b, own (env.set i (.ac d')) σ b ↔ own env σ b := by
    intro b
    constructor
    · rintro ⟨j, d1, h1, h2⟩
      rcases zcd h1 with ⟨rfl, z⟩ | ⟨ne, h1⟩
      · exact ⟨j, d, e, h2⟩
      · exact ⟨j, d1, h1, h2⟩
    · rintro ⟨j, d1, h1, h2⟩
      by_cases hj : j = i
      · subst hj; exact ⟨j, d', by rw [List.getElem?_set_self hl], h2⟩
      · exact ⟨j, d1, by rw [List.getElem?_set_ne fun z => hj z.symm]; exact h1, h2⟩
  have so : Same (Offs (fun b => fx b ∨ own env σ b) H) (Offs (fun b => fx b ∨ own (env.set i (.ac d')) σ b) (upd H a o)) := by
    have : Same (Offs (fun b => fx b ∨ own env σ b) (upd H a o)) (Offs (fun b => fx b ∨ own (env.set i (.ac d')) σ b) (upd H a o)) := Offs.sub fun b z => z.imp (fun y => y) (ow b).mp
    rw [Offs.upd (.inr oa)] at this
    exact this
  obtain ⟨a', g1, g2, g3, g4⟩ := h.ac i d e
  rw [ea] at g1
  cases g1
  refine ⟨by rw [List.length_set]; exact h.len, fun j d1 hj => ?_, fun j d1 hj => ?_, fun j k d1 d2 b h1 h2 h3 h4 => ?_, fun b u eb => by rw [zay (zbz eb g2)]; exact h.base b u eb, fun b z => ?_⟩
  · rcases zcd hj with ⟨_, z⟩ | ⟨ne, hj'⟩
    · cases z
    · obtain ⟨u, h1, h2⟩ := h.pl j d1 hj'
      exact ⟨u, h1, Rp.same so _ h2⟩
  · rcases zcd hj with ⟨rfl, z⟩ | ⟨ne, hj'⟩
    · cases z
      exact ⟨a, ea, g2, g3, r.same so fun o z => z⟩
    · obtain ⟨b, h1, h2, h3, h4⟩ := h.ac j d1 hj'
      refine ⟨b, h1, h2, h3, h4.same so fun o' z => ?_⟩
      rw [zay fun y => ne (h.inj j i d1 d a hj' e (by rw [← y]; exact h1) ea)]
      exact z
  · have f : ∀ {j : Nat} {d1 : PyData}, (env.set i (.ac d'))[j]? = some (.ac d1) → ∃ d2, env[j]? = some (.ac d2) := fun {j d1} hj => by
      rcases zcd hj with ⟨rfl, z⟩ | ⟨ne, hj'⟩
      · exact ⟨d, e⟩
      · exact ⟨d1, hj'⟩
    obtain ⟨e1, h1⟩ := f h1
    obtain ⟨e2, h2⟩ := f h2
    exact h.inj j k e1 e2 b h1 h2 h3 h4
  · obtain ⟨u, eu⟩ := h.fxs b z
    exact ⟨u, by rw [zay fun y => g3 (by rw [← y]; exact z)]; exact eu⟩
noncomputable def sApp (i : Nat) (f : EF) : SF := fun env => match env[i]? with
  | some (.ac (.list ds)) => (f env).bind fun r => if ds.length < 100000 ∧ i ∉ r.bs then some (.nx ((frzs env r.bs).set i (.ac (.list (ds ++ [r.d]))))) else none
  | _ => none
theorem zli {env : DEnv} {i : Nat} {d : PyData} : ∀ {bs : List Nat}, i ∉ bs → env[i]? = some (.ac d) → (frzs env bs)[i]? = some (.ac d) := by
  intro bs
  induction bs generalizing env with
  | nil => intro _ e; exact e
  | cons j bs ih =>
    intro hn e
    have hj : i ≠ j := fun z => hn (by simp [z])
    refine ih (fun z => hn (List.mem_cons_of_mem _ z)) ?_
    unfold frz1
    split
    · rw [List.getElem?_set_ne fun z => hj z.symm]; exact e
    · exact e
theorem zni {K : PySem.W.Frag} {i : Nat} {te : TE} {f : EF} (h1 : SE te f) : SS (tDrop (tBM K "list" zst (tVar i) (tCons te tNil))) (sApp i f) := by
  intro fx H0 env σ H D h o e q
  unfold sApp at e
  split at e
  · rename_i ds ei
    obtain ⟨r, er, e⟩ := Option.bind_eq_some_iff.mp e
    split at e
    · rename_i hl
      cases e
      obtain ⟨a, g1, g2, g3, g4⟩ := h.ac i _ ei
      obtain ⟨xs, hx, rx⟩ := g4
      refine ⟨_, g1, .inl ⟨rfl, _, SqL.of hx⟩, h1 fx H0 env σ H h r er _ fun v H' s hv => ?_⟩
      have h' := (h.up s).frzs r.bs
      have ei' := zli hl.2 ei
      have hx' := s _ _ hx
      have rx' : Rps (Offs (fun b => fx b ∨ own (frzs env r.bs) σ b) H') ds xs := by
        obtain ⟨a', z1, _, _, z4⟩ := h'.ac i _ ei'
        rw [g1] at z1
        cases z1
        obtain ⟨ys, y1, y2⟩ := z4
        rw [hx'] at y1
        cases y1
        exact y2
      refine ⟨a, xs, v, rfl, rfl, hx', zok (by rw [← rx.length]; exact hl.1), ?_⟩
      refine q σ _ (h'.mut ei' g1 ⟨_, zau, rx'.append (zcr (Rp.same (Offs.sub zgb) _ hv.rp) zdo)⟩)
    · cases e
  · cases e
end L2
namespace L2
open PySem PySem.Spec PyProof.Rows
theorem EnvOk.rebase {fx : Addr → Prop} {H0 : Hp} {env : DEnv} {σ : St} {H : Hp} (h : EnvOk fx H0 env σ H) : EnvOk fx (Offs (own env σ) H) env σ H := by
  refine ⟨h.len, h.pl, fun i d e => ?_, h.inj, Offs.same _ _, h.fxs⟩
  obtain ⟨a, h1, h2, h3, h4⟩ := h.ac i d e
  exact ⟨a, h1, Offs.out ⟨i, d, e, h1⟩, h3, h4⟩
theorem EnvOk.floor {fx : Addr → Prop} {H0 : Hp} {env : DEnv} {σ : St} {H : Hp} (h : EnvOk fx H0 env σ H) : Same H0 (Offs (own env σ) H) := fun b o e => by
  rw [Offs.get]
  · exact h.base b o e
  · rintro ⟨i, d, h1, h2⟩
    obtain ⟨a, g1, g2, _⟩ := h.ac i d h1
    rw [h2] at g1
    cases g1
    rw [g2] at e
    cases e
theorem EnvOk.unbase {fx : Addr → Prop} {H0 F : Hp} {env : DEnv} {σ : St} {H : Hp} (h : EnvOk fx F env σ H) (s : Same H0 F) : EnvOk fx H0 env σ H := by
  refine ⟨h.len, h.pl, fun i d e => ?_, h.inj, s.trans h.base, h.fxs⟩
  obtain ⟨a, h1, h2, h3, h4⟩ := h.ac i d e
  exact ⟨a, h1, s.free h2, h3, h4⟩
theorem zsz.unbase {fx : Addr → Prop} {H0 F : Hp} {d : PyData} {fr : Bool} {v : V} {H : Hp} (h : zsz fx F d fr v H) (s : Same H0 F) : zsz fx H0 d fr v H :=
  ⟨h.1, fun e => let ⟨a, h1, h2, h3⟩ := h.2 e; ⟨a, h1, s.free h2, h3⟩⟩
theorem EnvOk.seen {fx : Addr → Prop} {env env' : DEnv} {σ σ' : St} {H H' : Hp} (h : EnvOk fx (Offs (own env σ) H) env' σ' H') : Same (Offs (fun b => fx b ∨ own env σ b) H) (Offs (fun b => fx b ∨ own env' σ' b) H') := fun b o e => by
  obtain ⟨h1, h2⟩ := Offs.of e
  have hF : Offs (own env σ) H b = some o := by rw [Offs.get fun z => h1 (.inr z)]; exact h2
  rw [Offs.get]
  · exact h.base b o hF
  · rintro (z | ⟨i, d, g1, g2⟩)
    · exact h1 (.inl z)
    · obtain ⟨a, k1, k2, _⟩ := h.ac i d g1
      rw [g2] at k1
      cases k1
      rw [k2] at hF
      cases hF
theorem EnvOk.all {fx : Addr → Prop} {H0 : Hp} {env : DEnv} {σ : St} {H : Hp} (h : EnvOk fx H0 env σ H) : ∀ b, fx b ∨ own env σ b → ∃ o, H b = some o := fun b z => h.lims [] b (zaeu b z)
noncomputable def Yl (A0 : Addr → Prop) (H1 : Hp) (J : It) (ds : List PyData) : Prop := ∀ (A : Addr → Prop) (H' : Hp), (∀ b, A b → ∃ o, H' b = some o) → Same (Offs A0 H1) (Offs A H') →
  (∀ i d, ds[i]? = some d → J.go i H' ∧ ∀ x H'', J.yld i H' x H'' → Same H' H'' ∧ Rp (Offs A H'') d x) ∧ J.stop ds.length H'
noncomputable abbrev IF' := DEnv → Option (List PyData × List Nat)
noncomputable def SI (wi : TI) (f : IF') : Prop := ∀ (fx : Addr → Prop) (H0 : Hp) (env : DEnv) (σ : St) (H : Hp), EnvOk fx H0 env σ H → ∀ ds bs, f env = some (ds, bs) → ∀ R : It → Hp → Prop,
  (∀ J H1, Same H H1 → Yl (fun b => fx b ∨ own (frzs env bs) σ b) H1 J ds → R J H1) → wi σ H R
noncomputable def iSeq (K : PySem.W.Frag) (te : TE) : TI := fun σ H R => te σ H fun x H1 => ∃ a, x = .ref a ∧ ((∃ xs, SqL K H1 a xs) ∧ R (Itl K a) H1 ∨ (∃ xs, SqT K H1 a xs) ∧ R (Itt K a) H1)
theorem zain {X : Cx} {tg l : Expr} {tl : TE} (hl : PE X l tl) : PI X tg l (iSeq X.K tl) := by
  intro pins s σ H R I h
  refine thn (hl pins s σ H _ I h) fun v s1 ⟨x, H1, I1, r1, q1⟩ => ?_
  obtain ⟨a, e, q⟩ := q1
  subst e
  cases r1
  rcases q with ⟨⟨xs, hq⟩, q⟩ | ⟨⟨xs, hq⟩, q⟩
  · obtain ⟨its, rv, p, hz⟩ := I1.list hq
    refine wpAny_pyIter_list p.isList ?_
    refine ⟨s1.heap.objs.size, [s1.heap.objs.size], _, _, H1, rfl, I1.kept (t' := s1.toks) fun b o e => Heap.get?_push_of_some _ e, zpp a _, ⟨_, Heap.get?_push_size _ rfl, rfl, rfl⟩, fun b hb => ?_, q⟩
    have e : b = s1.heap.objs.size := by simpa using hb
    subst e
    exact I1.fpOk (Nat.le_refl _) (I1.hok.fresh (Nat.le_refl _))
  · obtain ⟨its, rv, p, hz⟩ := I1.tuple hq
    refine wpAny_pyIter_tuple (show s1.heap.IsTuple a its.toArray from p) ?_
    refine ⟨s1.heap.objs.size, [s1.heap.objs.size], _, _, H1, rfl, I1.kept (t' := s1.toks) fun b o e => Heap.get?_push_of_some _ e, zuv a _, ⟨_, Heap.get?_push_size _ rfl, rfl, rfl⟩, fun b hb => ?_, q⟩
    have e : b = s1.heap.objs.size := by simpa using hb
    subst e
    exact I1.fpOk (Nat.le_refl _) (I1.hok.fresh (Nat.le_refl _))
theorem zafc {X : Cx} {K : PySem.W.Frag} (hK : X.K = K) {tg l : Expr} {tl : TE} (hl : PE X l tl) : PI X tg l (iSeq K tl) := by subst hK; exact zain hl
noncomputable def zgc (f : EF) : IF' := fun env => (f env).bind fun r => (zit r.d).map fun ds => (ds, r.bs)
theorem zafd {K : PySem.W.Frag} {A0 : Addr → Prop} {H1 : Hp} {a : Addr} {ds : List PyData} {xs : List V} (h : Offs A0 H1 a = some (.lst xs)) (r : Rps (Offs A0 H1) ds xs) : Yl A0 H1 (Itl K a) ds := by
  intro A H' hA s
  have ha := zdw (s _ _ h)
  have r' := Rps.same s _ r
  refine ⟨fun i d e => ?_, ⟨xs, SqL.of ha, by rw [r.length]; exact Nat.le_refl _⟩⟩
  obtain ⟨v, hv, rv⟩ := r'.get2 e
  refine ⟨⟨xs, v, SqL.of ha, hv⟩, fun x H'' y => ?_⟩
  obtain ⟨rfl, y⟩ := y
  have := y xs (SqL.of ha)
  rw [hv] at this
  cases this
  exact ⟨Same.refl _, rv⟩
theorem zaio {K : PySem.W.Frag} {A0 : Addr → Prop} {H1 : Hp} {a : Addr} {ds : List PyData} {xs : List V} (h : Offs A0 H1 a = some (.tup xs)) (r : Rps (Offs A0 H1) ds xs) : Yl A0 H1 (Itt K a) ds := by
  intro A H' hA s
  have ha := zdw (s _ _ h)
  have r' := Rps.same s _ r
  refine ⟨fun i d e => ?_, ⟨xs, SqT.of ha, by rw [r.length]; exact Nat.le_refl _⟩⟩
  obtain ⟨v, hv, rv⟩ := r'.get2 e
  refine ⟨⟨xs, v, SqT.of ha, hv⟩, fun x H'' y => ?_⟩
  obtain ⟨rfl, y⟩ := y
  have := y xs (SqT.of ha)
  rw [hv] at this
  cases this
  exact ⟨Same.refl _, rv⟩
theorem zua {K : PySem.W.Frag} {te : TE} {f : EF} (h1 : SE te f) : SI (iSeq K te) (zgc f) := by
  intro fx H0 env σ H h ds bs e R q
  unfold zgc at e
  obtain ⟨⟨d, fr, bs'⟩, er, e⟩ := Option.bind_eq_some_iff.mp e
  obtain ⟨es, he, e⟩ := Option.map_eq_some_iff.mp e
  cases e
  refine h1 fx H0 env σ H h _ er _ fun v H1 s hv => ?_
  have rp := Rp.same (Offs.sub (zgb (bs := bs'))) _ hv.rp
  cases d with
  | list ds =>
    cases he
    obtain ⟨a, xs, rfl, ha, r⟩ := zcy rp
    exact ⟨a, rfl, .inl ⟨⟨xs, SqL.of (zdw ha)⟩, q _ H1 s (zafd ha r)⟩⟩
  | tuple ds =>
    cases he
    obtain ⟨a, xs, rfl, ha, r⟩ := zdb rp
    exact ⟨a, rfl, .inr ⟨⟨xs, SqT.of (zdw ha)⟩, q _ H1 s (zaio ha r)⟩⟩
  | _ => cases he
noncomputable def zta (ds : List PyData) : List PyData := ds.zipIdx.map fun p => .tuple [.int p.2, p.1]
noncomputable def ziu (f : AF) : IF' := fun env => (f env).bind fun rs => match rs with
  | [r] => match r.d with
    | .list ds => some (zta ds, r.bs)
    | _ => none
  | _ => none
noncomputable def zlt (lo : Int) (n : Nat) : List PyData := (List.range n).map fun (k : Nat) => .int (lo + (k : Int))
theorem zabf {A0 : Addr → Prop} {H1 : Hp} {lo : Int} {n : Nat} : Yl A0 H1 (Itr lo n) (zlt lo n) := by
  intro A H' hA s
  have hl : (zlt lo n).length = n := by unfold zlt; simp
  refine ⟨fun i d e => ?_, by rw [hl]; exact Nat.le_refl _⟩
  unfold zlt at e
  rw [List.getElem?_map] at e
  by_cases hi : i < n
  · rw [List.getElem?_range hi] at e
    cases e
    exact ⟨hi, fun x H'' ⟨e1, e2⟩ => by subst e1; subst e2; exact ⟨Same.refl _, zab⟩⟩
  · rw [List.getElem?_eq_none (by simpa using hi)] at e
    cases e
noncomputable def zgv (f : AF) : IF' := fun env => (f env).bind fun rs => match rs with
  | [⟨.int j, _, _⟩] => if -(2 ^ 62) ≤ j ∧ j < 2 ^ 62 then some (zlt 0 j.toNat, []) else none
  | _ => none
theorem zlu {ta : TA} {f : AF} (h1 : SA ta f) : SI (iRng1 ta) (zgv f) := by
  intro fx H0 env σ H h ds bs e R q
  unfold zgv at e
  obtain ⟨rs, er, e⟩ := Option.bind_eq_some_iff.mp e
  split at e
  · split at e
    · rename_i hj
      cases e
      refine h1 fx H0 env σ H h _ er _ fun vs H1 s hv => ?_
      cases hv with
      | cons hv t =>
        cases t
        cases zct hv.rp
        exact ⟨_, rfl, hj.1, hj.2, q _ H1 s zabf⟩
    · cases e
  · cases e
noncomputable def forL (g : GT) (body : SF) : List PyData → DEnv → Option Out
  | [], env => some (.nx env)
  | d :: ds, env => (g d env).bind fun e1 => (body e1).bind fun o => match o with
    | .nx e2 => forL g body ds e2
    | .ct e2 => forL g body ds e2
    | .bk e2 => some (.nx e2)
    | .rt d fr => some (.rt d fr)
noncomputable def sFor (f : IF') (g : GT) (body : SF) : SF := fun env => (f env).bind fun z => forL g body z.1 (frzs env z.2)
theorem zlv {wi : TI} {g : TG} {tb : TS} {f : IF'} {gf : GT} {body : SF} (h1 : SI wi f) (h2 : SG g gf) (h3 : SS tb body) : SS (tFor wi g tb) (sFor f gf body) := by
  intro fx H0 env σ H D h o e q
  unfold sFor at e
  obtain ⟨⟨ds, bs⟩, er, e⟩ := Option.bind_eq_some_iff.mp e
  refine h1 fx H0 env σ H h ds bs er _ fun J H1 s yl => ?_
  have hE := (h.up s).frzs bs
  have fl := hE.floor
  refine ⟨fun i m σ' H' => m = ds.length - i ∧ i ≤ ds.length ∧ ∃ env', forL gf body (ds.drop i) env' = some o ∧ EnvOk fx (Offs (own (frzs env bs) σ) H1) env' σ' H', ⟨ds.length, rfl, Nat.zero_le _, _, e, hE.rebase⟩, ?_⟩
  rintro i m σ' H' ⟨rfl, hi, env', e', h'⟩
  obtain ⟨yi, ys⟩ := yl _ H' h'.all h'.seen
  by_cases hlt : i < ds.length
  · obtain ⟨yg, yy⟩ := yi i ds[i] (List.getElem?_eq_getElem hlt)
    refine .inr ⟨yg, fun σ'' H'' => i + 1 ≤ ds.length ∧ ∃ env'', forL gf body (ds.drop (i + 1)) env'' = some o ∧ EnvOk fx (Offs (own (frzs env bs) σ) H1) env'' σ'' H'', ?_, ?_⟩
    · rintro σ'' H'' ⟨hle, env'', e'', h''⟩
      exact ⟨ds.length - (i + 1), by omega, rfl, hle, env'', e'', h''⟩
    · intro x H'' hy
      obtain ⟨sy, ry⟩ := yy x H'' hy
      rw [List.drop_eq_getElem_cons hlt] at e'
      obtain ⟨e1, ee1, e'⟩ := Option.bind_eq_some_iff.mp e'
      obtain ⟨o1, eo1, e'⟩ := Option.bind_eq_some_iff.mp e'
      refine h2 fx _ env' σ' H'' _ x (h'.up sy) ry e1 ee1 _ fun σ2 h2' => h3 fx _ e1 σ2 H'' _ h2' o1 eo1 ?_
      cases o1 with
      | nx e2 => exact fun σ3 H3 hh => ⟨hlt, e2, e', hh⟩
      | ct e2 => exact fun σ3 H3 hh => ⟨hlt, e2, e', hh⟩
      | bk e2 => cases e'; exact fun σ3 H3 hh => q σ3 H3 (hh.unbase fl)
      | rt d fr => cases e'; exact fun v H3 sh rt => q v H3 (fl.trans sh) (rt.unbase fl)
  · have hi' : i = ds.length := by omega
    subst hi'
    rw [List.drop_length] at e'
    cases e'
    exact .inl ⟨ys, q σ' H' (h'.unbase fl)⟩
noncomputable def ziv (n : Nat) (ds : List PyData) : DEnv := ds.map .pl ++ List.replicate (n - ds.length) .no
noncomputable def fnD (n : Nat) (f : SF) : GF := fun ds => match f (ziv n ds) with
  | some (.rt d fr) => some (d, fr)
  | some (.nx _) => some (.none, false)
  | _ => none
theorem zqk {ds : List PyData} {n i : Nat} {sl : Sl} (e : (ziv n ds)[i]? = some sl) : (∃ d, ds[i]? = some d ∧ sl = .pl d) ∨ sl = .no := by
  unfold ziv at e
  by_cases hi : i < ds.length
  · rw [List.getElem?_append_left (by simpa using hi), List.getElem?_map, List.getElem?_eq_getElem hi] at e
    cases e
    exact .inl ⟨_, List.getElem?_eq_getElem hi, rfl⟩
  · rw [List.getElem?_append_right (by simpa using hi), List.getElem?_replicate] at e
    split at e
    · cases e; exact .inr rfl
    · cases e
theorem zhs {fx : Addr → Prop} {H : Hp} {N : List Str} {ds : List PyData} {vs : List V} (hf : ∀ b, fx b → ∃ o, H b = some o) (r : Rps (Offs fx H) ds vs) : EnvOk fx H (ziv N.length ds) (zjc N vs) H := by
  have no : ∀ (i : Nat) (d : PyData), (ziv N.length ds)[i]? ≠ some (Sl.ac d) := fun i d e => by
    rcases zqk e with ⟨d', _, z⟩ | z <;> cases z
  refine ⟨?_, fun i d e => ?_, fun i d e => absurd e (no i d), fun i j d e a h1 => absurd h1 (no i d), Same.refl _, hf⟩
  · unfold ziv zjc
    rw [List.length_append, List.length_append, List.length_map, List.length_map, List.length_replicate, List.length_replicate, r.length]
  · rcases zqk e with ⟨d', hd, z⟩ | z
    · cases z
      obtain ⟨v, hv, rv⟩ := r.get2 hd
      refine ⟨v, ?_, Rp.same (Offs.sub fun b z => ?_) _ rv⟩
      · unfold zjc
        have hi : i < vs.length := (List.getElem?_eq_some_iff.mp hv).1
        rw [List.getElem?_append_left (by simpa using hi), List.getElem?_map, hv]; rfl
      · rcases z with z | ⟨j, d', z, _⟩
        · exact z
        · exact absurd z (no j d')
    · cases z
theorem fn_d {N : List Str} {n : Nat} {f : SF} {t : TS} (hs : SS t f) {vs : List V} {H : Hp} {Q : VK} {E : XK} (h : spD n (fnD N.length f) vs H Q E) : t { nx := fun _ H' => Q .non H', rt := Q } (zjc N vs) H := by
  obtain ⟨fx, ds, d, fr, hn, hf, r, g, k⟩ := h
  unfold fnD at g
  split at g
  · rename_i d' fr' eo
    cases g
    exact hs fx H _ _ H _ (zhs hf r) _ eo fun v H' s rt => k v H' s rt
  · rename_i e' eo
    cases g
    exact hs fx H _ _ H _ (zhs hf r) _ eo fun σ H' hE => k .non H' hE.base ⟨zem, fun z => by cases z⟩
  · cases g
theorem zec {n : Nat} {g : GF} {vs : List V} {H : Hp} {Q : VK} {E : XK} (h : spD n g vs H Q E) : vs.length = n := by
  obtain ⟨fx, ds, d, fr, hn, hf, r, _⟩ := h
  rw [← r.length]; exact hn
end L2
namespace L2
open PySem PySem.Spec PyProof.Rows
noncomputable def zafe : Sl → Sl
  | .ac d => .pl d
  | s => s
noncomputable def envB (own : List Str) (fr : List Nat) (env : DEnv) : DEnv := own.map (fun _ => Sl.no) ++ fr.map (fun j => zafe (env.getD j .no))
noncomputable def isAc : Option Sl → Bool
  | some (.ac _) => true
  | _ => false
noncomputable def capA (fr : List Nat) (env : DEnv) : List Nat := fr.filter fun j => isAc env[j]?
theorem zub {own : List Str} {fr : List Nat} {env : DEnv} {i : Nat} {d : PyData} (e : (envB own fr env)[i]? = some (.pl d)) : ∃ j k, i = own.length + k ∧ fr[k]? = some j ∧ (env[j]? = some (.pl d) ∨ env[j]? = some (.ac d)) := by
  unfold envB at e
  by_cases hi : i < own.length
  · rw [List.getElem?_append_left (by simpa using hi), List.getElem?_map, List.getElem?_eq_getElem hi] at e
    cases e
  · rw [List.getElem?_append_right (by simpa using hi), List.length_map, List.getElem?_map] at e
    cases ej : fr[i - own.length]? with
    | none => rw [ej] at e; cases e
    | some j =>
      rw [ej] at e
      refine ⟨j, i - own.length, by omega, ej, ?_⟩
      have e : zafe (env.getD j .no) = .pl d := Option.some.inj e
      rw [List.getD_eq_getElem?_getD] at e
      cases ev : env[j]? with
      | none => rw [ev] at e; cases e
      | some s =>
        rw [ev] at e
        cases s with
        | no => cases e
        | pl d' => cases e; exact .inl rfl
        | ac d' => cases e; exact .inr rfl
theorem zkg {own : List Str} {fr : List Nat} {env : DEnv} {i : Nat} {d : PyData} : (envB own fr env)[i]? ≠ some (.ac d) := by
  intro e
  unfold envB at e
  by_cases hi : i < own.length
  · rw [List.getElem?_append_left (by simpa using hi), List.getElem?_map, List.getElem?_eq_getElem hi] at e
    cases e
  · rw [List.getElem?_append_right (by simpa using hi), List.length_map, List.getElem?_map] at e
    cases ej : fr[i - own.length]? with
    | none => rw [ej] at e; cases e
    | some j =>
      rw [ej] at e
      have e : zafe (env.getD j .no) = .ac d := Option.some.inj e
      cases ev : env.getD j .no with
      | no => rw [ev] at e; cases e
      | pl d' => rw [ev] at e; cases e
      | ac d' => rw [ev] at e; cases e
theorem zxe {own : List Str} {fr : List Nat} {σ : St} {k j : Nat} {v : V} (hk : fr[k]? = some j) (hv : σ[j]? = some (some v)) : (tau own fr σ)[own.length + k]? = some (some v) := by
  unfold tau
  rw [List.getElem?_append_right (by simp), List.length_map, Nat.add_sub_cancel_left, List.getElem?_map, hk]
  show some (σ.getD j none) = _
  rw [List.getD_eq_getElem?_getD, hv]; rfl
theorem zxf {fx : Addr → Prop} {H0 : Hp} {env : DEnv} {σ : St} {H H1 : Hp} {p : Addr} (h : EnvOk fx H0 env σ H) (s : Same H H1) (hp : H1 p = none) (own : List Str) (fr : List Nat) (bs : List Nat) :
    EnvOk (fun b => lim fx env σ (bs ++ capA fr env) b ∨ b = p) H1 (envB own fr env) (tau own fr σ) (upd H1 p (.lst [])) := by
  have h1 := h.up s
  have sp : Same H1 (upd H1 p (.lst [])) := Same.new hp
  have so : Same (Offs (fun b => fx b ∨ L2.own env σ b) H1) (Offs (fun b => (lim fx env σ (bs ++ capA fr env) b ∨ b = p) ∨ L2.own (envB own fr env) (tau own fr σ) b) (upd H1 p (.lst []))) := Offs.mono sp fun b o e n z => by
    rcases z with (z | z) | ⟨i, d, z, _⟩
    · exact n (zoj b z)
    · rw [z, hp] at e; cases e
    · exact absurd z zkg
  refine ⟨?_, fun i d e => ?_, fun i d e => absurd e zkg, fun i j d e a z => absurd z zkg, sp, fun b z => ?_⟩
  · unfold envB tau; simp
  · obtain ⟨j, k, rfl, hk, hj⟩ := zub e
    rcases hj with hj | hj
    · obtain ⟨v, h2, h3⟩ := h1.pl j d hj
      exact ⟨v, zxe hk h2, Rp.same so _ h3⟩
    · obtain ⟨a, h2, h3, h4, h5⟩ := h1.ac j d hj
      refine ⟨_, zxe hk h2, h5.rp so fun o eo => ?_⟩
      rw [Offs.get]
      · exact sp _ _ eo
      · rintro ((z | ⟨i', d', z1, z2, z3⟩) | ⟨i', d', z, _⟩)
        · rcases z with z | ⟨i', d', z1, z2, z3⟩
          · exact h4 z
          · have e2 := h1.inj i' j d' d a z2 hj z3 h2
            subst e2
            refine z1 (List.mem_append_right _ (List.mem_filter.mpr ⟨List.mem_of_getElem? hk, ?_⟩))
            rw [hj]; rfl
        · rw [hp] at eo; cases eo
        · exact absurd z zkg
  · rcases z with z | z
    · obtain ⟨o, e⟩ := h1.lims _ b z; exact ⟨o, sp b o e⟩
    · rw [z]; exact ⟨_, zau⟩
theorem EnvOk.weaken {fx : Addr → Prop} {H0 : Hp} {env e1 : DEnv} {σ : St} {H : Hp} (h : EnvOk fx H0 e1 σ H) (hl : env.length = e1.length) (hp : ∀ (i : Nat) (d : PyData), env[i]? = some (.pl d) → e1[i]? = some (.pl d)) (ha : ∀ (i : Nat) (d : PyData), env[i]? ≠ some (.ac d)) : EnvOk fx H0 env σ H := by
  refine ⟨hl.trans h.len, fun i d e => ?_, fun i d e => absurd e (ha i d), fun i j d e a z => absurd z (ha i d), h.base, h.fxs⟩
  obtain ⟨v, h1, h2⟩ := h.pl i d (hp i d e)
  exact ⟨v, h1, Rp.same (Offs.sub fun b z => z.imp (fun y => y) fun ⟨j, d', z, _⟩ => absurd z (ha j d')) _ h2⟩
theorem EnvOk.updFx {fx : Addr → Prop} {H0 : Hp} {env : DEnv} {σ : St} {H : Hp} {p : Addr} {o : HO} (h : EnvOk fx H0 env σ H) (hp : fx p) (h0 : H0 p = none) : EnvOk fx H0 env σ (upd H p o) := by
  have so : Offs (fun b => fx b ∨ own env σ b) (upd H p o) = Offs (fun b => fx b ∨ own env σ b) H := Offs.upd (.inl hp)
  refine ⟨h.len, fun i d e => ?_, fun i d e => ?_, h.inj, fun b u e => by rw [zay (zbz e h0)]; exact h.base b u e, fun b z => ?_⟩
  · rw [so]; exact h.pl i d e
  · obtain ⟨a, h1, h2, h3, h4⟩ := h.ac i d e
    rw [so]
    exact ⟨a, h1, h2, h3, h4.same (Same.refl _) fun u z => by rw [zay fun y => h3 (by rw [y]; exact hp)]; exact z⟩
  · by_cases e : b = p
    · rw [e]; exact ⟨_, zau⟩
    · obtain ⟨u, hu⟩ := h.fxs b z
      exact ⟨u, by rw [zay e]; exact hu⟩
noncomputable def GX (n : Nat) (g : GT) : Prop := ∀ d env e1, g d env = some e1 → e1.length = env.length ∧ ∀ i, n ≤ i → e1[i]? = env[i]?
noncomputable def GXs (n : Nat) (g : GTs) : Prop := ∀ ds env e1, g ds env = some e1 → e1.length = env.length ∧ ∀ i, n ≤ i → e1[i]? = env[i]?
theorem zxg {n i : Nat} (h : i < n) : GX n (gN i) := by
  intro d env e1 e
  cases e
  exact ⟨List.length_set, fun j hj => List.getElem?_set_ne (by omega)⟩
theorem ztb {n : Nat} : GXs n zfs := by
  intro ds env e1 e
  cases ds with
  | nil => cases e; exact ⟨rfl, fun _ _ => rfl⟩
  | cons _ _ => cases e
theorem zij {n i : Nat} {g : GTs} (h : i < n) (hg : GXs n g) : GXs n (zbe i g) := by
  intro ds env e1 e
  cases ds with
  | nil => cases e
  | cons d ds =>
    obtain ⟨h1, h2⟩ := hg ds _ e1 e
    rw [List.length_set] at h1
    exact ⟨h1, fun j hj => (h2 j hj).trans (List.getElem?_set_ne (by omega))⟩
theorem zxh {n m : Nat} {g : GTs} (hg : GXs n g) : GX n (gT m g) := by
  intro d env e1 e
  unfold gT at e
  cases d with
  | tuple ds =>
    have e : (if ds.length = m then g ds env else none) = some e1 := e
    split at e
    · exact hg ds env e1 e
    · cases e
  | _ => cases e
noncomputable def zjf (g : GT) (t : TF) (e : EF) (env : DEnv) : List PyData → Option (List PyData)
  | [] => some []
  | d :: ds => (g d env).bind fun e1 => (t e1).bind fun b => if b = true then (e e1).bind fun r => (zjf g t e env ds).map fun rs => r.d :: rs else zjf g t e env ds
noncomputable def zkh (own : List Str) (fr : List Nat) (fi : IF') (g : GT) (t : TF) (e : EF) : EF := fun env => (fi env).bind fun z => if z.1.length < 100000 then
  (zjf g t e (envB own fr env) z.1).map fun rs => ⟨.list rs, true, if zey rs = true then [] else z.2 ++ capA fr env⟩ else none
theorem zql {H H' : Hp} {ds : List PyData} {vs : List V} (f : zey ds = true) (h : Rps H ds vs) : Rps H' ds vs := by
  replace h := zca.mp h
  induction h with
  | nil => exact zdo
  | cons h _ ih =>
    unfold zey at f
    rw [List.all_cons, Bool.and_eq_true] at f
    exact zcr (zkc f.1 h) (ih f.2)
theorem zlw {own : List Str} {fr : List Nat} {wi : TI} {g : TG} {tt : TT} {te : TE} {fi : IF'} {gf : GT} {t : TF} {e : EF} (h1 : SI wi fi) (h2 : SG g gf) (hx : GX own.length gf) (h3 : ST tt t) (h4 : SE te e) :
    SE (tComp1 wi g tt te own fr) (zkh own fr fi gf t e) := by
  intro fx H0 env σ H h rr hr Q q
  unfold zkh at hr
  obtain ⟨⟨ds, bs⟩, ei, hr⟩ := Option.bind_eq_some_iff.mp hr
  split at hr
  · rename_i hlen
    have hlen : ds.length < 100000 := hlen
    obtain ⟨rs, ers, rfl⟩ := Option.map_eq_some_iff.mp hr
    refine h1 fx H0 env σ H h ds bs ei _ fun J H1 s yl => fun p hp => ?_
    have hB := zxf h s hp own fr bs
    generalize hA : (fun b => lim fx env σ (bs ++ capA fr env) b) = A
    have hA' : ∀ b, lim fx env σ (bs ++ capA fr env) b ↔ A b := fun b => by rw [← hA]
    have eA : (fun b => lim fx env σ (bs ++ capA fr env) b ∨ b = p) = fun b => A b ∨ b = p := by rw [← hA]
    rw [eA] at hB
    have nA : ¬ A p := fun z => by
      obtain ⟨o, eo⟩ := (h.up s).lims _ p ((hA' p).mpr z)
      rw [hp] at eo; cases eo
    have seen : ∀ {σ' : St} {H' : Hp}, EnvOk (fun b => A b ∨ b = p) H1 (envB own fr env) σ' H' → Same (Offs (fun b => fx b ∨ L2.own (frzs env bs) σ b) H1) (Offs (fun b => A b ∨ b = p) H') := fun {σ' H'} hE => Offs.mono hE.base fun b o eo n z => by
      rcases z with z | z
      · rcases (hA' b).mpr z with z | ⟨i, d, z1, z2, z3⟩
        · exact n (.inl z)
        · exact n (.inr ⟨i, d, zli (fun y => z1 (List.mem_append_left _ y)) z2, z3⟩)
      · rw [z, hp] at eo; cases eo
    refine ⟨fun i m σ' H' => m = ds.length - i ∧ i ≤ ds.length ∧ ∃ vs done rest, H' p = some (.lst vs) ∧ Rps (Offs (fun b => A b ∨ b = p) H') done vs ∧ done.length ≤ i ∧ zjf gf t e (envB own fr env) (ds.drop i) = some rest ∧ done ++ rest = rs ∧ EnvOk (fun b => A b ∨ b = p) H1 (envB own fr env) σ' H',
      ⟨ds.length, rfl, Nat.zero_le _, [], [], rs, zau, zdo, Nat.zero_le _, ers, rfl, hB⟩, ?_⟩
    rintro i m σ' H' ⟨rfl, hi, vs, done, rest, ep, rd, dl, ec, edr, hE⟩
    obtain ⟨yi, ys⟩ := yl _ H' hE.fxs (seen hE)
    by_cases hlt : i < ds.length
    · obtain ⟨yg, yy⟩ := yi i ds[i] (List.getElem?_eq_getElem hlt)
      refine .inr ⟨yg, fun σ'' H'' => i + 1 ≤ ds.length ∧ ∃ vs done rest, H'' p = some (.lst vs) ∧ Rps (Offs (fun b => A b ∨ b = p) H'') done vs ∧ done.length ≤ i + 1 ∧ zjf gf t e (envB own fr env) (ds.drop (i + 1)) = some rest ∧ done ++ rest = rs ∧ EnvOk (fun b => A b ∨ b = p) H1 (envB own fr env) σ'' H'', ?_, ?_⟩
      · rintro σ'' H'' ⟨hle, hh⟩
        exact ⟨ds.length - (i + 1), by omega, rfl, hle, hh⟩
      · intro x H'' hy
        obtain ⟨sy, ry⟩ := yy x H'' hy
        rw [List.drop_eq_getElem_cons hlt] at ec
        obtain ⟨e1, ee1, ec⟩ := Option.bind_eq_some_iff.mp ec
        obtain ⟨b, eb, ec⟩ := Option.bind_eq_some_iff.mp ec
        have ry' : Rp (Offs (fun a => (A a ∨ a = p) ∨ L2.own (envB own fr env) σ' a) H'') ds[i] x := Rp.same (Offs.sub fun b z => z.elim (fun y => y) fun ⟨j, d', z, _⟩ => absurd z zkg) _ ry
        refine h2 _ H1 (envB own fr env) σ' H'' _ x (hE.up sy) ry' e1 ee1 _ fun σ2 hE2 => ?_
        refine h3 _ H1 e1 σ2 H'' hE2 b eb _ fun H3 s3 => ?_
        have hE3 := hE2.up s3
        obtain ⟨gl, gk⟩ := hx _ _ _ ee1
        have back : ∀ {H4 : Hp}, EnvOk (fun b => A b ∨ b = p) H1 e1 σ2 H4 → EnvOk (fun b => A b ∨ b = p) H1 (envB own fr env) σ2 H4 := fun {H4} hh => hh.weaken gl.symm (fun j d' ej => by
          by_cases hj : own.length ≤ j
          · rw [gk j hj]; exact ej
          · obtain ⟨_, k, rfl, _⟩ := zub ej; omega) fun j d' => zkg
        cases b with
        | false =>
          have ec : zjf gf t e (envB own fr env) (ds.drop (i + 1)) = some rest := ec
          exact iteF ⟨hlt, vs, done, rest, s3 _ _ (sy _ _ ep), Rps.same (Offs.grow (sy.trans s3)) _ rd, Nat.le_succ_of_le dl, ec, edr, back hE3⟩
        | true =>
          have ec : ((e e1).bind fun r => (zjf gf t e (envB own fr env) (ds.drop (i + 1))).map fun rs => r.d :: rs) = some rest := ec
          obtain ⟨r, er, ec⟩ := Option.bind_eq_some_iff.mp ec
          obtain ⟨rest', er', rfl⟩ := Option.map_eq_some_iff.mp ec
          refine iteT (h4 _ H1 e1 σ2 H3 hE3 r er _ fun v H4 s4 hv => ?_)
          have t4 := (sy.trans s3).trans s4
          refine ⟨vs, t4 _ _ ep, zok (by rw [← rd.length]; omega), hlt, vs ++ [v], done ++ [r.d], rest', zau, ?_, by rw [List.length_append]; simp; omega, er', by rw [← edr]; simp, (back (hE3.up s4)).updFx (.inr rfl) hp⟩
          rw [Offs.upd (.inr rfl)]
          exact (Rps.same (Offs.grow t4) _ rd).append (zcr (Rp.same (Offs.sub fun b z => .inl z) _ hv.rp) zdo)
    · have hi' : i = ds.length := by omega
      subst hi'
      rw [List.drop_length] at ec
      cases ec
      rw [List.append_nil] at edr
      subst edr
      refine .inl ⟨ys, q _ H' (s.trans hE.base) ⟨?_, fun _ => ⟨p, rfl, s.free hp, ?_⟩⟩⟩
      · show Rp (Offs (lim fx env σ (if zey done = true then [] else bs ++ capA fr env)) H') (.list done) (.ref p)
        have nl : ∀ cs, ¬ lim fx env σ cs p := fun cs z => by
          obtain ⟨o, eo⟩ := (h.up s).lims _ p z
          rw [hp] at eo; cases eo
        refine zii (by rw [Offs.get (nl _)]; exact ep) ?_
        split
        · rename_i f; exact zql f rd
        · exact Rps.same (Offs.sub fun b z => .inl ((hA' b).mp z)) _ rd
      · show zgt (Offs (fun b => lim fx env σ (if zey done = true then [] else bs ++ capA fr env) b ∨ b = p) H') H' p (.list done)
        refine ⟨vs, ep, ?_⟩
        split
        · rename_i f; exact zql f rd
        · exact Rps.same (Offs.sub fun b z => z.imp (hA' b).mp id) _ rd
  · cases hr
end L2
namespace L2
open PySem PySem.Spec PyProof.Rows
section
variable {X : Cx} {K : PySem.W.Frag}
theorem zxi (hK : X.K = K) {a : Expr} {ta : TE} (ha : PE X a ta) (he : ∀ whole, isTrue a X.env whole = (do let v ← whole; standAt a.pos; holding [v] (truthy v))) :
    PT X a (fun σ H Q => ta σ H fun x H' => ∃ k, TruV K x H' k ∧ Q k H') := by subst hK; exact zaai ha he
theorem zlx (hK : X.K = K) : CallR X (.type "tuple") (fun xs H Q => ∃ p ys, xs = [.ref p] ∧ ((SqL K H p ys ∧ ∀ l, H l = none → Q (.ref l) (upd H l (.tup ys))) ∨ (SqT K H p ys ∧ Q (.ref p) H))) := by subst hK; exact zod
theorem zfb (hK : X.K = K) (hu : X.A.units + 64 < cLine) : OpR X (compareOp .Eq) (fun x y H Q => rEq x y H Q ∨ rEqD K false x y H Q) := by subst hK; exact zakl.or (zaih hu)
theorem zuc (hK : X.K = K) (hu : X.A.units + 64 < cLine) : OpR X (compareOp .NotEq) (fun x y H Q => rNe x y H Q ∨ rEqD K true x y H Q) := by subst hK; exact zakm.or (zaii hu)
noncomputable def zki : TF := fun _ => some true
theorem zud : ST tAll zki := by
  intro fx H0 env σ H hE b hb Q q
  cases hb
  exact q H (Same.refl _)
noncomputable def zgk (f g : OF) (a b c : EF) : EF := fun env => (a env).bind fun x => (b env).bind fun y => (f x.d y.d).bind fun z => (asB z.1).bind fun k => if k = true then (c env).bind fun w => (g y.d w.d).bind fun u => if zen u.1 = true then some ⟨u.1, false, []⟩ else none else some ⟨.bool false, false, []⟩
theorem zop {r r' : R2} {f g : OF} {ta tb tc : TE} {fa fb fc : EF} (ho : SO r f) (ho' : SO r' g) (ha : SE ta fa) (hb : SE tb fb) (hc : SE tc fc) : SE (tChain r r' ta tb tc) (zgk f g fa fb fc) := by
  intro fx H0 env σ H h rr hr Q q
  unfold zgk at hr
  obtain ⟨x, ex, hr⟩ := Option.bind_eq_some_iff.mp hr
  obtain ⟨y, ey, hr⟩ := Option.bind_eq_some_iff.mp hr
  obtain ⟨⟨d, fr⟩, ez, hr⟩ := Option.bind_eq_some_iff.mp hr
  obtain ⟨k, ek, hr⟩ := Option.bind_eq_some_iff.mp hr
  refine ha fx H0 env σ H h x ex _ fun v H1 s1 v1 => hb fx H0 env σ H1 (h.up s1) y ey _ fun u H2 s2 v2 => ?_
  have l1 : ∀ b, lim fx env σ (x.bs ++ y.bs) b → lim fx env σ x.bs b := zje fun i hi => List.mem_append_left _ hi
  have l2 : ∀ b, lim fx env σ (x.bs ++ y.bs) b → lim fx env σ y.bs b := zje fun i hi => List.mem_append_right _ hi
  refine ho (lim fx env σ (x.bs ++ y.bs)) H2 v u x.d y.d ((h.up (s1.trans s2)).lims _) (v1.later (Same.refl _) s2 l1).rp (v2.later (Same.refl _) (Same.refl _) l2).rp d fr ez _ fun w H3 s3 rp _ => ⟨k, as_b rp ek, ?_⟩
  have t3 := (s1.trans s2).trans s3
  cases k with
  | false => cases hr; exact iteF (q _ H3 t3 ⟨zam, fun z => by cases z⟩)
  | true =>
    have hr : ((fc env).bind fun w => (g y.d w.d).bind fun u => if zen u.1 = true then some (⟨u.1, false, []⟩ : Val) else none) = some rr := hr
    obtain ⟨w', ew, hr⟩ := Option.bind_eq_some_iff.mp hr
    obtain ⟨⟨d', fr'⟩, ez', hr⟩ := Option.bind_eq_some_iff.mp hr
    split at hr
    · rename_i hf
      cases hr
      refine iteT (hc fx H0 env σ H3 (h.up t3) w' ew _ fun v' H4 s4 v4 => ?_)
      have l3 : ∀ b, lim fx env σ (y.bs ++ w'.bs) b → lim fx env σ y.bs b := zje fun i hi => List.mem_append_left _ hi
      have l4 : ∀ b, lim fx env σ (y.bs ++ w'.bs) b → lim fx env σ w'.bs b := zje fun i hi => List.mem_append_right _ hi
      exact ho' (lim fx env σ (y.bs ++ w'.bs)) H4 u v' y.d w'.d ((h.up (t3.trans s4)).lims _) (v2.later (Same.refl _) (s3.trans s4) l3).rp (v4.later (Same.refl _) (Same.refl _) l4).rp d' fr' ez' _ fun w2 H5 s5 rp5 _ =>
        q w2 H5 ((t3.trans s4).trans s5) ⟨zkc hf rp5, fun z => by cases z⟩
    · cases hr
end
end L2
namespace PySem
open Sem (wp)
end PySem
namespace L2
open PySem PySem.Spec PyProof.Rows
theorem zkt {α β : Type} {F : α → β → Prop} : ∀ {l : List α} {r : List β} {i : Nat} {x : α}, Paired F l r → l[i]? = some x → ∃ y, r[i]? = some y ∧ F x y
  | _, _, _, _, .nil, e => by simp at e
  | _, _, 0, _, .cons h _, e => by simp at e; subst e; exact ⟨_, rfl, h⟩
  | _, _, i + 1, x, .cons _ t, e => by
    obtain ⟨y, h1, h2⟩ := zkt (i := i) (x := x) t (by simpa using e)
    exact ⟨y, by simpa using h1, h2⟩
end L2
namespace L2
open PySem PySem.Spec PyProof.Rows
noncomputable def zacy : List PyData → Option (List (PyData × PyData))
  | [] => some []
  | .tuple [k, v] :: r => (keyD k).bind fun _ => (zacy r).map fun ps => (k, v) :: ps
  | _ => none
noncomputable def zalo : GF
  | [.list rows] => (zacy rows).map fun ps => (.dict (zafa [] ps), true)
  | _ => none
noncomputable def zjg (i j : Nat) (f : EF) : SF := fun env => match env[i]?, env[j]? with
  | some (.ac (.list ds)), some (.ac (.list es)) => (f env).bind fun r => match r.d with
    | .int k => if 0 ≤ k ∧ k < 100000 ∧ ds.length < 100000 ∧ i ≠ j then (es[k.toNat]?).bind fun d => some (.nx ((env.set j (.ac (.list (es.eraseIdx k.toNat)))).set i (.ac (.list (ds ++ [d]))))) else none
    | _ => none
  | _, _ => none
theorem Rps.erase {H : Hp} {ds : List PyData} {vs : List V} (h : Rps H ds vs) (n : Nat) : Rps H (ds.eraseIdx n) (vs.eraseIdx n) := by
  induction n generalizing ds vs with
  | zero =>
    cases ds with
    | nil => unfold Rps at h; subst h; exact zdo
    | cons d ds => unfold Rps at h; obtain ⟨v, ws, rfl, h1, h2⟩ := h; exact h2
  | succ n ih =>
    cases ds with
    | nil => unfold Rps at h; subst h; exact zdo
    | cons d ds => unfold Rps at h; obtain ⟨v, ws, rfl, h1, h2⟩ := h; exact zcr h1 (ih h2)
theorem zxj {K : PySem.W.Frag} {i j : Nat} {te : TE} {f : EF} (h1 : SE te f) : SS (tDrop (tBM K "list" zst (tVar i) (tCons (tBM K "list" zact (tVar j) (tCons te tNil)) tNil))) (zjg i j f) := by
  intro fx H0 env σ H D h o e q
  unfold zjg at e
  split at e
  · rename_i ds es ei ej
    obtain ⟨⟨rd, rfr, rbs⟩, er, e⟩ := Option.bind_eq_some_iff.mp e
    cases rd with
    | int k =>
      have e : (if 0 ≤ k ∧ k < 100000 ∧ ds.length < 100000 ∧ i ≠ j then (es[k.toNat]?).bind fun d => some (Out.nx ((env.set j (.ac (.list (es.eraseIdx k.toNat)))).set i (.ac (.list (ds ++ [d]))))) else none) = some o := e
      split at e
      · rename_i hl
        obtain ⟨d, ed, e⟩ := Option.bind_eq_some_iff.mp e
        cases e
        obtain ⟨a, g1, g2, g3, g4⟩ := h.ac i _ ei
        obtain ⟨xs, hx, rx⟩ := g4
        obtain ⟨b, k1, k2, k3, k4⟩ := h.ac j _ ej
        obtain ⟨ys, hy, ry⟩ := k4
        have hab : a ≠ b := fun z => hl.2.2.2 (h.inj i j _ _ a ei ej g1 (by rw [z]; exact k1))
        refine ⟨_, g1, .inl ⟨rfl, _, SqL.of hx⟩, _, k1, .inl ⟨rfl, _, SqL.of hy⟩, h1 fx H0 env σ H h _ er _ fun v H' s hv => ?_⟩
        cases zct hv.rp
        have h' := h.up s
        have hy' := s _ _ hy
        have hx' := s _ _ hx
        have ry' : Rps (Offs (fun b => fx b ∨ own env σ b) H') es ys := Rps.same (Offs.grow s) _ ry
        have rx' : Rps (Offs (fun b => fx b ∨ own env σ b) H') ds xs := Rps.same (Offs.grow s) _ rx
        obtain ⟨u, hu, ru⟩ := ry'.get2 ed
        have hlt : k.toNat < ys.length := (List.getElem?_eq_some_iff.mp hu).1
        have hsq : seqIndex? k ys.length = some k.toNat := seqIndex_of hl.1 (by omega)
        refine ⟨b, ys, k, k.toNat, u, rfl, rfl, hy', by omega, by omega, hsq, hu, ?_⟩
        have h2 := h'.mut ej k1 (d' := .list (es.eraseIdx k.toNat)) (o := .lst (ys.eraseIdx k.toNat)) ⟨_, zau, ry'.erase _⟩
        have ei2 : (env.set j (.ac (.list (es.eraseIdx k.toNat))))[i]? = some (.ac (.list ds)) := by rw [List.getElem?_set_ne (Ne.symm hl.2.2.2)]; exact ei
        have hx2 : (upd H' b (.lst (ys.eraseIdx k.toNat))) a = some (.lst xs) := by rw [zay hab]; exact hx'
        obtain ⟨a', z1, _, _, z4⟩ := h2.ac i _ ei2
        rw [g1] at z1
        cases z1
        obtain ⟨zs, y1, y2⟩ := z4
        rw [hx2] at y1
        cases y1
        have ow : Same (Offs (fun b => fx b ∨ own env σ b) H') (Offs (fun c => fx c ∨ own (env.set j (.ac (.list (es.eraseIdx k.toNat)))) σ c) (upd H' b (.lst (ys.eraseIdx k.toNat)))) := by
          have t : Same (Offs (fun b => fx b ∨ own env σ b) (upd H' b (.lst (ys.eraseIdx k.toNat)))) (Offs (fun c => fx c ∨ own (env.set j (.ac (.list (es.eraseIdx k.toNat)))) σ c) (upd H' b (.lst (ys.eraseIdx k.toNat)))) := Offs.sub fun c z => z.imp (fun y => y) fun ⟨m, d1, w1, w2⟩ => by
            rcases zcd w1 with ⟨rfl, _⟩ | ⟨_, w1⟩
            · exact ⟨m, _, ej, w2⟩
            · exact ⟨m, d1, w1, w2⟩
          rw [Offs.upd (.inr ⟨j, _, ej, k1⟩)] at t
          exact t
        refine ⟨a, xs, u, rfl, rfl, hx2, zok (by rw [← rx.length]; exact hl.2.2.1), ?_⟩
        exact q σ _ (h2.mut ei2 g1 ⟨_, zau, y2.append (zcr (Rp.same ow _ ru) zdo)⟩)
      · cases e
    | _ => cases e
  · cases e
end L2
namespace L2
open PySem PySem.Spec PyProof.Rows
noncomputable def zaln (i : Nat) (b : EF) : EF := fun env => match env[i]? with
  | some (.pl (.dict kvs)) => (b env).bind fun y => (keyD y.d).bind fun k => (zaez kvs k).bind fun d => some ⟨d, false, []⟩
  | some (.ac (.dict kvs)) => (b env).bind fun y => (keyD y.d).bind fun k => (zaez kvs k).bind fun d => some ⟨d, false, []⟩
  | _ => none
noncomputable def eIxV (i : Nat) (b : EF) : EF := fun env => match env[i]? with
  | some (.ac (.list ds)) => (b env).bind fun y => match y.d with
    | .int k => (atI ds k).map fun d => ⟨d, false, []⟩
    | _ => none
  | _ => eOp ixD (eVar i) b env
theorem zbi {K : PySem.W.Frag} {i : Nat} {tb : TE} {fb : EF} (hb : SE tb fb) : SE (tOp (rIxU K) (tVar i) tb) (eIxV i fb) := by
  intro fx H0 env σ H h rr hr Q q
  unfold eIxV at hr
  split at hr
  · rename_i ds ei
    obtain ⟨⟨dy, fy, bys⟩, ey, hr⟩ := Option.bind_eq_some_iff.mp hr
    cases dy with
    | int k =>
      obtain ⟨d, ed, rfl⟩ := Option.map_eq_some_iff.mp hr
      obtain ⟨a, h1, h2, h3, xs, ha, r⟩ := h.ac i _ ei
      refine ⟨_, h1, hb fx H0 env σ H h _ ey _ fun u H2 s2 v2 => ?_⟩
      cases zct v2.rp
      obtain ⟨v, hv, rv⟩ := (Rps.same (Offs.grow s2) _ r).atI ed
      exact ⟨xs, v, .inl (SqL.of (s2 _ _ ha)), hv, q _ H2 s2 ⟨Rp.same (Offs.sub zoj) _ rv, fun z => by cases z⟩⟩
    | _ => cases hr
  · exact zap zqg (zad i) hb fx H0 env σ H h rr hr Q q
end L2
namespace L2
open PySem PySem.Spec PyProof.Rows
section
variable {X : Cx}
end
end L2
namespace L2
open PySem PySem.Spec PyProof.Rows
end L2
namespace PySem
open Sem (wp)
theorem zgf : plainId "set.update.loop" = true := by decide +kernel
theorem ziw : entryFor table "set.update.loop" = some Builtin.«set.update.loop» := entryFor_of_fast (by kernel_rfl)
theorem zqm : isSubtype (.type "list") (.type "set") = pure false := by rw [isSubtype_type]; kernel_rfl
theorem zoq : isSubtype (.type "list") (.type "frozenset") = pure false := by rw [isSubtype_type]; kernel_rfl
theorem zxk (a : Value) : checkBuiltinCall "set.__new__" ⟨[.type "set", a], []⟩ = pure () := by kernel_rfl
theorem zvf (a : Value) : checkTypeCall "set" ⟨[a], []⟩ = pure () := by kernel_rfl
end PySem
namespace L2
open PySem PySem.Spec PyProof.Rows
instance memKey (k : Key) (l : List Key) : Decidable (k ∈ l) := decidable_of_iff (∃ x, x ∈ l ∧ x = k) ⟨fun ⟨x, h, e⟩ => e ▸ h, fun h => ⟨k, h, rfl⟩⟩
noncomputable def unl (seen : List Key) : List Key → Nat
  | [] => 0
  | k :: ks => (if k ∈ seen then 0 else 1) + unl (k :: seen) ks
theorem zabg {prog : Program} {w : World} {A : Around} {R : Result → Shared → Prop} {d it l : Addr} {h0 : Heap} {items : List Value} {ks : List Key} (hA : A.in1.handled = none)
    (pr : Paired (fun (v : Value) (k : Key) => zny k v = true ∧ v.scannable = true) items ks) (hl : h0.IsList l items.toArray) (hd : h0.get? d = none) (hi : h0.get? it = none) (hdi : d ≠ it) (hz : items.length < 4000) :
    ∀ (k i : Nat) (s : Shared) (seen : List Key) (n : Nat), items.length - i = k → i ≤ items.length → s.heap.IsListIter it l i → s.heap.SetOf (zel prog w) d (fun x => decide (x ∈ seen)) n → (∀ b o, h0.get? b = some o → s.heap.get? b = some o) → n ≤ i →
    (∀ h' tk' S, h'.SetOf (zel prog w) d S (n + unl seen (ks.drop i)) → (∀ b o, h0.get? b = some o → h'.get? b = some o) → R (.ok (.ret .none)) { s with heap := h', toks := tk' }) →
    codeAny (model prog w) A (.builtin "set.update.loop" ⟨[.ref d, .ref it], []⟩) R s := by
  have hlen := pr.length
  have keepL : ∀ {h : Heap}, (∀ b o, h0.get? b = some o → h.get? b = some o) → h.IsList l items.toArray := fun {h} kp => Heap.IsList.at hl fun o e => kp _ o e
  intro k
  induction k with
  | zero =>
    intro i s seen n hk hile hit hdo kp hn hR
    have hin : i = items.length := by omega
    subst hin
    refine codeAny_builtin ziw ?_
    rw [Around.under_plainId zgf _]
    show wpAny _ A.in1 (pyNext (.ref it) >>= _) _ _ s
    refine wpAny_bind (wpAny_pyNext_list_end hA hit (keepL kp) (by simp) fun h' eb => ?_)
    refine wpAny_pure ?_
    refine hR h' s.toks (fun x => decide (x ∈ seen)) ?_ fun b o e => eb b o (fun z => by rw [z, hi] at e; cases e) (kp b o e)
    rw [List.drop_of_length_le (by omega)]
    obtain ⟨o, es, ep, t, q1, q⟩ := hdo
    exact ⟨o, es, ep, t, eb _ _ hdi q1, q⟩
  | succ k ih =>
    intro i s seen n hk hile hit hdo kp hn hR
    have hlt : i < items.length := by omega
    obtain ⟨p, hp, hkey, hsc⟩ := zkt pr (List.getElem?_eq_getElem hlt)
    refine codeAny_builtin ziw ?_
    rw [Around.under_plainId zgf _]
    show wpAny _ A.in1 (pyNext (.ref it) >>= _) _ _ s
    refine wpAny_bind (wpAny_pyNext_list_item hit (keepL kp) (x := items[i]) (by simp [hlt]) fun h1 hit1 sb1 => ?_)
    have kp1 : ∀ b o, h0.get? b = some o → h1.get? b = some o := fun b o e => (sb1.2 b (fun z => by rw [z, hi] at e; cases e)).trans (kp b o e)
    have hd1 : h1.SetOf (zel prog w) d (fun x => decide (x ∈ seen)) n := by
      obtain ⟨o, es, ep, t, q1, q⟩ := hdo
      exact ⟨o, es, ep, t, (sb1.2 d hdi).trans q1, q⟩
    show wpAny _ _ (holding [items[i]] (setAdd d items[i]) >>= _) _ _ _
    refine wpAny_bind (wpAny_holding ?_)
    unfold setAdd
    refine wpAny_holding (wpAny_bind ((zel prog w).pyHash hkey ?_))
    refine wpAny_setAddHashed_of (knd := zel prog w) (k := p) hkey hsc hd1 (by show n + 1 < 4096; omega) fun h2 sb2 hd2 => ?_
    have hit2 : h2.IsListIter it l (i + 1) := by obtain ⟨o, q1, q2, q3⟩ := hit1; exact ⟨o, (sb2.2 _ (Ne.symm hdi)).trans q1, q2, q3⟩
    refine wpAny_pure ⟨plainId_quiet zgf _, ?_⟩
    have kp2 : ∀ b o, h0.get? b = some o → h2.get? b = some o := fun b o e => (sb2.2 b (fun z => by rw [z, hd] at e; cases e)).trans (kp1 b o e)
    have eS : (fun k' => decide (k' ∈ seen) || decide (k' = p)) = fun x => decide (x ∈ p :: seen) := by
      funext x; by_cases h1 : x = p <;> by_cases h2 : x ∈ seen <;> simp [h1, h2]
    rw [eS] at hd2
    refine ih (i + 1) _ (p :: seen) _ (by omega) hlt hit2 hd2 kp2 (by split <;> omega) fun h' tk' S hS kp' => ?_
    refine hR h' tk' S ?_ kp'
    have e : ks.drop i = p :: ks.drop (i + 1) := by
      obtain ⟨hh, e⟩ := List.getElem?_eq_some_iff.mp hp
      rw [← e]; exact List.drop_eq_getElem_cons hh
    rw [e]
    unfold unl
    have : n + ((if p ∈ seen then 0 else 1) + unl (p :: seen) (ks.drop (i + 1))) = (if decide (p ∈ seen) = true then n else n + 1) + unl (p :: seen) (ks.drop (i + 1)) := by
      by_cases h : p ∈ seen <;> simp [h] <;> omega
    rw [this]
    exact hS
theorem zxl {prog : Program} {w : World} {A : Around} {E : Value → Shared → Prop} {s : Shared} (a : Value) {Q₁ : Value → Shared → Prop}
    (h : ∀ led : Bool, Q₁ (.ref s.heap.objs.size) { s with heap := s.heap.push { cls := .type "set", dict := none, data := .set #[] 0 (.fresh 0 0 led) } }) :
    codeAny (model prog w) A (.call (.builtin "set.__new__") ⟨[.type "set", a], []⟩) (wants Q₁ E) s := by
  refine codeAny_call_builtin F.plain_set_new F.entry_set_new (wpAny_of_eq (zxk a) ?_)
  have hsub := sub_set_self
  obtain ⟨hp, g, d, tk, os⟩ := s
  unfold Builtin.«set.__new__» Builtin.Frozenset.newClass
  dsimp only
  wp_walk
  refine wpAny_askSetting (wpAny_pure ?_)
  dsimp only
  simp only [newObj]
  refine wpAny_bind (wpAny_alloc (wpAny_pure ?_))
  exact wpAny_pure (h _)
theorem ztc {M : Model} {A : Around} {E : Value → Shared → Prop} {s : Shared} {self v : Value} {Q : Unit → Shared → Prop} (hT : s.TypeIs self "set") (hQ : Q () s) :
    wpAny M A (checkBuiltinCall "set.__init__" ⟨[self, v], []⟩) Q E s := by
  simp only [checkBuiltinCall, kind_set_init, split_set_init, sig_set_init]
  refine wpAny_bind (wpAny_isInstance hT sub_set_self ?_)
  simp only [Bool.not_true, Bool.false_eq_true, if_false]
  unfold Bind.checkArgs
  dsimp only
  refine wpAny_bind (m := Bind.printed "set" true _ _) (printed_name (by decide) ?_)
  refine wpAny_bind (m := Bind.printed "*" false _ _) (printed_star (self := self) rfl hT fun short => ?_)
  have e : (Manifest.Receiver.self == Manifest.Receiver.none) = false := by decide
  have n : (if (Manifest.Receiver.self == Manifest.Receiver.none) = true then [self, v].length else [self, v].length - 1) = 1 := by simp [e]
  rw [n]
  simp only [List.map_nil]
  have c : Bind.check ⟨.positional, "set", "*", .self, [⟨"iterable", .posOnly, false⟩]⟩ "set" short 1 [] = pure () := by
    first | rfl | kernel_rfl
  rw [c]
  exact wpAny_pure hQ
theorem zaff {prog : Program} {w : World} {h : Heap} {led : Bool} : (h.push { cls := .type "set", dict := none, data := .set #[] 0 (.fresh 0 0 led) }).SetOf (zel prog w) h.objs.size (fun x => decide (x ∈ ([] : List Key))) 0 := by
  refine ⟨_, #[], 0, _, Heap.get?_push_size _ rfl, ⟨rfl, rfl, rfl⟩, rfl, fun e he => ?_, fun k => ?_, by decide, by cases led <;> rfl, rfl⟩
  · simp at he
  · simp
theorem zor {prog : Program} {w : World} {A : Around} {E : Value → Shared → Prop} {s : Shared} {l : Addr} {items : List Value} {ks : List Key} {Q : Value → Shared → Prop} (hA : A.handled = none)
    (pr : Paired (fun (v : Value) (k : Key) => zny k v = true ∧ v.scannable = true) items ks) (hl : s.heap.IsList l items.toArray) (hz : items.length < 4000)
    (h : ∀ h' tk S, h'.SetOf (zel prog w) s.heap.objs.size S (unl [] ks) → (∀ b o, s.heap.get? b = some o → h'.get? b = some o) → Q (.ref s.heap.objs.size) { s with heap := h', toks := tk }) :
    wpAny (model prog w) A (call (.type "set") [.ref l]) Q E s := by
  obtain ⟨c, tl, hmro⟩ := F.called_set.mro
  have hmade := F.called_set.made
  have hsub := F.called_set.sub
  refine wpAny_call (codeAny_of_tree ?_)
  show wpAny _ _ (callAny (.type "set") _) _ _ _
  refine wpAny_pure ⟨Code.quiet_builtin _ (by decide +kernel), codeAny_builtin F.entry_type_call ?_⟩
  rw [Around.under_plain (weight_type_call_type "set" [.ref l] []) rfl]
  have h1 := F.called_set.notType
  have h2 := F.called_set.canCreate
  have hct := zvf (.ref l)
  repeat (any_goals (first | assumption | wp_step))
  refine codeAny_mono (zxl (E := E) (.ref l) (Q₁ := fun obj s₁ => ∃ led : Bool, obj = .ref s.heap.objs.size ∧ s₁ = { s with heap := s.heap.push { cls := .type "set", dict := none, data := .set #[] 0 (.fresh 0 0 led) } }) fun led => ⟨led, rfl, rfl⟩) fun r s₁ hr => ?_
  cases r with
  | error e => exact hr
  | ok fl =>
    cases fl with
    | ret obj =>
      obtain ⟨led, rfl, rfl⟩ := hr
      have hS := zaff (prog := prog) (w := w) (h := s.heap) (led := led)
      have hT : Shared.TypeIs { s with heap := s.heap.push { cls := .type "set", dict := none, data := .set #[] 0 (.fresh 0 0 led) } } (.ref s.heap.objs.size) "set" := ⟨_, Heap.get?_push_size _ rfl, rfl⟩
      have hli := F.called_set.init.lookup
      have hbi := F.called_set.init.bind (.ref s.heap.objs.size)
      repeat (any_goals (first | assumption | wp_step))
      refine codeAny_mono (codeAny_call_builtin (R := wants (fun r s₂ => r = .none ∧ Q (.ref s.heap.objs.size) s₂) E) F.called_set.init.plain F.entry_set_init (ztc hT ?_)) fun r₂ s₂ hr₂ => ?_
      · unfold Builtin.«set.__init__» noKeywords
        obtain ⟨ol, g1, g2, n3, g3⟩ := id hl
        have hl' : (s.heap.push { cls := .type "set", dict := none, data := .set #[] 0 (.fresh 0 0 led) }).get? l = some ol := Heap.get?_push_of_some _ g1
        have hTl : Shared.TypeIs { s with heap := s.heap.push { cls := .type "set", dict := none, data := .set #[] 0 (.fresh 0 0 led) } } (.ref l) "list" := ⟨_, hl', g2⟩
        have n1 := zqm
        have n2 := zoq
        have hst : ∀ {P : Bool → Shared → Prop} {E' : Value → Shared → Prop} {A' : Around}, P false { s with heap := s.heap.push { cls := .type "set", dict := none, data := .set #[] 0 (.fresh 0 0 led) } } → wpAny (model prog w) A' (setUsed s.heap.objs.size) P E' { s with heap := s.heap.push { cls := .type "set", dict := none, data := .set #[] 0 (.fresh 0 0 led) } } := fun hP => by
          unfold setUsed
          refine wpAny_bind (wpAny_setState_of (Heap.get?_push_size _ rfl) rfl (by cases led <;> rfl) (wpAny_pure ?_))
          cases led <;> exact hP
        refine wpAny_bind (m := (pure () : Sem Unit)) (wpAny_pure ?_)
        refine wpAny_bind ?_
        unfold typeNameOfCut shownTypeOf
        refine wpAny_bind ?_
        refine thn (Q := fun a s' => a = .type "set" ∧ s' = { s with heap := s.heap.push { cls := .type "set", dict := none, data := .set #[] 0 (.fresh 0 0 led) } }) ?_ fun a s' ha => ?_
        · repeat (any_goals (first | assumption | wp_step))
          exact ⟨rfl, rfl⟩
        obtain ⟨rfl, rfl⟩ := ha
        refine wpAny_pure ?_
        refine wpAny_bind (wpAny_pure ?_)
        refine wpAny_bind (wpAny_pure ?_)
        refine wpAny_bind (hst ?_)
        show wpAny _ _ (Builtin.Frozenset.updateFrom "set.__init__" s.heap.objs.size (.ref l) >>= _) _ _ _
        unfold Builtin.Frozenset.updateFrom Builtin.Frozenset.isAnySet
        refine wpAny_bind (wpAny_bind (thn (Q := fun b s' => b = false ∧ s' = { s with heap := s.heap.push { cls := .type "set", dict := none, data := .set #[] 0 (.fresh 0 0 led) } }) ?_ fun b s' hb => ?_))
        · simp only [orM]
          refine wpAny_bind (wpAny_isInstance hTl n1 ?_)
          exact wpAny_isInstance hTl n2 ⟨rfl, rfl⟩
        obtain ⟨rfl, rfl⟩ := hb
        rw [if_neg (by decide)]
        refine wpAny_bind (wpAny_typeOf hTl ?_)
        rw [if_neg (by decide)]
        have g0 : ∀ b o, s.heap.get? b = some o → (s.heap.push { cls := .type "set", dict := none, data := .set #[] 0 (.fresh 0 0 led) }).get? b = some o := fun b o e => Heap.get?_push_of_some _ e
        refine wpAny_bind (wpAny_pyIter_list (items := items.toArray) ⟨ol, hl', g2, n3, g3⟩ ?_)
        have hsz : s.heap.objs.size < (s.heap.push { cls := .type "set", dict := none, data := .set #[] 0 (.fresh 0 0 led) }).objs.size := Heap.lt_size (Heap.get?_push_size _ rfl)
        refine wpAny_bind (wpAny_runValue (zabg (h0 := s.heap) (by exact hA) pr hl (Heap.get?_none_of_le (Nat.le_refl _)) (Heap.get?_none_of_le (Nat.le_of_lt hsz)) (Nat.ne_of_lt hsz) hz items.length 0 _ [] 0 rfl (Nat.zero_le _) ⟨_, Heap.get?_push_size _ rfl, rfl, rfl⟩ ?_ (fun b o e => Heap.get?_push_of_some _ (g0 b o e)) (Nat.zero_le _) fun h' tk' S hd' kp' => ?_))
        · obtain ⟨o, es, ep, t, q1, q⟩ := hS
          exact ⟨o, es, ep, t, Heap.get?_push_of_some _ q1, q⟩
        · refine wpAny_pure ?_
          refine wpAny_pure ⟨rfl, h h' tk' S ?_ kp'⟩
          rw [Nat.zero_add] at hd'
          exact hd'
      · cases r₂ with
        | error e => exact hr₂
        | ok fl₂ =>
          cases fl₂ with
          | ret r =>
            obtain ⟨rfl, hq⟩ := hr₂
            repeat (any_goals (first | assumption | wp_step))
          | _ => exact hr₂.elim
    | _ => exact hr.elim
end L2
namespace L2
open PySem PySem.Spec PyProof.Rows
noncomputable def tLenSet (te : TE) : TE := fun σ H Q => te σ H fun x H1 => ∃ p vs ks, x = .ref p ∧ H1 p = some (.lst vs) ∧ vs = ks.map kV ∧ vs.length < 4000 ∧ Q (.int (unl [] ks)) H1
theorem zafg {k : Key} {u : Value} (r : RelV (kV k) u) : u.scannable = true := by
  cases k with
  | inl i => obtain ⟨t, e⟩ := (show ∃ t, u = Value.int i t from r); subst e; rfl
  | inr x => obtain ⟨t, e⟩ := (show ∃ t, u = Value.str x t from r); subst e; rfl
theorem zly {P : Program} {w : World} : ∀ {ks : List Key} {us : List Value}, Vals (ks.map kV) us → Paired (fun (v : Value) (k : Key) => zny k v = true ∧ v.scannable = true) us ks
  | [], us, h => by cases h; exact .nil
  | k :: ks, us, h => by cases h with | cons r t => exact .cons ⟨zakq (P := P) (w := w) r, zafg r⟩ (zly (P := P) (w := w) t)
theorem zaip : bootBuiltins "len" = some (.builtin "len") := by decide +kernel
theorem zaiq : bootBuiltins "set" = some (.type "set") := by decide +kernel
theorem zxm {X : Cx} {e : Expr} {te : TE} {p1 p2 pos1 pos2 : Pos} (hc : X.calm = true) (hgl : Gl X "len") (hml : X.mg "len" = none) (hgs : Gl X "set") (hms : X.mg "set" = none) (he : PE X e te)
    (hs : starEach [e] X.env = (false, eval e X.env) :: starEach [] X.env := by rfl) :
    PE X (.Call (.Name "len" p1) [.Call (.Name "set" p2) [e] [] pos2] [] pos1) (tLenSet te) := by
  intro pins s σ H Q I h
  refine wpAny_Call_Name_kw (zkp I hgl hml zaip ?_ (by decide) (by decide))
  refine callWith_builtin1 ?_ rfl rfl
  show wpAny _ _ (spliced ((false, eval (.Call (.Name "set" p2) [e] [] pos2) X.env) :: [])) _ _ s
  refine Calls.spliced_cons ?_
  refine wpAny_Call_Name_kw (zkp I hgs hms zaiq ?_ (by decide) (by decide))
  refine callWith_type1 ?_ hs rfl
  rw [hs]
  show wpAny _ _ (spliced ((false, eval e X.env) :: [])) _ _ s
  refine Calls.spliced_cons (thn (he pins s σ H _ I h) fun u s1 z => ?_)
  obtain ⟨x, H1, I1, r1, p, vs, ks, rfl, hp, rfl, hz, q⟩ := z
  cases r1
  refine Calls.spliced_nil ?_
  obtain ⟨hz', its, n, rv, hg⟩ := (show zeb X.prog X.w H1 s1.heap p (.lst (ks.map kV)) from I1.hok p _ hp)
  have hl := rv.length
  refine zor (I1.ok.hd hc) (zly (P := X.prog) (w := X.w) rv) ⟨_, hg, rfl, n, rfl⟩ (by omega) fun h' tk S hS kp => ?_
  refine Calls.spliced_nil ?_
  obtain ⟨o, es, ep, t, ho, hex, hd, _, _, hb, hf, hn⟩ := hS
  refine call_len_set (s := { s1 with heap := h', toks := tk }) ho hex hd hf (by have : es.size < 4096 := hb; omega) ?_
  exact ⟨.int (unl [] ks), H1, I1.kept (t' := _) kp, ⟨tk + 1, by rw [hn]⟩, q⟩
noncomputable def ztd : List PyData → Option (List Key)
  | [] => some []
  | d :: ds => (keyD d).bind fun k => (ztd ds).map fun ks => k :: ks
noncomputable def zlz (f : EF) : EF := fun env => (f env).bind fun r => match r.d with
  | .list ds => (ztd ds).bind fun ks => if ds.length < 4000 then some ⟨.int (unl [] ks), false, []⟩ else none
  | _ => none
theorem zue {H : Hp} : ∀ {ds : List PyData} {vs : List V} {ks : List Key}, Rps H ds vs → ztd ds = some ks → vs = ks.map kV
  | [], vs, ks, h, e => by unfold Rps at h; cases e; subst h; rfl
  | d :: ds, vs, ks, h, e => by
    obtain ⟨k, ek, e⟩ := Option.bind_eq_some_iff.mp e
    obtain ⟨ks', e', rfl⟩ := Option.map_eq_some_iff.mp e
    cases zca.mp h with
    | cons h1 h2 =>
      rename_i v vs'
      have := zue (zca.mpr h2) e'
      subst this
      cases d with
      | int i => cases ek; unfold Rp at h1; subst h1; rfl
      | str x => cases ek; unfold Rp at h1; subst h1; rfl
      | _ => cases ek
theorem zxn {te : TE} {f : EF} (h : SE te f) : SE (tLenSet te) (zlz f) := by
  intro fx H0 env σ H hE rr hr Q q
  unfold zlz at hr
  obtain ⟨⟨d, fr, bs⟩, er, hr⟩ := Option.bind_eq_some_iff.mp hr
  cases d with
  | list ds =>
    have hr : ((ztd ds).bind fun ks => if ds.length < 4000 then some (⟨.int (unl [] ks), false, []⟩ : Val) else none) = some rr := hr
    obtain ⟨ks, ek, hr⟩ := Option.bind_eq_some_iff.mp hr
    split at hr
    · rename_i hl
      cases hr
      refine h fx H0 env σ H hE _ er _ fun v H1 s1 hv => ?_
      obtain ⟨p, xs, rfl, h1, r⟩ := zcy hv.rp
      have e := zue r ek
      refine ⟨p, xs, ks, rfl, zdw h1, e, by rw [← r.length]; exact hl, q _ H1 s1 ⟨zab, fun z => by cases z⟩⟩
    · cases hr
  | _ => cases hr
end L2
namespace L2
open PySem PySem.Spec PyProof.Rows
noncomputable def xcIn (K : PySem.W.Frag) (C : Addr) : Bool := match K.lookup C with
  | some ⟨.type "type", _, .cls cd, sl⟩ => (match cd.mro, sl.toList with
    | .ref C' :: bm, [_, _, _, _, some (.builtin n), _] => C' == C && !cd.hasDel && cd.hasDict && n == "ValueError.__new__" && bm.contains (.type "ValueError") && bm.contains (.type "BaseException") && !bm.contains (.type "AttributeError") && !bm.contains (.type "NameError")
    | _, _ => false)
  | _ => false
theorem zair {K : PySem.W.Frag} {h : Heap} {C : Addr} (X : K.In h) (q : xcIn K C = true) : ∃ nm qn N bs bm sn sub ab col dd k0 k1 k2 k3 k5,
    h.get? C = some (excClassObj nm qn C N bs bm true sn sub ab col dd k0 k1 k2 k3 k5 "ValueError.__new__") ∧ (Value.ref C :: bm).contains (.type "ValueError") = true ∧ (Value.ref C :: bm).contains (.type "BaseException") = true ∧ (Value.ref C :: bm).contains (.type "AttributeError") = false ∧ (Value.ref C :: bm).contains (.type "NameError") = false := by
  unfold xcIn at q
  split at q
  · rename_i dd cd sl ho
    split at q
    · rename_i C' bm k0 k1 k2 k3 n k5 hm hs
      simp only [Bool.and_eq_true, beq_iff_eq, Bool.not_eq_true'] at q
      obtain ⟨⟨⟨⟨⟨⟨⟨rfl, hdel⟩, hdc⟩, rfl⟩, hv⟩, hb⟩, ha⟩, hn⟩ := q
      obtain ⟨nm, bs, mro, ns, qn, hd, sn, sub, ab, col, del⟩ := cd
      dsimp only at hm hdel hdc
      subst hm hdel hdc
      have hsl : sl = #[k0, k1, k2, k3, some (.builtin "ValueError.__new__"), k5] := by
        obtain ⟨l⟩ := sl
        simp only at hs
        rw [hs]
      subst hsl
      refine ⟨nm, qn, ns, bs, bm, sn, sub, ab, col, dd, k0, k1, k2, k3, k5, X _ _ ho, ?_, ?_, ?_, ?_⟩
      · rw [List.contains_cons, hv, Bool.or_true]
      · rw [List.contains_cons, hb, Bool.or_true]
      · rw [List.contains_cons, ha]; rfl
      · rw [List.contains_cons, hn]; rfl
    · cases q
  · cases q
end L2
namespace PySem
open Sem (wp)
section
variable {prog : Program} {w : World} {A : Around} {E : Value → Shared → Prop} {h : Heap} {g : Array GenState} {d : Drawn} {t : Nat} {os : OsState}
variable {nm q : Str} {C N : Addr} {bs bm : List Value} {sn : List Str} {sub : List Value} {ab : Bool} {col : Option Bool} {dd : Option Addr} {k0 k1 k2 k3 k5 : Option Value}
theorem zvg {M : Model} {rest : List Value} {Q : Unit → Shared → Prop} (hC : h.get? C = some (excClassObj nm q C N bs bm true sn sub ab col dd k0 k1 k2 k3 k5 "ValueError.__new__")) (hv : (Value.ref C :: bm).contains (.type "ValueError") = true)
    (hq : Q () ⟨h, g, d, t, os⟩) : wpAny M A (checkBuiltinCall "ValueError.__new__" ⟨.ref C :: rest, []⟩) Q E ⟨h, g, d, t, os⟩ := by
  have F := F.excBase_ValueError
  have f0 := F.noStar
  simp only [checkBuiltinCall, F.newKind, F.newSplit, F.newRow]
  repeat (first | refine wpAny_loadPart_at hC ?_ | (refine wpAny_isSubtype_exc hC ?_; rw [hv]) | refine wpAny_staticBase_exc hC ?_ | refine wpAny_madeBy_exc hC ?_ | simp only [bne_self_eq_false, Bool.false_eq_true, if_false] | wp_step)
  exact hq
theorem zxo {rest : List Value} {R : Result → Shared → Prop} (hC : h.get? C = some (excClassObj nm q C N bs bm true sn sub ab col dd k0 k1 k2 k3 k5 "ValueError.__new__")) (hv : (Value.ref C :: bm).contains (.type "ValueError") = true) (ha : (Value.ref C :: bm).contains (.type "AttributeError") = false) (hn : (Value.ref C :: bm).contains (.type "NameError") = false)
    (hq : R (.ok (.ret (.ref (h.objs.size + 1)))) ⟨(h.push { cls := .type "tuple", data := .seq rest.toArray }).push { cls := .ref C, data := .fields #[.ref h.objs.size, .none, .none, .none, .bool false, .none] }, g, d, t, os⟩) (hr : rest.length ≤ sizeLine) :
    codeAny (model prog w) A (.builtin "ValueError.__new__" ⟨.ref C :: rest, []⟩) R ⟨h, g, d, t, os⟩ := by
  have F := F.excBase_ValueError
  have f0 := F.ends
  refine codeAny_builtinAt F.entry ?_
  unfold Builtin.«BaseException.__new__»
  refine wpAt_bind ?_
  show wpAt _ _ _ (stack >>= _) _ _ _
  refine wpAt_bind (wpAt_stack fun p below => wpAt_of_wpAny ?_)
  wp_walk
  refine wpAt_of_wpAny ?_
  rw [F.owner]
  repeat (first | with_reducible refine wpAny_madeHere_exc F.canon hC ?_ | with_reducible refine wpAny_loadPart_at hC ?_ | (with_reducible refine wpAny_isSubtype_exc hC ?_; first | rw [hv] | rw [ha] | rw [hn]) | wp_step)
  show R _ _
  rw [Heap.size_push]
  exact hq
theorem zakx {rest : List Value} {fI : Addr} {oI : Obj} {Q : Value → Shared → Prop} (hC : h.get? C = some (excClassObj nm q C N bs bm true sn sub ab col dd k0 k1 k2 k3 k5 "ValueError.__new__")) (hv : (Value.ref C :: bm).contains (.type "ValueError") = true) (ha : (Value.ref C :: bm).contains (.type "AttributeError") = false) (hn : (Value.ref C :: bm).contains (.type "NameError") = false)
    (LI : W.Looks (model prog w) h (typeLookup (.ref C) "__init__") (some (.ref fI))) (hfI : h.get? fI = some oI) (hfc : oI.cls = .type "function") (hr : rest.length ≤ sizeLine)
    (hq : ∀ h' e, Heap.MadeExcOf h h' e (.ref C) rest → wpAny (model prog w) (A.under (.builtin "type.__call__" ⟨.ref C :: rest, []⟩)) (call (.ref fI) (.ref e :: rest)) (fun r s' => r = .none ∧ Q (.ref e) s') E ⟨h', g, d, t, os⟩) :
    wpAny (model prog w) A (call (.ref C) rest) Q E ⟨h, g, d, t, os⟩ := by
  have F := F.excBase_ValueError
  have f1 := tc_lookup
  have f2 := tc_bind (.ref C)
  have hT : (⟨h, g, d, t, os⟩ : Shared).TypeIs (.ref C) "type" := ⟨_, hC, rfl⟩
  refine wpAny_call (codeAny_of_tree ?_)
  show wpAny _ _ (callAny (.ref C) _) _ _ _
  repeat (any_goals (first | assumption | with_reducible refine wpAny_loadPart_at hC ?_ | wp_step))
  refine ⟨rfl, ?_⟩
  refine codeAny_call_builtin_at (Code.quiet_builtin _ (by decide +kernel)) entry_typeCall (wpAny_check_type_call_sub hC ?_)
  repeat (first | with_reducible refine wpAny_loadPart_at hC ?_ | with_reducible refine wpAny_madeBy_exc hC ?_ | wp_step)
  refine codeAny_call_builtin_code (Code.quiet_builtin _ F.quiet) (zvg hC hv ?_)
  refine zxo hC hv ha hn ?_ hr
  show wpAny _ _ _ _ _ _
  have kp : ∀ b o, h.get? b = some o → ((h.push { cls := .type "tuple", data := .seq rest.toArray }).push { cls := .ref C, data := .fields #[.ref h.objs.size, .none, .none, .none, .bool false, .none] }).get? b = some o := fun b o e => Heap.get?_push_of_some _ (Heap.get?_push_of_some _ e)
  have hC1 := kp _ _ hC
  have he : ((h.push { cls := .type "tuple", data := .seq rest.toArray }).push { cls := .ref C, data := .fields #[.ref h.objs.size, .none, .none, .none, .bool false, .none] }).get? (h.objs.size + 1) = some { cls := .ref C, data := .fields #[.ref h.objs.size, .none, .none, .none, .bool false, .none] } := by heap_get
  have hcC : (Value.ref C :: bm).contains (.ref C) = true := by simp
  unfold isInstance
  repeat (first | with_reducible refine wpAny_loadPart_at he ?_ | (refine wpAny_isSubtype_exc hC1 ?_; rw [hcC]) | wp_step)
  show wpAny _ _ (typeLookup (.ref C) _) _ _ _
  refine (LI.keeps kp).here ?_
  refine wpAny_holding (wpAny_bind ?_)
  unfold bindSpecial
  refine wpAny_bind (wpAny_typeOf (T := "function") ⟨_, kp _ _ hfI, hfc⟩ ?_)
  rw [if_pos (by decide)]
  refine wpAny_pure (wpAny_bind (wpAny_mono (hq _ (h.objs.size + 1) ⟨kp, Heap.get?_none_of_le (Nat.le_succ _), h.objs.size, he, Heap.get?_none_of_le (Nat.le_refl _), ?_⟩) (fun r s' hh => ?_) fun _ _ x => x))
  · exact Heap.get?_push_of_some _ (Heap.get?_push_at rfl rfl)
  · obtain ⟨rfl, hQ⟩ := hh
    wp_walk
    exact hQ
end
end PySem
namespace PySem
open Sem (wp)
open Builtin Builtin.ObjectAttr
noncomputable def vmro : List Value := [.type "ValueError", .type "Exception", .type "BaseException", .type "object"]
noncomputable def zdj : List Value → Bool
  | .ref _ :: r => zdj r
  | l => l == vmro
theorem zjn (self : Value) (what : Str) : ∀ {l : List Value}, zdj l = true → refuseLoop self what l = refuseLoop self what vmro
  | [], h => by cases h
  | v :: r, h => by
    cases v with
    | ref a => rw [refuseLoop_ref]; exact zjn self what h
    | _ => rw [eq_of_beq (show (_ == vmro) = true from h)]
theorem zco {T : Value} (hT : vmro.contains T = true) : ∀ {l : List Value}, zdj l = true → l.contains T = true
  | [], h => by cases h
  | v :: r, h => by
    cases v with
    | ref a => rw [List.contains_cons, zco hT (l := r) h, Bool.or_true]
    | _ => rw [eq_of_beq (show (_ == vmro) = true from h)]; exact hT
section
variable {prog : Program} {w : World} {A : Around} {E : Value → Shared → Prop} {h : Heap} {g : Array GenState} {d : Drawn} {t : Nat} {os : OsState}
variable {nm q : Str} {C N x : Addr} {bs bm : List Value} {sn : List Str} {sub : List Value} {ab : Bool} {col : Option Bool} {dd : Option Addr} {k0 k1 k2 k3 k5 : Option Value} {newId : String} {name : Str} {v : Value}
theorem zqn {M : Model} {o : Obj} {nameV : Value} {Q : Unit → Shared → Prop} (hr : zdj bm = true)
    (hC : h.get? C = some (excClassObj nm q C N bs bm true sn sub ab col dd k0 k1 k2 k3 k5 newId)) (hx : h.get? x = some o) (hc : o.cls = .ref C) (hq : Q () ⟨h, g, d, t, os⟩) :
    wpAny M A (checkBuiltinCall "object.__setattr__" ⟨[.ref x, nameV, v], []⟩) Q E ⟨h, g, d, t, os⟩ := by
  have SF := F.store_ValueError
  have hcB : (Value.ref C :: bm).contains (.type "object") = true := by rw [List.contains_cons, zco (by decide) hr, Bool.or_true]
  have ha := SF.args (.ref x) nameV v
  simp only [checkBuiltinCall, SF.kind, SF.split]
  refine wpAny_bind ?_
  · unfold isInstance
    repeat (first | (with_reducible refine wpAny_loadPart_at hx ?_; rw [hc]) | (with_reducible refine wpAny_isSubtype_exc hC ?_; rw [hcB]) | wp_step)
    exact hq
theorem zqo {tk : Tok} {Q : Fin → Shared → Prop} {o : Obj} (hr : zdj bm = true)
    (hC : h.get? C = some (excClassObj nm q C N bs bm true sn sub ab col dd k0 k1 k2 k3 k5 newId)) (hx : h.get? x = some o) (hc : o.cls = .ref C) (hnc : ∀ c, o.data ≠ .cls c) (hdn : o.dict = none)
    (LA : W.Looks (model prog w) h (typeLookup (.ref C) name) none)
    (hq : ∀ h' tk' dx, h.objs.size ≤ dx → h'.Ns1 dx (fun y => if y = name then some v else none) → h'.get? x = some { o with dict := some dx } →
      (∀ b o, b ≠ x → h.get? b = some o → h'.get? b = some o) → Q (.done (.ret .none)) ⟨h', g, d, tk', os⟩) :
    wpAny (model prog w) A (Builtin.«object.__setattr__» ⟨[.ref x, .str name tk, v], []⟩) Q E ⟨h, g, d, t, os⟩ := by
  have SF := F.store_ValueError
  have hpass : refuseLoop (.ref x) "__setattr__" bm = pure () := by rw [zjn _ _ hr]; exact SF.passes (.ref x)
  unfold Builtin.«object.__setattr__»
  repeat (first | rw [refuse_eq] | (rw [refuseLoop_ref, hpass]) | (with_reducible refine wpAny_loadPart_at hx ?_; rw [hc]) | with_reducible refine wpAny_mroOf_exc hC ?_ | (with_reducible refine LA.here ?_) | wp_step)
  rw [hdn, if_neg (by simp [typeHasDict])]
  split
  · rename_i hcd
    cases hcd
  split
  · rename_i c hcd
    exact absurd hcd (hnc c)
  · have hx₁ : (h.push { cls := .type "dict", data := .dict #[] }).get? x = some o := Heap.get?_push_of_some _ hx
    have hxs : x ≠ h.objs.size := Nat.ne_of_lt (Heap.lt_size hx)
    refine wpAny_bind (wpAny_alloc' ?_)
    refine wpAny_bind (wpAny_update' hx₁ ?_)
    refine wpAny_pure ?_
    have hgd : ((h.push { cls := .type "dict", data := .dict #[] }).update x fun o => { cls := o.cls, dict := some h.objs.size, data := o.data, slots := o.slots }).get? h.objs.size
        = some { cls := .type "dict", data := .dict #[] } :=
      (Heap.get?_update_ne _ _ _ _ hxs.symm).trans (Heap.get?_push_at rfl rfl)
    have hnd : ((h.push { cls := .type "dict", data := .dict #[] }).update x fun o => { cls := o.cls, dict := some h.objs.size, data := o.data, slots := o.slots }).Ns h.objs.size (fun _ => none) :=
      ⟨_, #[], _, hgd, rfl, fun e he => absurd he (by simp), fun _ => rfl⟩
    show wpAny _ _ (storeInDict h.objs.size (.str name tk) name v) _ _ _
    unfold storeInDict newKeyGuard
    refine wpAny_bind (wpAny_pure (wpAny_bind (wpAny_nsSet1EFk (Heap.Ns1.of_empty hnd) fun h' hn' hs hkeepD => ?_)))
    obtain ⟨oD, esD, epD, hoD, hdD, hcD⟩ := hn'.count (Within.cons name v Within.nil)
    refine wpAny_bind (wpAny_lookBehind hoD (by rw [hdD]; exact pastItsLine_dict (Nat.le_trans hcD (by rw [List.length_cons, List.length_nil, sizeLine_eq]; omega))) ?_)
    wp_walk
    refine hq h' _ h.objs.size (Nat.le_refl _) hn' ?_ (fun b ob hbx hb => ?_)
    · refine (hs.2 x hxs).trans (Heap.get?_update_self _ hx₁ ?_)
      have hfr := (Heap.get?_some_iff.mp hx).2
      obtain ⟨oc, od, odt, osl⟩ := o
      cases odt <;> first | rfl | exact hfr
    · exact (hs.2 b (Nat.ne_of_lt (Heap.lt_size hb))).trans ((Heap.get?_update_ne _ _ _ _ hbx).trans (Heap.get?_push_of_some _ hb))
theorem zais {Q : Unit → Shared → Prop} {o : Obj} (hr : zdj bm = true)
    (hC : h.get? C = some (excClassObj nm q C N bs bm true sn sub ab col dd k0 k1 k2 k3 k5 newId)) (hx : h.get? x = some o) (hc : o.cls = .ref C) (hnc : ∀ c, o.data ≠ .cls c) (hdn : o.dict = none)
    (LS : W.Looks (model prog w) h (typeLookup (.ref C) "__setattr__") (some (.builtin "object.__setattr__"))) (LA : W.Looks (model prog w) h (typeLookup (.ref C) name) none)
    (hq : ∀ h' tk' dx, h.objs.size ≤ dx → h'.Ns1 dx (fun y => if y = name then some v else none) → h'.get? x = some { o with dict := some dx } →
      (∀ b o, b ≠ x → h.get? b = some o → h'.get? b = some o) → Q () ⟨h', g, d, tk', os⟩) :
    wpAny (model prog w) A (setAttr (.ref x) name v) Q E ⟨h, g, d, t, os⟩ := by
  have SF := F.store_ValueError
  have f3 := SF.slot.bind (.ref x)
  unfold setAttr callSpecial? specialOf
  repeat (any_goals (first | assumption | (with_reducible refine wpAny_loadPart_at hx ?_; rw [hc]) | (with_reducible refine LS.here ?_) | wp_step))
  refine codeAny_call_builtin SF.slot.plain SF.entry (zqn hr hC hx hc (zqo hr hC hx hc hnc hdn LA fun h' tk' dx a1 a2 a3 a4 => ?_))
  repeat (any_goals (first | assumption | wp_step))
  exact hq h' tk' dx a1 a2 a3 a4
theorem zaky {Q : Value → Shared → Prop} {o : Obj} {dx : Addr} {vs : Array Value} {mA : Str → Option Value} {expr : Bool} (hr : zdj bm = true)
    (hC : h.get? C = some (excClassObj nm q C N bs bm true sn sub ab col dd k0 k1 k2 k3 k5 newId)) (hx : h.get? x = some o) (hc : o.cls = .ref C) (hd : o.data = .fields vs) (hdd : o.dict = some dx)
    (hns : h.Ns dx mA) (hv : mA name = some v)
    (LG : W.Looks (model prog w) h (typeLookup (.ref C) "__getattribute__") (some (.builtin "BaseException.__getattribute__"))) (LH : W.Looks (model prog w) h (typeLookup (.ref C) "__getattr__") none) (LA : W.Looks (model prog w) h (typeLookup (.ref C) name) none)
    (hh : W.handedIn v = true) (hq : ∀ tk', Q v ⟨h, g, d, tk', os⟩) :
    wpAny (model prog w) A (getAttr (.ref x) name expr) Q E ⟨h, g, d, t, os⟩ := by
  have hk : builtinKind "BaseException.__getattribute__" = some .slot := by decide +kernel
  have hsplit : splitId "BaseException.__getattribute__" = some ("BaseException", "__getattribute__") := by decide +kernel
  have hcB : (Value.ref C :: bm).contains (.type "BaseException") = true := by rw [List.contains_cons, zco (by decide) hr, Bool.or_true]
  have hx0 : (expr && onTheHeap (Value.builtin "BaseException.__getattribute__")) = false := by cases expr <;> rfl
  have hx2 : (Value.builtin "BaseException.__getattribute__" == Value.builtin "object.__getattribute__") = false := by decide +kernel
  have hx1 : (onTheHeap (Value.ref C) && Value.builtin "BaseException.__getattribute__" == Value.builtin "object.__getattribute__") = false := by rw [hx2]; rfl
  have FB := F.attr_ValueError
  have f3 := FB.ga.bind (.ref x)
  have ha := F.args_bexc_ga (.ref x)
  unfold getAttr getAttrBy
  repeat (any_goals (first | assumption | (with_reducible refine wpAny_loadPart_at hx ?_; rw [hc]) | (with_reducible refine LG.here ?_) | (with_reducible refine LH.here ?_) | wp_step))
  refine codeAny_call_builtin FB.ga.plain F.entry_bexc_ga ?_
  simp only [checkBuiltinCall, hk, hsplit]
  refine wpAny_bind ?_
  unfold isInstance
  repeat (first | (with_reducible refine wpAny_loadPart_at hx ?_; rw [hc]) | (with_reducible refine wpAny_isSubtype_exc hC ?_; rw [hcB]) | wp_step)
  repeat (any_goals (first | assumption | (with_reducible refine wpAny_loadPart_at hx ?_; rw [hc]) | (with_reducible refine LA.here ?_) | wp_step))
  rw [hd]
  dsimp only
  unfold instanceDict
  repeat (any_goals (first | assumption | (with_reducible refine wpAny_loadPart_at hx ?_; rw [hc]) | (with_reducible refine wpAny_loadPart_at hC ?_) | wp_step))
  rw [hdd]
  dsimp only
  refine wpAny_pure ?_
  unfold inDict
  refine wpAny_nsGet hns ?_
  rw [hv]
  dsimp only
  repeat (any_goals (first | assumption | wp_step))
  show wpAny _ _ (handedOut v) _ _ _
  rw [W.handedOut_of hh]
  exact wpAny_pure (hq _)
theorem zakz {Q : Value → Shared → Prop} {o : Obj} {vs : Array Value} {rest : List Value} (hr : zdj bm = true) (hl : rest.length ≤ sizeLine)
    (hC : h.get? C = some (excClassObj nm q C N bs bm true sn sub ab col dd k0 k1 k2 k3 k5 newId)) (hx : h.get? x = some o) (hc : o.cls = .ref C) (hd : o.data = .fields vs) (hs : 0 < vs.size)
    (hq : ∀ h' p, h'.get? x = some { o with data := .fields (vs.setIfInBounds 0 (.ref p)) } → (∀ b o, b ≠ x → h.get? b = some o → h'.get? b = some o) → Q .none ⟨h', g, d, t, os⟩) :
    wpAny (model prog w) A (call (.builtin "ValueError.__init__") (.ref x :: rest)) Q E ⟨h, g, d, t, os⟩ := by
  have F := F.excBase_ValueError
  have hcB : (Value.ref C :: bm).contains (.type "ValueError") = true := by rw [List.contains_cons, zco (by decide) hr, Bool.or_true]
  have hshort := F.noStar
  refine wpAny_call (codeAny_call_builtin F.init.plain F.initEntry ?_)
  simp only [checkBuiltinCall, F.initKind, F.initSplit, F.initRow]
  repeat (first | (with_reducible refine wpAny_loadPart_at hx ?_; rw [hc]) | with_reducible refine wpAny_loadPart_at hC ?_ | (with_reducible refine wpAny_isSubtype_exc hC ?_; rw [hcB]) | wp_step)
  refine wpAny_onRaise ?_
  rw [show ∀ (a b : String) (n : Nat), Bind.check ⟨.positional, "*", "ValueError", .self, [⟨"args", .varPos, false⟩]⟩ a b n (List.map (fun x => x.fst) ({ pos := Value.ref x :: rest } : Args).kw) = pure () from
    fun a b n => check_star_args _ _ _ _ _ _]
  refine wpAny_pure ?_
  unfold Builtin.«BaseException.__init__»
  repeat (any_goals (first | assumption | wp_step))
  rw [hd]
  dsimp only
  refine wpAny_pure ?_
  rw [Array.getElem?_eq_getElem hs]
  dsimp only
  refine wpAny_pure (wpAny_bind ?_)
  have hx' : (h.push { cls := .type "tuple", data := .seq rest.toArray }).get? x = some o := Heap.get?_push_of_some _ hx
  refine wpAny_setField hx' hd hs ?_
  have fin : Q .none ⟨(h.push { cls := .type "tuple", data := .seq rest.toArray }).update x (Obj.mapFields (·.setIfInBounds 0 (Value.ref h.objs.size))), g, d, t, os⟩ := by
    refine hq _ h.objs.size ?_ fun b ob hb e => by rw [Heap.get?_update_other _ _ (Ne.symm hb)]; exact Heap.get?_push_of_some _ e
    have hd₃ := Obj.data_mapFields hd (·.setIfInBounds 0 (Value.ref h.objs.size))
    rw [Heap.get?_update_self _ hx' (Obj.isFreed_of_fields hd₃)]
    unfold Obj.mapFields
    obtain ⟨oc, od, odt, osl⟩ := o
    cases hd
    rfl
  cases vs[0] <;> (repeat (any_goals (first | exact fin | assumption | wp_step)))
end
end PySem
namespace PySem
open Sem (wp)
noncomputable def Heap.Tb (h : Heap) (T : Addr) : Prop := ∃ oT ts, h.get? T = some oT ∧ oT.data = .fields ts ∧ ts[3]? = some .none
section
variable {M : Model} {A : Around} {E : Value → Shared → Prop} {s : Shared} {base : Heap} {env : Env} {outer : List Env} {L e : Addr} {oe : Obj} {vs : Array Value}
theorem mapf {o : Obj} {vs : Array Value} (hd : o.data = .fields vs) (f : Array Value → Array Value) : Obj.mapFields f o = { o with data := .fields (f vs) } := by
  unfold Obj.mapFields
  obtain ⟨oc, od, odt, osl⟩ := o
  cases hd
  rfl
theorem zma {head : Value} {hadNext : Bool} {Q : Unit → Shared → Prop}
    (hfr : A.frames = some (env :: outer)) (hl : s.heap.FunFrames base (env :: outer)) (hf : env.frame = some L) (he : s.heap.get? e = some oe) (hd : oe.data = .fields vs) (hsz : 1 < vs.size)
    (hQ : ∀ h' T, s.heap.objs.size ≤ T → T ≠ e → (∀ b o, b ≠ e → b ∉ (env :: outer).filterMap (·.frame) → s.heap.get? b = some o → h'.get? b = some o) →
      (∀ b o, b ≠ e → s.heap.get? b = some o → ∃ sl, h'.get? b = some { o with slots := sl }) → h'.get? e = some { oe with data := .fields (vs.setIfInBounds 1 (.ref T)) } → h'.Tb T → Q () { s with heap := h' }) :
    wpAny M A (do let a ← frameOf env; let pl ← entryPlaceOf L hadNext; let b ← EntryCells.newEntry head a .none (rawInt L) .none pl; setField (.ref e) 1 b) (fun _ s' => wpAny M A (setFlight (.ref e) none) Q E s') E s := by
  have hene : e ∉ (env :: outer).filterMap (·.frame) := fun hm => by
    obtain ⟨_, o, ho, hnf⟩ := hl.mem hm
    rw [he] at ho; injection ho with ho; subst ho; exact hnf vs hd
  refine wpAny_bind (wpAny_frameOf_fun hfr hl hf fun h₁ hs₁ => ?_)
  refine wpAny_bind (wpAny_entryPlaceOf fun pl hpl => ?_)
  unfold EntryCells.newEntry newFields
  refine wpAny_bind (wpAny_newObj_type ?_ (hpl.sizeOk5 _ _ _ _ _))
  have he₁ : h₁.get? e = some oe := (hs₁.2.1 e hene).trans he
  have he₂ := Heap.get?_push_of_some (h := h₁) { cls := .type "traceback", dict := none, data := .fields ([head, .ref L, .none, rawInt L, .none] ++ (if pl.isEmpty then List.replicate 6 Value.none else pl)).toArray } he₁
  refine wpAny_setField he₂ hd hsz ?_
  have hTe : h₁.objs.size ≠ e := Nat.ne_of_gt (Heap.lt_size he₁)
  have hd₃ := Obj.data_mapFields hd (·.setIfInBounds 1 (Value.ref h₁.objs.size))
  have he₃ := Heap.get?_update_self (Obj.mapFields (·.setIfInBounds 1 (Value.ref h₁.objs.size))) he₂ (Obj.isFreed_of_fields hd₃)
  have hT₃ := (Heap.get?_update_other (h₁.push { cls := .type "traceback", dict := none, data := .fields ([head, .ref L, .none, rawInt L, .none] ++ (if pl.isEmpty then List.replicate 6 Value.none else pl)).toArray })
    (Obj.mapFields (·.setIfInBounds 1 (Value.ref h₁.objs.size))) (Ne.symm hTe)).trans (Heap.get?_push_size h₁ rfl)
  unfold setFlight
  refine wpAny_bind (wpAny_field he₃ hd₃ (x := .ref h₁.objs.size) (by simp [hsz]) ?_)
  rw [if_pos (show (Value.ref h₁.objs.size != Value.none) = true from by simp)]
  refine wpAny_setField hT₃ rfl (by simp only [List.size_toArray, List.length_append, List.length_cons, List.length_nil] <;> omega) ?_
  have keep : ∀ b o, b ≠ e → h₁.get? b = some o →
      (((h₁.push { cls := .type "traceback", dict := none, data := .fields ([head, .ref L, .none, rawInt L, .none] ++ (if pl.isEmpty then List.replicate 6 Value.none else pl)).toArray }).update e (Obj.mapFields (·.setIfInBounds 1 (Value.ref h₁.objs.size)))).update h₁.objs.size
        (Obj.mapFields (·.setIfInBounds 3 ((none : Option Addr).elim Value.none fun f => rawInt f)))).get? b = some o := fun b o hbe hb => by
    have hbT : h₁.objs.size ≠ b := Nat.ne_of_gt (Heap.lt_size hb)
    rw [Heap.get?_update_other _ _ hbT, Heap.get?_update_other _ _ (Ne.symm hbe)]
    exact Heap.get?_push_of_some _ hb
  refine hQ _ h₁.objs.size (Nat.le_of_eq hs₁.1.symm) hTe (fun b o hb hn ho => keep b o hb ((hs₁.2.1 b hn).trans ho)) (fun b o hb ho => ?_) ?_ ?_
  · obtain ⟨sl, hs⟩ := hs₁.2.2 b o ho
    exact ⟨sl, keep b _ hb hs⟩
  · rw [Heap.get?_update_other _ _ hTe, he₃, mapf hd]
  · exact ⟨_, _, Heap.get?_update_self _ hT₃ (Obj.isFreed_of_fields (Obj.data_mapFields rfl _)), Obj.data_mapFields rfl _, by first | (simp; done) | (rcases hpl with rfl | ⟨_, _, _, _, _, _, _, rfl⟩ <;> simp)⟩
theorem zte {Q : Unit → Shared → Prop}
    (hfr : A.frames = some (env :: outer)) (hl : s.heap.FunFrames base (env :: outer)) (hf : env.frame = some L) (he : s.heap.get? e = some oe) (hd : oe.data = .fields vs)
    (h1 : vs[1]? = some .none ∨ ∃ T, vs[1]? = some (.ref T) ∧ T ≠ e ∧ s.heap.Tb T)
    (hQ : ∀ h' T, s.heap.objs.size ≤ T → T ≠ e → (∀ b o, b ≠ e → vs[1]? ≠ some (.ref b) → b ∉ (env :: outer).filterMap (·.frame) → s.heap.get? b = some o → h'.get? b = some o) →
      (∀ b o, b ≠ e → vs[1]? ≠ some (.ref b) → s.heap.get? b = some o → ∃ sl, h'.get? b = some { o with slots := sl }) → (∀ b, vs[1]? = some (.ref b) → h'.Tb b) →
      h'.get? e = some { oe with data := .fields (vs.setIfInBounds 1 (.ref T)) } → h'.Tb T → Q () { s with heap := h' }) :
    wpAny M A (noteFrame (.ref e) env) (fun _ s' => wpAny M A (setFlight (.ref e) none) Q E s') E s := by
  unfold noteFrame
  simp only [hf]
  rcases h1 with h1 | ⟨T, h1, hTe, oT, ts, hT, hdT, h3⟩
  · refine (wpAny_bind (wpAny_field he hd h1 ?_))
    rw [if_neg (by decide)]
    exact zma hfr hl hf he hd (Array.getElem?_eq_some_iff.mp h1).1 fun h' T a1 a2 a3 a4 a5 a6 => hQ h' T a1 a2 (fun b o q _ => a3 b o q) (fun b o q _ => a4 b o q) (fun b q => by rw [h1] at q; cases q) a5 a6
  · refine (wpAny_bind (wpAny_field he hd h1 ?_))
    rw [if_pos (show (Value.ref T != Value.none) = true from by simp)]
    refine wpAny_bind (wpAny_field hT hdT h3 ?_)
    rw [if_neg (show ¬ ((Value.none == rawInt L) = true) from by simp [rawInt])]
    have hsz3 := (Array.getElem?_eq_some_iff.mp h3).1
    refine wpAny_bind (wpAny_setField hT hdT hsz3 ?_)
    have other : ∀ b, b ≠ T → (s.heap.update T (Obj.mapFields (·.setIfInBounds 3 Value.none))).get? b = s.heap.get? b := fun b hb => Heap.get?_update_other _ _ (Ne.symm hb)
    have hT' := Heap.get?_update_self (Obj.mapFields (·.setIfInBounds 3 Value.none)) hT (Obj.isFreed_of_fields (Obj.data_mapFields hdT _))
    have noRecord : ∀ b o, s.heap.get? b = some o → (∀ vs, o.data ≠ .fields vs) → b ≠ T := fun b o hb hnf q => by
      rw [q, hT] at hb; injection hb with hb; subst hb; exact hnf ts hdT
    have ne : ∀ {b : Addr}, vs[1]? ≠ some (.ref b) → b ≠ T := fun q z => q (by rw [h1, z])
    refine zma hfr (hl.of_keeps fun b o hb hnf => ⟨o, (other b (noRecord b o hb hnf)).trans hb, rfl⟩) hf ((other e (Ne.symm hTe)).trans he) hd (Array.getElem?_eq_some_iff.mp h1).1 fun h' T' a1 a2 a3 a4 a5 a6 => ?_
    refine hQ h' T' (by rw [Heap.size_update] at a1; exact a1) a2 (fun b o q n z ho => a3 b o q z ((other b (ne n)).trans ho)) (fun b o q n ho => a4 b o q ((other b (ne n)).trans ho)) (fun b q => ?_) a5 a6
    rw [h1] at q
    cases q
    obtain ⟨sl, hs⟩ := a4 T _ hTe hT'
    exact ⟨_, _, hs, Obj.data_mapFields hdT _, by simp [hsz3]⟩
theorem zqp {Q : Unit → Shared → Prop} {T : Addr} (he : s.heap.get? e = some oe) (hd : oe.data = .fields vs) (h1 : vs[1]? = some (.ref T)) (hT : s.heap.Tb T)
    (hQ : ∀ h', (∀ b o, b ≠ T → s.heap.get? b = some o → h'.get? b = some o) → h'.Tb T → Q () { s with heap := h' }) : wpAny M A (setFlight (.ref e) none) Q E s := by
  obtain ⟨oT, ts, hT, hdT, h3⟩ := hT
  have hsz3 := (Array.getElem?_eq_some_iff.mp h3).1
  unfold setFlight
  refine wpAny_bind (wpAny_field he hd h1 ?_)
  rw [if_pos (show (Value.ref T != Value.none) = true from by simp)]
  refine wpAny_setField hT hdT hsz3 (hQ _ (fun b o hb ho => by rw [Heap.get?_update_other _ _ (Ne.symm hb)]; exact ho) ?_)
  exact ⟨_, _, Heap.get?_update_self _ hT (Obj.isFreed_of_fields (Obj.data_mapFields hdT _)), Obj.data_mapFields hdT _, by simp [hsz3]⟩
end
end PySem
namespace L2
open PySem PySem.Spec PyProof.Rows
noncomputable def xeD (e C dx : Addr) (tv : Value) (h : Heap) : Prop := ∃ vs sl, h.get? e = some { cls := .ref C, dict := some dx, data := .fields vs, slots := sl } ∧ vs[1]? = some tv
theorem xeD.stay {e C dx : Addr} {tv : Value} (h1 h2 : Heap) (h : xeD e C dx tv h1) (k : ∀ o, h1.get? e = some o → h2.get? e = some o) : xeD e C dx tv h2 :=
  let ⟨vs, sl, a, b⟩ := h; ⟨vs, sl, k _ a, b⟩
theorem zafh {T : Addr} (h1 h2 : Heap) (h : h1.Tb T) (k : ∀ o, h1.get? T = some o → h2.get? T = some o) : h2.Tb T :=
  let ⟨oT, ts, a, b⟩ := h; ⟨oT, ts, k _ a, b⟩
theorem zacz {P : Program} {w : World} {H : Hp} {h : Heap} {e C dx : Addr} {tv : Value} (q : xeD e C dx tv h) : zeb P w H h e (.ext (xeD e C dx tv)) :=
  ⟨q, let ⟨_, _, a, _⟩ := q; ⟨_, a⟩, fun h1 h2 => xeD.stay h1 h2⟩
theorem zuf {P : Program} {w : World} {H : Hp} {h : Heap} {T : Addr} (q : h.Tb T) : zeb P w H h T (.ext fun h => h.Tb T) :=
  ⟨q, let ⟨_, _, a, _⟩ := q; ⟨_, a⟩, fun h1 h2 => zafh h1 h2⟩
theorem zeb.there {P : Program} {w : World} {H : Hp} {h : Heap} {a : Addr} {o : HO} (x : zeb P w H h a o) : ∃ ob, h.get? a = some ob := by
  cases o with
  | lst xs => obtain ⟨_, _, _, _, e⟩ := x; exact ⟨_, e⟩
  | tup xs => obtain ⟨_, _, _, ob, e, _⟩ := x; exact ⟨_, e⟩
  | dK kvs => obtain ⟨_, _, _, _, o, _, _, e, _⟩ := x; exact ⟨_, e⟩
  | dT kvs => obtain ⟨_, _, _, _, o, _, _, e, _⟩ := x; exact ⟨_, e⟩
  | set S n => obtain ⟨o, _, _, _, e, _⟩ := x; exact ⟨_, e⟩
  | ins C dx fs => obtain ⟨_, _, _, e, _⟩ := x; exact ⟨_, e⟩
  | own y => exact x
  | xd fs => obtain ⟨_, ⟨_, _, _, e, _⟩, _⟩ := x; exact ⟨_, e⟩
  | rng lo hi => obtain ⟨_, _, _, e⟩ := x; exact ⟨_, e⟩
  | frz ob u => obtain ⟨e, _⟩ := x; exact ⟨_, e⟩
  | tbl ps => exact ⟨_, x⟩
  | met f y => exact ⟨_, x⟩
  | ext φ => exact x.2.1
theorem HOk.no {P : Program} {w : World} {H : Hp} {h : Heap} {a : Addr} (x : HOk P w H h) (n : h.get? a = none) : H a = none := by
  cases q : H a with
  | none => rfl
  | some u => obtain ⟨ob, z⟩ := (x a u q).there; rw [n] at z; cases z
noncomputable def zxp (H H' : Hp) : Prop := ∀ b o, H b = some o → (∀ φ, o ≠ .ext φ) → H' b = some o
noncomputable def StX (H0 : Hp) (E : XK) : XK := fun c dx H' => ∀ H3, (∀ b o, H0 b = some o → H' b = some o → H3 b = some o) → zxp H' H3 → E c dx H3
structure Flt (h : Heap) (H' : Hp) (e C dx : Addr) : Prop where
  new : h.get? e = none
  st : ∃ tv, H' e = some (.ext (xeD e C dx tv)) ∧ (tv = .none ∨ ∃ T, tv = .ref T ∧ T ≠ e ∧ h.get? T = none ∧ H' T = some (.ext fun h => h.Tb T))
noncomputable def CXE (P : Program) (w : World) : CXT := fun outer H s E e s' => ∃ ea C dx H', e = .ref ea ∧ s'.os = s.os ∧ AllBare s'.gens ∧ Un (frs outer) [] H H' s.heap s'.heap ∧ HOk P w H' s'.heap ∧ Flt s.heap H' ea C dx ∧ StX H E (.ref C) (some dx) H'
section
variable {X : Cx} {pins : List (Addr × Obj)} {σ : St} {H1 : Hp} {s : Shared} {e C dx : Addr} {E : Value → Shared → Prop}
theorem zmb {h0 : Heap} {Q : Unit → Shared → Prop} (I : Inv X pins σ H1 s) (hst : X.stack = X.env :: X.outer) (hfr : X.env.frame = some X.env.locals) (hz : ∀ b ob, h0.get? b = some ob → ∃ o', s.heap.get? b = some o') (F : Flt h0 H1 e C dx)
    (k : ∀ s' H2, Inv X pins σ H2 s' → (∃ T, H2 e = some (.ext (xeD e C dx (.ref T))) ∧ T ≠ e ∧ h0.get? T = none ∧ H2 T = some (.ext fun h => h.Tb T)) →
      (∀ b o ob, h0.get? b = some ob → H1 b = some o → H2 b = some o) → zxp H1 H2 → (s.heap.objs.size ≤ s'.heap.objs.size) → Q () s') :
    wpAny (model X.prog X.w) X.A (noteFrame (.ref e) X.env) (fun _ s' => wpAny (model X.prog X.w) X.A (setFlight (.ref e) none) Q E s') E s := by
  obtain ⟨tv, he, ht⟩ := F.st
  obtain ⟨⟨vs, sl, oe, h1⟩, _, _⟩ := I.hok e _ he
  have hfs : ∀ b, b ∈ (X.env :: X.outer).filterMap (·.frame) → H1 b = none := fun b hb => I.stkFree b (by unfold frs; rw [hst]; exact hb)
  have hT1 : tv = .none ∨ ∃ T, tv = .ref T ∧ T ≠ e ∧ s.heap.Tb T := ht.imp id fun ⟨T, a, b, c, d⟩ => ⟨T, a, b, (I.hok T _ d).1⟩
  refine zte (base := X.base) (L := X.env.locals) (by rw [← hst]; exact I.ok.frames) (by rw [← hst]; exact I.stack) hfr oe rfl (hT1.imp (fun z => by rw [h1, z]) fun ⟨T, a, b, c⟩ => ⟨T, by rw [h1, a], b, c⟩) fun h' T a1 a2 a3 a4 a5 a6 a7 => ?_
  have nT : H1 T = none := I.hok.fresh a1
  have tr : ∀ b, vs[1]? = some (.ref b) → H1 b = some (.ext fun h => h.Tb b) ∧ b ≠ e ∧ h0.get? b = none := fun b q => by
    rw [h1] at q
    rcases ht with z | ⟨T0, z, b1, c1, d1⟩
    · rw [z] at q; cases q
    · rw [z] at q; cases q; exact ⟨d1, b1, c1⟩
  let H2 : Hp := upd (upd H1 T (.ext fun h => h.Tb T)) e (.ext (xeD e C dx (.ref T)))
  have h2 : ∀ b, b ≠ e → b ≠ T → H2 b = H1 b := fun b q z => by show upd _ _ _ b = _; rw [zay q, zay z]
  have h2e : H2 e = some (.ext (xeD e C dx (.ref T))) := zau
  have h2T : H2 T = some (.ext fun h => h.Tb T) := by show upd _ _ _ T = _; rw [zay a2, zau]
  have ext2 : ∀ b o, H1 b = some o → (∀ φ, o ≠ .ext φ) → H2 b = some o := fun b o q n => by
    rw [h2 b (fun z => by rw [z, he] at q; cases q; exact n _ rfl) (fun z => by rw [z, nT] at q; cases q)]; exact q
  have kp : ∀ b o, H1 b = some o → b ≠ e → vs[1]? ≠ some (.ref b) → ∀ u, s.heap.get? b = some u → h'.get? b = some u := fun b o q n n2 u z => a3 b u n n2 (fun m => by rw [hfs b m] at q; cases q) z
  have hsz1 : 1 < vs.size := (Array.getElem?_eq_some_iff.mp h1).1
  have ok2 : HOk X.prog X.w H2 h' := fun b o q => by
    by_cases hb : b = e
    · subst hb
      rw [h2e] at q
      cases q
      exact zacz ⟨_, _, a6, by rw [Array.getElem?_setIfInBounds_self_of_lt hsz1]⟩
    · by_cases hbT : b = T
      · subst hbT
        rw [h2T] at q
        cases q
        exact zuf a7
      · rw [h2 b hb hbT] at q
        by_cases hv : vs[1]? = some (.ref b)
        · rw [(tr b hv).1] at q
          cases q
          exact zuf (a5 b hv)
        · refine (I.hok b o q).stay (fun c u hc z => ?_) (fun c z => ext2 c _ z (fun φ y => by cases y)) (fun c xs z => ext2 c _ z (fun φ y => by cases y))
          rcases hc with rfl | hc
          · exact kp c o q hb hv u z
          · exact kp c _ hc (fun y => by rw [y, he] at hc; cases hc) (fun y => by rw [(tr c y).1] at hc; cases hc) u z
  have un : Un (frs X.stack) [] H1 H2 s.heap h' := by
    have nb : ∀ b, H1 b = none → b ≠ e ∧ vs[1]? ≠ some (.ref b) := fun b n => ⟨fun y => (by rw [y, he] at n; cases n), fun y => (by rw [(tr b y).1] at n; cases n)⟩
    have hfs' : ∀ b, b ∈ frs X.stack ↔ b ∈ (X.env :: X.outer).filterMap (·.frame) := fun b => by unfold frs; rw [hst]
    refine ⟨fun b o q n hb _ => a3 b o (nb b n).1 (nb b n).2 (fun m => hb ((hfs' b).mpr m)) q, fun b o q n hb _ => a4 b o (nb b n).1 (nb b n).2 q, fun b o q n _ => ?_, fun b o q _ => ?_, fun b xs q => ext2 b _ q (fun φ y => by cases y), fun b o u q => ext2 b _ q (fun φ y => by cases y), fun b ps q => ⟨#[], by rw [ext2 b _ q (fun φ y => by cases y)]; simp⟩⟩
    · rw [h2 b (nb b n).1 (fun y => by rw [y] at q; exact absurd (Heap.lt_size q) (Nat.not_lt.mpr a1))]; exact n
    · by_cases hb : b = e
      · exact ⟨_, by rw [hb]; exact a6⟩
      · by_cases hv : vs[1]? = some (.ref b)
        · obtain ⟨oT, _, z, _⟩ := a5 b hv; exact ⟨oT, z⟩
        · obtain ⟨sl, z⟩ := a4 b o hb hv q; exact ⟨_, z⟩
  have n0 : h0.get? T = none := by
    cases y : h0.get? T with
    | none => rfl
    | some ob => obtain ⟨o', z⟩ := hz T ob y; exact absurd (Heap.lt_size z) (Nat.not_lt.mpr a1)
  have hs : s.heap.objs.size ≤ h'.objs.size := Nat.le_of_lt (Nat.lt_of_le_of_lt a1 (let ⟨_, _, z, _⟩ := a7; Heap.lt_size z))
  refine k _ H2 (I.call' (s' := { s with heap := h' }) rfl un ok2 I.bare (fun b z => absurd z (by simp))) ⟨T, h2e, a2, n0, h2T⟩ (fun b o ob q z => ?_) ext2 hs
  rw [h2 b (fun y => by rw [y, F.new] at q; cases q) (fun y => by rw [y, nT] at z; cases z)]
  exact z
theorem zabh {h0 : Heap} {Q : Unit → Shared → Prop} (I : Inv X pins σ H1 s) (hst : X.stack = X.env :: X.outer) (hfr : X.env.frame = some X.env.locals) (hz : ∀ b ob, h0.get? b = some ob → ∃ o', s.heap.get? b = some o') (F : Flt h0 H1 e C dx)
    (k : ∀ s' H2, Inv X pins σ H2 s' → (∃ T, H2 e = some (.ext (xeD e C dx (.ref T))) ∧ T ≠ e ∧ h0.get? T = none ∧ H2 T = some (.ext fun h => h.Tb T)) →
      (∀ b o ob, h0.get? b = some ob → H1 b = some o → H2 b = some o) → zxp H1 H2 → (s.heap.objs.size ≤ s'.heap.objs.size) → Q () s') :
    wpAny (model X.prog X.w) X.A (leaving X.env (.ref e)) Q E s := by
  unfold leaving
  exact wpAny_bind (zmb I hst hfr hz F k)
end
theorem zait {P : Program} {w : World} {K : PySem.W.Frag} {mg : Str → Option Value} {base : Heap} {N : List Str} {qual : Str} {scope : Scope} {f : Addr} {cd : Value} {A : Around} {outer : List Env} {s : Shared} {H : Hp} {E : XK}
    {pins : List (Addr × Obj)} {σ : St} {H1 : Hp} {s1 : Shared} {e C dx : Addr} (I : Inv (cxOf (CXE P w) P w K mg base N qual scope f cd A outer s H E) pins σ H1 s1) (h0k : HOk P w H s.heap) (F : Flt s.heap H1 e C dx) (q : StX H E (.ref C) (some dx) H1) :
    (cxOf (CXE P w) P w K mg base N qual scope f cd A outer s H E).xe (.ref e) s1 := by
  refine zabh (X := cxOf (CXE P w) P w K mg base N qual scope f cd A outer s H E) I rfl rfl (fun b ob z => I.base.there b ob z (fun y => absurd (show b ∈ ([] : List Addr) from y) (by simp))) F fun s' H2 I2 ht hk hx _ => ?_
  refine ⟨e, C, dx, H2, rfl, I2.os, I2.bare, I2.base, I2.hok, ⟨F.new, _, ht.choose_spec.1, .inr ⟨_, rfl, ht.choose_spec.2⟩⟩, fun H3 r1 r2 => q H3 (fun b o z1 z2 => ?_) (fun b o z n => r2 b o (hx b o z n) n)⟩
  obtain ⟨ob, y⟩ := (h0k b o z1).there
  exact r1 b o z1 (hk b o ob y z2)
theorem zaiu {CX : CXT} {P : Program} {w : World} {K : PySem.W.Frag} {mg : Str → Option Value} {base : Heap} {x qual : Str} {st : Stmt} {f : Addr} {fd : FuncData} {N ps : List Str} {k : Nat} {sp : Sp} (Fu : Fun K x qual st f fd) (S : FnScope N ps (zal st)) (len : ∀ vs H Q E, sp vs H Q E → vs.length = ps.length)
    (hbody : ∀ (cdv : Value) (A : Around) (outer : List Env) (s : Shared) (H : Hp) (vs : List V) (Q : VK) (E : XK), Room k (A.deeper (envOfC qual (zal st) s.heap.objs.size f cdv)) → HOk P w H s.heap → sp vs H Q E →
      ∃ t, PSs (cxOf CX P w K mg base N qual (zal st) f cdv A outer s H E) (zbp st) t ∧ t { nx := fun _ H' => Q .non H', rt := Q } (zjc N vs) H) : FnOk P w K mg base CX (k + 1) f fd ps sp := by
  refine ⟨len, fun A outer s H args us vs Q E hr e0 hb r hsp => ?_⟩
  obtain ⟨oc, od, kV, doc, pm, an, cdv, ct, osl, rfl, lk, hcd⟩ := Fu.ex
  have KX : K.In s.heap := e0.mod.kin.keeps fun b o e => (e0.bs b o e).1
  refine codeAny_call_function hr.depth (KX _ _ lk) rfl S.co S.gen rfl (PySem.W.codeRec_of KX hcd) (hb _ _ _ _ (wpAny_newFunctionEnv_cells S.kind (fun ⟨n, v⟩ hy => ?_) fun env he s1 x => ?_))
  · rcases S.par n (List.of_mem_zip hy).1 with q | q
    · exact .inl q
    · exact .inr ⟨q, PySem.W.cellsFrom_some _ _ _ (.inl q)⟩
  · subst he
    obtain ⟨t, ht, hq⟩ := hbody cdv A outer s H vs Q E (hr.deeper _) e0.hok hsp
    have I := zpw (CX := CX) (E := E) S hr.hd e0 (len _ _ _ _ hsp) r x
    refine ⟨(e0.mod.nolimit.keeps fun b o e => (e0.bs b o e).1).keeps x.toInCall.keep, codeAny_func (wpAny_mono (ht [] s1 (zjc N vs) H _ I hq) (fun fl s' hs => ?_) fun e s' hs => hs)⟩
    cases fl with
    | ret u => obtain ⟨v, σ', H', J, rv, q⟩ := hs; exact ⟨v, H', J.os, J.bare, J.base, J.hok, rv, q⟩
    | next => obtain ⟨σ', H', J, q⟩ := hs; exact ⟨.non, H', J.os, J.bare, J.base, J.hok, rfl, q⟩
    | brk => obtain ⟨_, _, _, q⟩ := hs; exact q.elim
    | cont => obtain ⟨_, _, _, q⟩ := hs; exact q.elim
end L2
namespace L2
open PySem PySem.Spec PyProof.Rows
noncomputable def xcR (K : PySem.W.Frag) (C : Addr) : Bool := match K.lookup C with
  | some ⟨_, _, .cls cd, _⟩ => (match cd.mro with | _ :: bm => zdj bm | _ => false)
  | _ => false
theorem zht {K : PySem.W.Frag} {h : Heap} {C : Addr} (X : K.In h) (q : xcIn K C = true) (q2 : xcR K C = true) : ∃ nm qn N bs bm sn sub ab col dd k0 k1 k2 k3 k5,
    h.get? C = some (excClassObj nm qn C N bs bm true sn sub ab col dd k0 k1 k2 k3 k5 "ValueError.__new__") ∧ zdj bm = true ∧ (Value.ref C :: bm).contains (.type "AttributeError") = false ∧ (Value.ref C :: bm).contains (.type "NameError") = false := by
  obtain ⟨nm, qn, N, bs, bm, sn, sub, ab, col, dd, k0, k1, k2, k3, k5, hC, _, _, ha, hn⟩ := zair X q
  refine ⟨nm, qn, N, bs, bm, sn, sub, ab, col, dd, k0, k1, k2, k3, k5, hC, ?_, ha, hn⟩
  unfold xcR at q2
  split at q2
  · rename_i a b cd sl ho
    have := X _ _ ho
    rw [hC] at this
    have e := Option.some.inj this
    unfold excClassObj at e
    injection e with _ _ e _
    injection e with e
    subst e
    exact q2
  · cases q2
structure XMk (K : PySem.W.Frag) (C f : Addr) : Prop where
  cls : xcIn K C = true
  tail : xcR K C = true
  init : PySem.W.findIn K (.ref C) "__init__" = some (some (.ref f))
  fn : PySem.W.isFn K (.ref f) = true
  kp : PySem.W.keepIn K (.ref C) = true
  sa : PySem.W.findIn K (.ref C) "__setattr__" = some (some (.builtin "object.__setattr__"))
  at_ : PySem.W.findIn K (.ref C) "at" = some none
  ga : PySem.W.findIn K (.ref C) "__getattribute__" = some (some (.builtin "BaseException.__getattribute__"))
  gh : PySem.W.findIn K (.ref C) "__getattr__" = some none
noncomputable def atV : V → Prop
  | .non => True
  | .str x => (PySem.reprText x).length ≤ 1000
  | .int n => 0 ≤ n ∧ n < 100
  | _ => False
noncomputable def xe0 (e C : Addr) (h : Heap) : Prop := ∃ vs sl, h.get? e = some { cls := .ref C, dict := none, data := .fields vs, slots := sl } ∧ vs[1]? = some .none
theorem zxq {P : Program} {w : World} {H : Hp} {h : Heap} {e C : Addr} (q : xe0 e C h) : zeb P w H h e (.ext (xe0 e C)) :=
  ⟨q, (let ⟨_, _, a, _⟩ := q; ⟨_, a⟩), fun h1 h2 ⟨vs, sl, a, b⟩ k => ⟨vs, sl, k _ a, b⟩⟩
noncomputable def spI (C : Addr) : Sp := fun vs H Q _ => ∃ e v, vs = [.ref e, v] ∧ H e = some (.ext (xe0 e C)) ∧ atV v ∧ ∀ dx, H dx = none → dx ≠ e → Q .non (upd (upd H dx (.xd [("at", v)])) e (.ext (xeD e C dx .none)))
section
variable {X : Cx} {pins : List (Addr × Obj)} {σ : St} {H : Hp} {s : Shared} {C f : Addr} {k : Nat} {fd : FuncData}
theorem Inv.new {h' : Heap} {a : Addr} {o : HO} {t' : Nat} (I : Inv X pins σ H s) (k : ∀ b u, s.heap.get? b = some u → h'.get? b = some u) (hn : s.heap.get? a = none) (new : zeb X.prog X.w (upd H a o) h' a o) : Inv X pins σ (upd H a o) { s with heap := h', toks := t' } := by
  have hH := HOk.no I.hok hn
  have ne : ∀ b u, s.heap.get? b = some u → b ≠ a := fun b u q z => by rw [z, hn] at q; cases q
  have neH : ∀ b u, H b = some u → b ≠ a := fun b u q z => by rw [z, hH] at q; cases q
  refine I.un (h' := h') ⟨fun b o q _ _ _ => k b o q, fun b o q _ _ _ => ⟨o.slots, k b o q⟩, fun b o q n _ => by rw [zay (ne b o q)]; exact n, fun b o q _ => ⟨o, k b o q⟩, fun b xs q => by rw [zay (neH b _ q)]; exact q, fun b o u q => by rw [zay (neH b _ q)]; exact q, fun b ps q => ⟨#[], by rw [zay (neH b _ q), q]; simp⟩⟩ fun b u q => ?_
  by_cases hb : b = a
  · subst hb; rw [zau] at q; cases q; exact new
  · rw [zay hb] at q
    exact (I.hok b u q).stay (fun c v _ q => k c v q) (fun c q => by rw [zay (neH c _ q)]; exact q) fun c xs q => by rw [zay (neH c _ q)]; exact q
theorem zxr {v : V} {u : Value} (M : XMk X.K C f) (F : FnOk X.prog X.w X.K X.mg X.base CX0 k f fd ["self", "at"] (spI C)) (hr : Room (k + 1) X.A) (hb : zla X.K fd ["self", "at"] []) (hex : X.ex = []) (I : Inv X pins σ H s) (rv : RelV v u) (av : atV v)
    {Q : Value → Shared → Prop} (q : ∀ e dx H' s', Inv X pins σ H' s' → Flt X.s₀.heap H' e C dx → H' e = some (.ext (xeD e C dx .none)) → H' dx = some (.xd [("at", v)]) → Same H H' → Q (.ref e) s') :
    wpAny (model X.prog X.w) X.A (call (.ref C) [u]) Q X.xe s := by
  obtain ⟨nm, qn, N, bs, bm, sn, sub, ab, col, dd, k0, k1, k2, k3, k5, hC, hbm, ha, hn⟩ := zht I.kIn M.cls M.tail
  obtain ⟨hh, g, d, tk, os⟩ := s
  obtain ⟨oI, hfI, hfc⟩ : ∃ oI, hh.get? f = some oI ∧ oI.cls = .type "function" := by
    have z : (X.K.lookup f).map (·.cls) = some (.type "function") := beq_iff_eq.mp M.fn
    cases y : X.K.lookup f with
    | none => rw [y] at z; cases z
    | some o => rw [y] at z; exact ⟨o, I.kIn _ _ y, Option.some.inj z⟩
  refine zakx (C := C) hC (by rw [List.contains_cons, zco (by decide) hbm, Bool.or_true]) ha hn (PySem.W.looks_findIn I.kIn M.init) hfI hfc (by show 1 ≤ sizeLine; rw [sizeLine_eq]; omega) fun h' e hm => ?_
  obtain ⟨t, he, htn, ht⟩ := hm.there
  have I2 := Inv.new (h' := h') (a := e) (o := .ext (xe0 e C)) (t' := tk) I hm.keeps hm.new (zxq ⟨_, _, he, rfl⟩)
  have hHe : H e = none := HOk.no I.hok hm.new
  have sp : spI C [.ref e, v] (upd H e (.ext (xe0 e C))) (fun r H2 => r = .non ∧ ∃ dx, H dx = none ∧ dx ≠ e ∧ H2 = upd (upd (upd H e (.ext (xe0 e C))) dx (.xd [("at", v)])) e (.ext (xeD e C dx .none))) E0 :=
    ⟨e, v, rfl, zau, av, fun dx hd ne => ⟨rfl, dx, by rw [zay ne] at hd; exact hd, ne, rfl⟩⟩
  refine wpAny_call (codeAny_mono (F.run _ X.stack _ _ ⟨[.ref e, u], []⟩ [.ref e, u] _ _ E0 (hr.make C [u] []) (I2.env0.make C [u] []) (by have := hb ⟨h', g, d, tk, os⟩ [.ref e, u] I2.kIn rfl; rw [List.append_nil] at this; exact this) (show Vals [V.ref e, v] [Value.ref e, u] from .cons rfl (.cons rv .nil)) sp) fun r s' hq => ?_)
  cases r with
  | error x => exact hq.elim
  | ok fl =>
    cases fl with
    | ret w =>
      obtain ⟨v', H2, I3, rv', rfl, dx, hd, ne, rfl⟩ := I2.after hq
      refine ⟨rv', q e dx _ s' I3 ⟨?_, .none, zau, .inl rfl⟩ zau (by rw [zay ne, zau]) fun b o z => ?_⟩
      · cases y : X.s₀.heap.get? e with
        | none => rfl
        | some ob =>
          obtain ⟨o', z⟩ := I.base.there e ob y (by rw [hex]; simp)
          have := hm.new
          rw [show hh.get? e = some o' from z] at this
          cases this
      · have n1 : b ≠ e := fun y => by rw [y, hHe] at z; cases z
        have n2 : b ≠ dx := fun y => by rw [y, hd] at z; cases z
        rw [zay n1, zay n2, zay n1]
        exact z
    | next => exact False.elim hq
    | brk => exact False.elim hq
    | cont => exact False.elim hq
noncomputable def Lvs (X : Cx) (E : XK) : Prop := ∀ (pins : List (Addr × Obj)) (σ : St) (H1 : Hp) (s1 : Shared) (e C dx : Addr), Inv X pins σ H1 s1 → Flt X.s₀.heap H1 e C dx → E (.ref C) (some dx) H1 → X.xe (.ref e) s1
noncomputable def zxs (C : Addr) (E : XK) (te : TE) : TS := fun _ σ H => te σ H fun v H1 => atV v ∧ ∀ H' dx, Same H1 H' → H' dx = some (.xd [("at", v)]) → E (.ref C) (some dx) H'
theorem zabi {E : XK} {x : Str} {np cpos pos : Pos} {a : Expr} {te : TE} (M : XMk X.K C f) (F : FnOk X.prog X.w X.K X.mg X.base CX0 k f fd ["self", "at"] (spI C)) (hr : Room (k + 1) X.A) (hb : zla X.K fd ["self", "at"] []) (hex : X.ex = []) (hc : X.calm = true) (hx : Lvs X E)
    (hg : Gl X x) (hm : X.mg x = some (.ref C)) (ha : PE X a te) (hdb : (x == ("__debug__" : Str)) = false := by decide) (he : starEach [a] X.env = [(false, eval a X.env)] := by rfl) :
    PS X (.Raise (some (.Call (.Name x np) [a] [] cpos)) none pos) (zxs C E te) := by
  intro pins s σ H D I h
  rw [arm_exec_Raise]
  refine wpAny_bind (wpAny_standAt ?_)
  unfold raiseStmt
  simp only [evalOpt, Option.map]
  refine wpAny_bind ?_
  have hcall : wpAny (model X.prog X.w) X.A (eval (.Call (.Name x np) [a] [] cpos) X.env) (fun r s' => ∃ e dx H' v H1, r = .ref e ∧ Inv X pins σ H' s' ∧ Flt X.s₀.heap H' e C dx ∧ H' e = some (.ext (xeD e C dx .none)) ∧ H' dx = some (.xd [("at", v)]) ∧ Same H1 H' ∧ ∀ H' dx, Same H1 H' → H' dx = some (.xd [("at", v)]) → E (.ref C) (some dx) H') X.xe s := by
    refine wpAny_Call_Name_kw (zhh I hg hm ?_ hdb)
    refine PySem.W.callWith_K (h₀ := X.base) I.ok.mod.kin M.kp (thn (zhi ha zkq he cpos pins s σ H (fun vs H1 => match vs with | [v] => atV v ∧ ∀ H' dx, Same H1 H' → H' dx = some (.xd [("at", v)]) → E (.ref C) (some dx) H' | _ => False) I h) fun us s1 ⟨vs, H1, I1, r, q⟩ => ⟨I1.kIn, ?_⟩) he rfl
    match vs, q, r with
    | [v], q, r =>
      obtain ⟨u, rfl, rv⟩ := zuz r
      exact zxr M F hr hb hex I1 rv q.1 fun e dx H' s' I' fl he0 hd sm => ⟨e, dx, H', v, H1, rfl, I', fl, he0, hd, sm, q.2⟩
    | [], q, _ => exact q.elim
    | _ :: _ :: _, q, _ => exact q.elim
  refine wpAny_bind (thn hcall fun r s' hh => ?_)
  obtain ⟨e, dx, H', v, H1, rfl, I', fl, he', hd, sm, q⟩ := hh
  refine wpAny_bind (wpAny_standAt (wpAny_pure ?_))
  obtain ⟨nm, qn, N, bs, bm, sn, sub, ab, col, dd, k0, k1, k2, k3, k5, hC, hbm, _, _⟩ := zht I'.kIn M.cls M.tail
  have hcB : (Value.ref C :: bm).contains (.type "BaseException") = true := by rw [List.contains_cons, zco (by decide) hbm, Bool.or_true]
  obtain ⟨⟨vs, sl, oe, h1⟩, _, _⟩ := I'.hok e _ he'
  have hxe := hx pins σ H' s' e C dx I' fl (q H' dx sm hd)
  have hh := I'.ok.hd hc
  obtain ⟨hp, g, d, tk, os⟩ := s'
  repeat (first | with_reducible refine wpAny_loadPart_at oe ?_ | with_reducible refine wpAny_loadPart_at hC ?_ | (with_reducible refine wpAny_isSubtype_exc hC ?_; rw [hcB]) | wp_step)
  rw [h1]
  dsimp only
  refine wpAny_pure ?_
  rw [if_neg (by decide)]
  exact wpAny_pure (wpAny_raiseNew_none hh hxe)
end
end L2
namespace L2
open PySem PySem.Spec PyProof.Rows
section
variable {X : Cx} {pins : List (Addr × Obj)} {σ : St} {H : Hp} {s : Shared} {C f : Addr} {k : Nat} {fd : FuncData}
noncomputable def tMsg (te : TE) : TE := fun σ H Q => te σ H fun v H1 => atV v ∧ ∀ m, Q (.str m) H1
theorem zxt : ∀ m < 100, Nat.log2 m < 1920 := by decide +kernel
theorem znj : ∀ m < 100, (Str.ofString (toString ((m : Nat) : Int))).length ≤ 10 := by decide +kernel
theorem zafi {v : V} {u : Value} {A : Around} {E : Value → Shared → Prop} {Q : Value → Shared → Prop} (r : RelV v u) (av : atV v) (q : ∀ (m : Str) t, m.length ≤ 1000 → Q (.str m s.toks) { s with toks := t }) :
    wpAny (model X.prog X.w) A (pyReprObj u) Q E s := by
  cases v with
  | non =>
    cases r
    exact wpAny_pyReprObj_gives (T := "NoneType") rfl F.slot_NoneType_repr F.entry_NoneType_repr (by unfold argsOk; kernel_rfl) gives_none_repr (q "None" _ (by decide)) (hx := by decide)
  | str x =>
    obtain ⟨t, rfl⟩ := r
    exact wpAny_pyReprObj_gives (T := "str") rfl PyProof.Rows.slot_str_repr PyProof.Rows.entry_str_repr (PyProof.Rows.args_str_repr _) (gives_str_repr x t) (q _ _ av) (hx := Nat.le_trans av (by rw [sizeLine_eq]; omega))
  | int n =>
    obtain ⟨t, rfl⟩ := r
    obtain ⟨n0, n1⟩ := av
    obtain ⟨m, rfl⟩ : ∃ m : Nat, n = (m : Int) := ⟨n.toNat, by omega⟩
    have hm : m < 100 := by omega
    have hb : (m : Int).natAbs.log2 < 1920 := by
      rw [Int.natAbs_natCast]
      exact zxt m hm
    exact wpAny_pyReprObj_gives (T := "int") rfl F.slot_int_repr F.entry_int_repr (F.args_int_repr_1 _) (gives_int_repr (m : Int) t hb) (q _ _ (Nat.le_trans (znj m hm) (by decide))) (hx := Nat.le_trans (znj m hm) (by rw [sizeLine_eq]; omega))
  | _ => exact av.elim
theorem zaiv {c : Str} {j p a p2 pos te} (ha : PE X a te) (hc : c.length ≤ 1000) : PE X (.JoinedStr [.Constant (.str c) j p, .FormattedValue a 114 none p2] pos) (tMsg te) := by
  intro pins s σ H Q I h
  have la : ∀ x y : Str, (x ++ y).length = x.length + y.length := fun x y => by show (x.cps ++ y.cps).size = x.cps.size + y.cps.size; exact Array.size_append
  have l0 : (Str.empty).length = 0 := rfl
  have big : (3000 : Nat) ≤ sizeLine := by rw [sizeLine_eq]; omega
  refine wpAny_JoinedStr ?_
  show wpAny _ _ (eval (.Constant (.str c) j p) X.env) (fun v s₁ => ∃ y t, v = .str y t ∧ (Str.empty ++ y).length ≤ sizeLine ∧ wpAny _ _ (eval (.FormattedValue a 114 none p2) X.env) (fun v s₂ => ∃ z t, v = .str z t ∧ ((Str.empty ++ y) ++ z).length ≤ sizeLine ∧ (((Str.empty ++ y) ++ z).length ≤ sizeLine ∧ _)) _ s₁) _ s
  refine Calls.Constant_str ⟨c, _, rfl, by rw [la, l0]; omega, ?_⟩
  refine wpAny_FormattedValue_repr (thn (ha pins _ σ H _ (I.tok _) h) fun u s1 ⟨v, H1, I1, r, av, q⟩ => zafi (X := X) r av fun m t hm => ?_)
  have lz : ((Str.empty ++ c) ++ m).length ≤ sizeLine := by rw [la, la, l0]; omega
  have fin : ∀ tk, EP X pins σ Q (.str ((Str.empty ++ c) ++ m) tk) { s1 with toks := tk + 1 } := fun tk => ⟨.str _, H1, I1.tok _, ⟨_, rfl⟩, q _⟩
  exact wpAny_formatField_str ⟨m, _, rfl, lz, lz, fin _⟩ ⟨m, _, rfl, lz, lz, fin _⟩ (by omega)
noncomputable def zada (C : Addr) (t : TA) : TE := fun σ H Q => t σ H fun vs H1 => ∃ e m, vs = [.ref e, m] ∧ H1 e = some (.ext (xe0 e C)) ∧ Q .non H1
theorem ztf {K : PySem.W.Frag} : PySem.W.findCls K (.type "ValueError") (.type "type") "__init__" = some (.val (.builtin "ValueError.__init__")) := by
  first | rfl | decide +kernel | kernel_rfl
theorem zhu : bootBuiltins "ValueError" = some (.type "ValueError") := by decide +kernel
theorem zabj {p p2 pos : Pos} {e : Expr} {es : List Expr} {t : TA} {pl : Sem Bool} (M : XMk X.K C f) (hg : Gl X "ValueError") (hm : X.mg "ValueError" = none) (ha : PA X (e :: es) t)
    (hst : starEach (e :: es) X.env = (false, eval e X.env) :: starEach es X.env := by rfl) (hpl : (backTo pos (starEach es X.env)).any (·.1) = false := by rfl)
    (ht : eval (.Call (.Attribute (.Name "ValueError" p) "__init__" p2) (e :: es) [] pos) X.env = (do
      let ov ← eval (.Name "ValueError" p) X.env
      standAt p2.atName
      let (f, first) ← holding [ov] (getMethod ov "__init__" pl)
      callWith pos f first (backTo pos (starEach (e :: es) X.env)) (backToKw pos (keywordEach [] X.env))) := by rfl) :
    PE X (.Call (.Attribute (.Name "ValueError" p) "__init__" p2) (e :: es) [] pos) (zada C t) := by
  intro pins s σ H Q I h
  refine PySem.W.methodCall_KW (pl := pl) (zkp I hg hm zhu ?_ (by decide) (by decide)) ht
  obtain ⟨m, fr⟩ := I.fr
  refine PySem.W.method_type fr I.ok.mod.kin (by kernel_rfl) (by decide +kernel) ztf (by decide +kernel) ?_
  have hA := ha pos pins _ σ H _ (I.tok (s.toks + 1)) h
  rw [hst] at hA ⊢
  refine Calls.callWith_builtin (by show (false || (backTo pos (starEach es X.env)).any (·.1)) = false; rw [hpl] <;> rfl) (Calls.evalArgs_plain ?_)
  refine thn hA fun us s2 ⟨vs, H2, I2, r2, e', mv, ev, he, q⟩ => ?_
  subst ev
  obtain ⟨u1, u2, rfl, r1, r3⟩ := zsq r2
  cases r1
  obtain ⟨nm, qn, N, bs, bm, sn, sub, ab, col, dd, k0, k1, k2, k3, k5, hC, hbm, _, _⟩ := zht I2.kIn M.cls M.tail
  obtain ⟨⟨vs, sl, oe, h1⟩, _, _⟩ := I2.hok e' _ he
  obtain ⟨hh, g, d, tk, os⟩ := s2
  refine zakz hbm (by show 1 ≤ sizeLine; rw [sizeLine_eq]; omega) hC oe rfl rfl (Nat.lt_of_succ_lt (Array.getElem?_eq_some_iff.mp h1).1) fun h' p' a1 a2 => ?_
  refine ⟨.non, H2, ?_, rfl, q⟩
  have hup : upd H2 e' (.ext (xe0 e' C)) = H2 := by
    funext b
    by_cases hb : b = e'
    · subst hb; rw [zau, he]
    · rw [zay hb]
  have := I2.write (x := e') (e := e') (o := .ext (xe0 e' C)) (h' := h') (t' := tk) (by rw [he]; exact True.intro) (.inl rfl) (fun b u hb z => a2 b u hb z) ⟨_, a1⟩ (zxq ⟨_, _, a1, by rw [Array.getElem?_setIfInBounds_ne (by decide)]; exact h1⟩)
  rw [hup] at this
  exact this
end
end L2
namespace L2
open PySem PySem.Spec PyProof.Rows
section
variable {X : Cx} {pins : List (Addr × Obj)} {σ : St} {H : Hp} {s : Shared} {C f : Addr} {k : Nat} {fd : FuncData}
noncomputable def tSat (C : Addr) (ta tv : TE) : TS := fun D σ H => tv σ H fun v H1 => ta σ H1 fun x H2 => ∃ e, x = .ref e ∧ H2 e = some (.ext (xe0 e C)) ∧ ∀ dx, H2 dx = none → dx ≠ e → D.nx σ (upd (upd H2 dx (.xd [("at", v)])) e (.ext (xeD e C dx .none)))
theorem zaiw {o value : Expr} {pos' pos : Pos} {ta tv : TE} (M : XMk X.K C f) (ha : PE X o ta) (hv : PE X value tv) (hs : swapsWith value (some (.Attribute o "at" pos')) pos.line X.env = pure false := by rfl) : PS X (.Assign [.Attribute o "at" pos'] value pos) (tSat C ta tv) := by
  intro pins s σ H D I h
  refine plainObj_wpAny_Assign_Attribute (thn (hv pins s σ H _ I h) fun u s1 ⟨y, H1, I1, ry, q⟩ => thn (ha pins s1 σ H1 _ I1 q) fun ov s2 ⟨x, H2, I2, rx, e, ex, he, q2⟩ => ?_) hs
  subst ex
  obtain rfl : ov = Value.ref e := rx
  obtain ⟨nm, qn, N, bs, bm, sn, sub, ab, col, dd, k0, k1, k2, k3, k5, hC, hbm, _, _⟩ := zht I2.kIn M.cls M.tail
  obtain ⟨⟨vs, sl, oe, h1⟩, _, _⟩ := I2.hok e _ he
  obtain ⟨hh, g, d, tk, os⟩ := s2
  refine zais hbm hC oe rfl (fun c z => by cases z) rfl (PySem.W.looks_findIn I2.kIn M.sa) (PySem.W.looks_findIn I2.kIn M.at_) fun h' tk' dx a1 a2 a3 a4 => ?_
  have hdx : H2 dx = none := I2.hok.fresh a1
  have ne : dx ≠ e := fun z => by rw [z, he] at hdx; cases hdx
  refine ⟨σ, upd (upd H2 dx (.xd [("at", y)])) e (.ext (xeD e C dx .none)), ?_, q2 dx hdx ne⟩
  have n2 : ∀ b, b ≠ e → b ≠ dx → upd (upd H2 dx (.xd [("at", y)])) e (.ext (xeD e C dx .none)) b = H2 b := fun b p q => by rw [zay p, zay q]
  have nb : ∀ b o, H2 b = some o → (∀ φ, o ≠ .ext φ) → b ≠ e ∧ b ≠ dx := fun b o z n => ⟨fun y => (by rw [y, he] at z; cases z; exact n _ rfl), fun y => (by rw [y, hdx] at z; cases z)⟩
  have st : ∀ b o, H2 b = some o → (∀ φ, o ≠ .ext φ) → upd (upd H2 dx (.xd [("at", y)])) e (.ext (xeD e C dx .none)) b = some o := fun b o z n => by rw [n2 b (nb b o z n).1 (nb b o z n).2]; exact z
  have lt : ∀ b u, hh.get? b = some u → b ≠ dx := fun b u z y => by rw [y] at z; exact absurd (Heap.lt_size z) (Nat.not_lt.mpr a1)
  refine Inv.un (s := ⟨hh, g, d, tk, os⟩) I2 (h' := h') ⟨fun b o z n _ _ => a4 b o (fun y => by rw [y, he] at n; cases n) z, fun b o z n _ _ => ⟨o.slots, a4 b o (fun y => by rw [y, he] at n; cases n) z⟩, fun b o z n _ => ?_, fun b o z _ => ?_, fun b xs z => st b _ z (fun φ y => by cases y), fun b o u z => st b _ z (fun φ y => by cases y), fun b ps z => ⟨#[], by rw [st b _ z (fun φ y => by cases y)]; simp⟩⟩ fun b o z => ?_
  · rw [n2 b (fun y => by rw [y, he] at n; cases n) (lt b o z)]; exact n
  · by_cases hb : b = e
    · exact ⟨_, by rw [hb]; exact a3⟩
    · exact ⟨o, a4 b o hb z⟩
  · by_cases hb : b = e
    · subst hb
      rw [zau] at z
      cases z
      exact zacz ⟨vs, sl, a3, h1⟩
    · by_cases hd : b = dx
      · subst hd
        rw [zay hb, zau] at z
        cases z
        refine ⟨_, a2, fun n => ?_⟩
        by_cases hn : n = "at"
        · subst hn
          exact ry
        · have : List.lookup n [((("at" : Str)), y)] = none := by
            rw [List.lookup_cons]
            have : (n == ("at" : Str)) = false := by rw [beq_eq_false_iff_ne]; exact hn
            rw [this]
            rfl
          rw [this]
          show RelO none (if n = ("at" : Str) then _ else _)
          rw [if_neg hn]
          trivial
      · rw [n2 b hb hd] at z
        refine (I2.hok b o z).stay (fun c u hc y => a4 c u ?_ y) (fun c y => st c _ y (fun φ x => by cases x)) (fun c xs y => st c _ y (fun φ x => by cases x))
        rcases hc with rfl | hc
        · exact hb
        · exact fun x => by rw [x, he] at hc; cases hc
noncomputable def tXat (C : Addr) (te : TE) : TE := fun σ H Q => te σ H fun x H1 => ∃ e dx tv v, x = .ref e ∧ H1 e = some (.ext (xeD e C dx tv)) ∧ H1 dx = some (.xd [("at", v)]) ∧ Q v H1
theorem zaix {o : Expr} {pos : Pos} {te : TE} (M : XMk X.K C f) (ho : PE X o te) (hb : attributeBase o "at" X.env (eval o X.env) = eval o X.env := by rfl) : PE X (.Attribute o "at" pos) (tXat C te) := by
  intro pins s σ H Q I h
  refine zaef hb (thn (ho pins s σ H _ I h) fun u s1 ⟨x, H1, I1, rx, e, dx, tv, v, ex, he, hd, q⟩ => ?_)
  subst ex
  obtain rfl : u = Value.ref e := rx
  obtain ⟨nm, qn, N, bs, bm, sn, sub, ab, col, dd, k0, k1, k2, k3, k5, hC, hbm, _, _⟩ := zht I1.kIn M.cls M.tail
  obtain ⟨⟨vs, sl, oe, h1⟩, _, _⟩ := I1.hok e _ he
  obtain ⟨mA, ns, rl⟩ := I1.hok dx _ hd
  have hv : ∃ w, mA "at" = some w ∧ RelV v w := by
    have := rl "at"
    rw [show List.lookup ("at" : Str) [(("at" : Str), v)] = some v from rfl] at this
    cases y : mA "at" with
    | none => rw [y] at this; exact this.elim
    | some w => rw [y] at this; exact ⟨w, rfl, this⟩
  obtain ⟨w, hw, rw'⟩ := hv
  obtain ⟨hh, g, d, tk, os⟩ := s1
  refine zaky hbm hC oe rfl rfl rfl ns.ns hw (PySem.W.looks_findIn I1.kIn M.ga) (PySem.W.looks_findIn I1.kIn M.gh) (PySem.W.looks_findIn I1.kIn M.at_) (zwg rw') fun tk' => ⟨v, H1, I1.tok _, rw', q⟩
end
noncomputable def zabk (c : Str) (p1 p2 p3 p4 p5 p6 p7 p8 p9 p10 p11 p12 p13 : Pos) : List Stmt :=
  [.Expr (.Call (.Attribute (.Name "ValueError" p1) "__init__" p2) [.Name "self" p3, .JoinedStr [.Constant (.str c) 0 p4, .FormattedValue (.Name "at" p5) 114 none p6] p7] [] p8) p9,
   .Assign [.Attribute (.Name "self" p10) "at" p11] (.Name "at" p12) p13]
noncomputable def zabl (c : Str) (p1 p2 p3 p4 p5 p6 p7 p8 : Pos) : Prop := ∀ env : Env, ∃ pl : Sem Bool, eval (.Call (.Attribute (.Name "ValueError" p1) "__init__" p2) [.Name "self" p3, .JoinedStr [.Constant (.str c) 0 p4, .FormattedValue (.Name "at" p5) 114 none p6] p7] [] p8) env = (do
      let ov ← eval (.Name "ValueError" p1) env
      standAt p2.atName
      let (f, first) ← holding [ov] (getMethod ov "__init__" pl)
      callWith p8 f first (backTo p8 (starEach [.Name "self" p3, .JoinedStr [.Constant (.str c) 0 p4, .FormattedValue (.Name "at" p5) 114 none p6] p7] env)) (backToKw p8 (keywordEach [] env)))
theorem zafj {P : Program} {w : World} {K : PySem.W.Frag} {mg : Str → Option Value} {base : Heap} {C f : Addr} {qual : Str} {st : Stmt} {fd : FuncData} {c : Str} {p1 p2 p3 p4 p5 p6 p7 p8 p9 p10 p11 p12 p13 : Pos} (F : Fun K "__init__" qual st f fd) (M : XMk K C f) (hm : mg "ValueError" = none)
    (hb : zbp st = zabk c p1 p2 p3 p4 p5 p6 p7 p8 p9 p10 p11 p12 p13) (hsc : zal st = { kind := .function, names := [("self", .local), ("at", .local), ("ValueError", .globalImplicit)], isGenerator := false, isCoroutine := false }) (hc : c.length ≤ 1000) (ht : zabl c p1 p2 p3 p4 p5 p6 p7 p8) :
    FnOk P w K mg base CX0 1 f fd ["self", "at"] (spI C) := by
  have nd : (["self", "at"] : List Str).Nodup := by decide +kernel
  have S : FnScope ["self", "at"] ["self", "at"] (zal st) := by rw [hsc]; exact ⟨rfl, rfl, rfl, nd, rfl, by decide +kernel, by decide +kernel⟩
  refine F.ok S (fun vs H Q E h => by obtain ⟨e, v, rfl, _⟩ := h; rfl) fun cdv A outer s H vs Q E hr h => ?_
  obtain ⟨e, v, rfl, he, av, q⟩ := h
  have g0 : visB (cxOf CX0 P w K mg base ["self", "at"] qual (zal st) f cdv A outer s H E).nox.env.scope "self" = true := by show visB (zal st) _ = _; rw [hsc]; decide +kernel
  have g1 : visB (cxOf CX0 P w K mg base ["self", "at"] qual (zal st) f cdv A outer s H E).nox.env.scope "at" = true := by show visB (zal st) _ = _; rw [hsc]; decide +kernel
  have g2 : Gl (cxOf CX0 P w K mg base ["self", "at"] qual (zal st) f cdv A outer s H E).nox "ValueError" := by show (zal st).names.lookup _ = _; rw [hsc]; decide +kernel
  have e0 : ∀ {p : Pos}, PE (cxOf CX0 P w K mg base ["self", "at"] qual (zal st) f cdv A outer s H E).nox (.Name "self" p) (tVar 0) := fun {p} => pv 0 rfl g0
  have e1 : ∀ {p : Pos}, PE (cxOf CX0 P w K mg base ["self", "at"] qual (zal st) f cdv A outer s H E).nox (.Name "at" p) (tVar 1) := fun {p} => pv 1 rfl g1
  refine ⟨tSeq (tDrop (zada C (tCons (tVar 0) (tCons (tMsg (tVar 1)) tNil)))) (tSat C (tVar 0) (tVar 1)), ?_, ?_⟩
  · rw [hb]
    obtain ⟨pl, ht⟩ := ht (cxOf CX0 P w K mg base ["self", "at"] qual (zal st) f cdv A outer s H E).nox.env
    exact zif (zoa (zabj (f := f) (pl := pl) M g2 hm (zhi e0 (zhi (zaiv e1 hc) zkq)) rfl rfl ht)) (zjb (zaiw M e0 e1))
  · exact ⟨_, rfl, v, rfl, av, fun m => ⟨e, _, rfl, he, v, rfl, _, rfl, e, rfl, he, q⟩⟩
end L2
namespace L2
open PySem PySem.Spec PyProof.Rows
noncomputable def atD : PyData → Bool
  | .none => true
  | .str x => decide ((PySem.reprText x).length ≤ 1000)
  | .int n => decide (0 ≤ n ∧ n < 100)
  | _ => false
theorem zug {d : PyData} (h : atD d = true) : zen d = true := by cases d <;> first | rfl | cases h
theorem zala {H : Hp} {d : PyData} {v : V} (h : atD d = true) (r : Rp H d v) : atV v := by
  cases d with
  | none => rw [zlp r]; trivial
  | str x => rw [zdv r]; show (PySem.reprText x).length ≤ 1000; exact of_decide_eq_true h
  | int n => rw [zct r]; show 0 ≤ n ∧ n < 100; exact of_decide_eq_true h
  | _ => cases h
noncomputable def RX (H0 : Hp) (C : Addr) (d : PyData) : XK := fun c od H' => c = .ref C ∧ Same H0 H' ∧ zen d = true ∧ ∃ dx v, od = some dx ∧ H' dx = some (.xd [("at", v)]) ∧ Rp H' d v
theorem RX.base {H0 H1 : Hp} {C : Addr} {d : PyData} (s : Same H0 H1) {c : Value} {od : Option Addr} {H' : Hp} (h : RX H1 C d c od H') : RX H0 C d c od H' :=
  let ⟨a, b, r⟩ := h; ⟨a, s.trans b, r⟩
theorem RX.stx {H0 : Hp} {C : Addr} {d : PyData} {E : XK} (h : ∀ c od H', RX H0 C d c od H' → E c od H') {c : Value} {od : Option Addr} {H' : Hp} (q : RX H0 C d c od H') : StX H0 E c od H' := by
  intro H3 r1 r2
  obtain ⟨a, b, f, dx, v, e1, e2, e3⟩ := q
  exact h _ _ _ ⟨a, fun x o z => r1 x o z (b x o z), f, dx, v, e1, r2 _ _ e2 (fun φ z => by cases z), zkc f e3⟩
inductive OutX where
  | ok (o : Out)
  | rx (c : Str) (d : PyData)
noncomputable def SatX (cl : Str → Addr) (fx : Addr → Prop) (H0 : Hp) (D : Ends) (E : XK) : OutX → Prop
  | .ok o => Sat fx H0 D o
  | .rx c d => ∀ k od H', RX H0 (cl c) d k od H' → E k od H'
noncomputable abbrev SFX := DEnv → Option OutX
noncomputable def SSx (cl : Str → Addr) (ts : XK → TS) (F : SFX) : Prop := ∀ (fx : Addr → Prop) (H0 : Hp) (env : DEnv) (σ : St) (H : Hp) (D : Ends) (E : XK), EnvOk fx H0 env σ H → ∀ o, F env = some o → SatX cl fx H0 D E o → ts E D σ H
section
variable {cl : Str → Addr}
noncomputable def xOf (f : SF) : SFX := fun env => (f env).map .ok
theorem zqq {t : TS} {f : SF} (h : SS t f) : SSx cl (fun _ => t) (xOf f) := by
  intro fx H0 env σ H D E hE o e q
  obtain ⟨o', e', rfl⟩ := Option.map_eq_some_iff.mp e
  exact h fx H0 env σ H D hE o' e' q
noncomputable def xSeq (f g : SFX) : SFX := fun env => (f env).bind fun o => match o with
  | .ok (.nx env') => g env'
  | o => some o
theorem zos {t u : XK → TS} {f g : SFX} (h1 : SSx cl t f) (h2 : SSx cl u g) : SSx cl (fun E => tSeq (t E) (u E)) (xSeq f g) := by
  intro fx H0 env σ H D E hE o e q
  obtain ⟨o1, e1, e⟩ := Option.bind_eq_some_iff.mp e
  refine h1 fx H0 env σ H _ E hE o1 e1 ?_
  cases o1 with
  | rx c d => cases e; exact q
  | ok o1 =>
    cases o1 with
    | nx env' => exact fun σ' H' h' => h2 fx H0 env' σ' H' D E h' o e q
    | bk env' => cases e; exact q
    | ct env' => cases e; exact q
    | rt d fr => cases e; exact q
noncomputable def xIf (c : TF) (f g : SFX) : SFX := fun env => (c env).bind fun b => if b = true then f env else g env
theorem zadb {tc : TT} {t u : XK → TS} {c : TF} {f g : SFX} (hc : ST tc c) (h1 : SSx cl t f) (h2 : SSx cl u g) : SSx cl (fun E => tIfS tc (t E) (u E)) (xIf c f g) := by
  intro fx H0 env σ H D E h o e q
  obtain ⟨b, eb, e⟩ := Option.bind_eq_some_iff.mp e
  refine hc fx H0 env σ H h b eb _ fun H' s => ?_
  cases b with
  | true => exact iteT (h1 fx H0 env σ H' D E (h.up s) o e q)
  | false => exact iteF (h2 fx H0 env σ H' D E (h.up s) o e q)
noncomputable def znk (c : Str) (f : EF) : SFX := fun env => (f env).bind fun r => if atD r.d = true then some (.rx c r.d) else none
theorem zqr {c : Str} {te : TE} {f : EF} (h1 : SE te f) : SSx cl (fun E => zxs (cl c) E te) (znk c f) := by
  intro fx H0 env σ H D E h o e q
  obtain ⟨r, er, e⟩ := Option.bind_eq_some_iff.mp e
  split at e
  · rename_i ha
    cases e
    refine h1 fx H0 env σ H h r er _ fun v H' s hv => ⟨zala ha hv.rp, fun H2 dx s2 hd => q _ _ _ ⟨rfl, (h.base.trans s).trans s2, zug ha, dx, v, rfl, hd, zkc (zug ha) hv.rp⟩⟩
  · cases e
noncomputable def zvh (g : GT) (body : SFX) : List PyData → DEnv → Option OutX
  | [], env => some (.ok (.nx env))
  | d :: ds, env => (g d env).bind fun e1 => (body e1).bind fun o => match o with
    | .ok (.nx e2) => zvh g body ds e2
    | .ok (.ct e2) => zvh g body ds e2
    | .ok (.bk e2) => some (.ok (.nx e2))
    | .ok (.rt d fr) => some (.ok (.rt d fr))
    | .rx c d => some (.rx c d)
noncomputable def xFor (f : IF') (g : GT) (body : SFX) : SFX := fun env => (f env).bind fun z => zvh g body z.1 (frzs env z.2)
theorem zafk {wi : TI} {g : TG} {tb : XK → TS} {f : IF'} {gf : GT} {body : SFX} (h1 : SI wi f) (h2 : SG g gf) (h3 : SSx cl tb body) : SSx cl (fun E => tFor wi g (tb E)) (xFor f gf body) := by
  intro fx H0 env σ H D E h o e q
  obtain ⟨⟨ds, bs⟩, er, e⟩ := Option.bind_eq_some_iff.mp e
  refine h1 fx H0 env σ H h ds bs er _ fun J H1 s yl => ?_
  have hE := (h.up s).frzs bs
  have fl := hE.floor
  refine ⟨fun i m σ' H' => m = ds.length - i ∧ i ≤ ds.length ∧ ∃ env', zvh gf body (ds.drop i) env' = some o ∧ EnvOk fx (Offs (own (frzs env bs) σ) H1) env' σ' H', ⟨ds.length, rfl, Nat.zero_le _, _, e, hE.rebase⟩, ?_⟩
  rintro i m σ' H' ⟨rfl, hi, env', e', h'⟩
  obtain ⟨yi, ys⟩ := yl _ H' h'.all h'.seen
  by_cases hlt : i < ds.length
  · obtain ⟨yg, yy⟩ := yi i ds[i] (List.getElem?_eq_getElem hlt)
    refine .inr ⟨yg, fun σ'' H'' => i + 1 ≤ ds.length ∧ ∃ env'', zvh gf body (ds.drop (i + 1)) env'' = some o ∧ EnvOk fx (Offs (own (frzs env bs) σ) H1) env'' σ'' H'', ?_, ?_⟩
    · rintro σ'' H'' ⟨hle, env'', e'', h''⟩
      exact ⟨ds.length - (i + 1), by omega, rfl, hle, env'', e'', h''⟩
    · intro x H'' hy
      obtain ⟨sy, ry⟩ := yy x H'' hy
      rw [List.drop_eq_getElem_cons hlt] at e'
      obtain ⟨e1, ee1, e'⟩ := Option.bind_eq_some_iff.mp e'
      obtain ⟨o1, eo1, e'⟩ := Option.bind_eq_some_iff.mp e'
      refine h2 fx _ env' σ' H'' _ x (h'.up sy) ry e1 ee1 _ fun σ2 h2' => h3 fx _ e1 σ2 H'' _ E h2' o1 eo1 ?_
      cases o1 with
      | rx c d => cases e'; exact fun k od H3 r => q k od H3 (r.base fl)
      | ok o1 =>
        cases o1 with
        | nx e2 => exact fun σ3 H3 hh => ⟨hlt, e2, e', hh⟩
        | ct e2 => exact fun σ3 H3 hh => ⟨hlt, e2, e', hh⟩
        | bk e2 => cases e'; exact fun σ3 H3 hh => q σ3 H3 (hh.unbase fl)
        | rt d fr => cases e'; exact fun v H3 sh rt => q v H3 (fl.trans sh) (rt.unbase fl)
  · have hi' : i = ds.length := by omega
    subst hi'
    rw [List.drop_length] at e'
    cases e'
    exact .inl ⟨ys, q σ' H' (h'.unbase fl)⟩
inductive ResX where
  | ok (d : PyData) (fr : Bool)
  | rx (c : Str) (d : PyData)
noncomputable abbrev GFX := List PyData → Option ResX
noncomputable def zalb (cl : Str → Addr) (fx : Addr → Prop) (H : Hp) (Q : VK) (E : XK) : ResX → Prop
  | .ok d fr => ∀ v H', Same H H' → zsz fx H d fr v H' → Q v H'
  | .rx c d => ∀ k od H', RX H (cl c) d k od H' → E k od H'
noncomputable def spX (cl : Str → Addr) (n : Nat) (g : GFX) : Sp := fun vs H Q E => ∃ (fx : Addr → Prop) (ds : List PyData) (r : ResX), ds.length = n ∧ (∀ b, fx b → ∃ o, H b = some o) ∧ Rps (Offs fx H) ds vs ∧ g ds = some r ∧ zalb cl fx H Q E r
theorem zafl {n : Nat} {g : GFX} {vs : List V} {H : Hp} {Q : VK} {E : XK} (h : spX cl n g vs H Q E) : vs.length = n := by
  obtain ⟨fx, ds, r, hn, hf, rr, _⟩ := h
  rw [← rr.length]; exact hn
noncomputable def fnX (n : Nat) (f : SFX) : GFX := fun ds => match f (ziv n ds) with
  | some (.ok (.rt d fr)) => some (.ok d fr)
  | some (.ok (.nx _)) => some (.ok .none false)
  | some (.rx c d) => some (.rx c d)
  | _ => none
theorem fn_x {N : List Str} {n : Nat} {f : SFX} {t : XK → TS} (hs : SSx cl t f) {vs : List V} {H : Hp} {Q : VK} {E : XK} (h : spX cl n (fnX N.length f) vs H Q E) : t (StX H E) { nx := fun _ H' => Q .non H', rt := Q } (zjc N vs) H := by
  obtain ⟨fx, ds, r, hn, hf, rr, g, k⟩ := h
  unfold fnX at g
  split at g
  · rename_i d' fr' eo
    cases g
    exact hs fx H _ _ H _ _ (zhs hf rr) _ eo fun v H' s rt => k v H' s rt
  · rename_i e' eo
    cases g
    exact hs fx H _ _ H _ _ (zhs hf rr) _ eo fun σ H' hE => k .non H' hE.base ⟨zem, fun z => by cases z⟩
  · rename_i c d eo
    cases g
    exact hs fx H _ _ H _ _ (zhs hf rr) _ eo fun k' od H' q => RX.stx k q
  · cases g
end
end L2
namespace L2
open PySem PySem.Spec PyProof.Rows
noncomputable abbrev Cx.hold (X : Cx) (e : Addr) : Cx := { X with A := X.A.mark (some (.ref e)), calm := false, xe := fun _ _ => False }
section
variable {X : Cx} {pins : List (Addr × Obj)} {σ : St} {H : Hp} {s : Shared}
theorem Inv.hold (I : Inv X pins σ H s) (e : Addr) : Inv (X.hold e) pins σ H s :=
  ⟨⟨I.ok.mod, I.ok.kind, I.ok.glob, I.ok.blt, I.ok.above, I.ok.inj, I.ok.has, I.ok.cab, (fun z => by cases z), I.ok.frames, I.ok.stk, I.ok.exf, I.ok.bs, I.ok.bsz, I.ok.noex, I.ok.exfs, I.ok.funs, I.ok.frf⟩, I.os, I.bare, I.base, I.loc, I.cell, I.free, I.freeC, I.pin, I.hok, I.len⟩
theorem Inv.unhold {e : Addr} (ok : X.Ok) (I : Inv (X.hold e) pins σ H s) : Inv X pins σ H s :=
  ⟨ok, I.os, I.bare, I.base, I.loc, I.cell, I.free, I.freeC, I.pin, I.hok, I.len⟩
theorem zafm {A : Around} {E : Value → Shared → Prop} {n : Str} {pos : Pos} {j : Nat} {Q : Unit → Shared → Prop} (I : Inv X pins σ H s) (hN : X.N.Nodup) (hj : X.N[j]? = some n) (hl : X.env.scope.names.lookup n = some .local)
    (h : ∀ s', Inv X pins (σ.set j none) H s' → Q () s') : wpAny (model X.prog X.w) A (do bindName X.env n .none; unbindBehindTheSuite X.env n pos) Q E s := by
  obtain ⟨m, hn, hlk⟩ := id I.loc
  have hcls : (X.env.scope.kind == .class || (X.env.scope.kind == .module && X.env.locals != X.env.globals)) = false := by rw [I.ok.kind]; rfl
  refine wpAny_nameGoes_keeps hl hn hcls fun h' v ns sb => h _ ?_
  have lo : ∀ b ob, X.s₀.heap.get? b = some ob → h'.get? b = s.heap.get? b := fun b ob e => sb.2 b (Nat.ne_of_lt (Nat.lt_of_lt_of_le (Heap.lt_size e) I.ok.above))
  have cne := I.cne
  refine ⟨I.ok, I.os, I.bare, ⟨fun b o e n hb hx => (lo b o e).trans (I.base.keep b o e n hb hx), fun b o e n hb hx => ?_, I.base.free, fun b o e hx => ?_, I.base.tups, I.base.frzs, I.base.tbls⟩, ⟨_, ns, fun k y v' e1 e2 e3 => ?_⟩, fun y c e => ?_, I.free, I.freeC, fun p hp => ?_, fun b ob e => ?_, by simpa using I.len⟩
  · obtain ⟨sl, e1⟩ := I.base.slot b o e n hb hx
    exact ⟨sl, (lo b o e).trans e1⟩
  · obtain ⟨o', e1⟩ := I.base.there b o e hx
    exact ⟨o', (lo b o e).trans e1⟩
  · by_cases hk : k = j
    · subst hk
      rw [List.getElem?_set_self (by have := (List.getElem?_eq_some_iff.mp hj).1; rw [I.len]; exact this)] at e2
      cases e2
    · rw [List.getElem?_set_ne (Ne.symm hk)] at e2
      obtain ⟨u', r', q⟩ := hlk k y v' e1 e2 e3
      refine ⟨u', r', ?_⟩
      rcases q with ⟨z, e⟩ | ⟨z, c, e, y'⟩
      · refine .inl ⟨z, ?_⟩
        have : y ≠ n := fun e => hk (znz hN e1 (e ▸ hj))
        simp [this, e]
      · exact .inr ⟨z, c, e, y'.sameBut sb (cne y c e)⟩
  · obtain ⟨w', z⟩ := I.cell y c e
    exact ⟨w', z.sameBut sb (cne y c e)⟩
  · obtain ⟨e, n, ne, nf, d⟩ := I.pin p hp
    exact ⟨(sb.2 p.1 ne).trans e, n, ne, nf, d⟩
  · refine (I.hok b ob e).stay (fun c w' hc q => (sb.2 c ?_).trans q) (fun _ q => q) fun _ _ q => q
    rintro rfl
    rcases hc with hc | hc
    · rw [← hc, I.free] at e; cases e
    · rw [I.free] at hc; cases hc
end
end L2
namespace L2
open PySem PySem.Spec PyProof.Rows
section
variable {X : Cx} {pins : List (Addr × Obj)} {σ : St} {H : Hp} {s : Shared}
theorem SP.unhold {e : Addr} {D : Ends} {f : Flow} (ok : X.Ok) (h : SP (X.hold e) pins D f s) : SP X pins D f s := by
  cases f with
  | next => obtain ⟨σ', H', I, q⟩ := h; exact ⟨σ', H', Inv.unhold ok I, q⟩
  | brk => obtain ⟨σ', H', I, q⟩ := h; exact ⟨σ', H', Inv.unhold ok I, q⟩
  | cont => obtain ⟨σ', H', I, q⟩ := h; exact ⟨σ', H', Inv.unhold ok I, q⟩
  | ret u => obtain ⟨v, σ', H', I, r, q⟩ := h; exact ⟨v, σ', H', Inv.unhold ok I, r, q⟩
noncomputable def zafn (C : Addr) (sp : Sp) (t : TA) (ts : TS) : TS := fun D σ H => t σ H fun vs H1 => sp vs H1 (fun _ H2 => D.nx σ H2) fun c od H2 => c = .ref C ∧ ∃ dx, od = some dx ∧
  ∀ e H3, (∀ b o, H1 b = some o → H2 b = some o → H3 b = some o) → zxp H2 H3 → (∃ tv, H3 e = some (.ext (xeD e C dx tv))) → ts D σ H3
theorem zafo {C f : Addr} {k : Nat} {fd : FuncData} {ps : List Str} {sp : Sp} {fn cn : Str} {p cpos pos epos hpos cp : Pos} {a : Expr} {as : List Expr} {st0 : Stmt} {suite : List Stmt} {t : TA} {ts : TS}
    (F : FnOk X.prog X.w X.K X.mg X.base (CXE X.prog X.w) k f fd ps sp) (hr : Room k X.A) (hg : Gl X fn) (hm : X.mg fn = some (.ref f)) (hk : PySem.W.keepIn X.K (.ref f) = true) (hb : zla X.K fd ps []) (ha : PA X.nox (a :: as) t)
    (hst : X.stack = X.env :: X.outer) (hfr : X.env.frame = some X.env.locals) (hgc : Gl X cn) (hmc : X.mg cn = some (.ref C)) (hex : PySem.W.exmOne X.K (.ref C) (.ref C) = some true) (hs : ∀ e, PSs (X.hold e) (st0 :: suite) ts)
    (hdb : (fn == ("__debug__" : Str)) = false := by decide) (hdc : (cn == ("__debug__" : Str)) = false := by decide) (he : starEach (a :: as) X.env = (false, eval a X.env) :: starEach as X.env := by rfl) (hpl : (backTo cpos (starEach as X.env)).any (·.1) = false := by rfl)
    (hsw : swapsWith (.Call (.Name fn p) (a :: as) [] cpos) none epos.line X.env = pure false := by rfl) :
    PS X (.Try [.Expr (.Call (.Name fn p) (a :: as) [] cpos) epos] [.ExceptHandler (some (.Name cn cp)) none (st0 :: suite) hpos] [] [] pos) (zafn C sp t ts) := by
  intro pins s σ H D I h
  refine wpAny_Try_except ?_
  refine wpAny_execs_cons (wpAny_Expr_any (wpAny_Call_Name_kw (zhh I hg hm ?_ hdb)) I.quiet hsw)
  refine PySem.W.callWith_K (h₀ := X.base) I.ok.mod.kin hk (wpAny_mono (ha cpos pins s σ H _ (I.wish _) h) (fun us s1 ⟨vs, H1, I1, r, q⟩ => ⟨I1.kIn, ?_⟩) fun _ _ z => z.elim) he hpl
  have I1 : Inv X pins σ H1 s1 := I1.unwish
  have hl : us.length = ps.length := by rw [← r.length]; exact F.len _ _ _ _ q
  refine wpAny_call (codeAny_mono (F.run X.A X.stack s1 H1 ⟨us, []⟩ us vs _ _ hr I1.env0 (by have := hb s1 us I1.kIn (by rw [List.append_nil]; exact hl); rw [List.append_nil] at this; exact this) r q) fun res s' hq => ?_)
  cases res with
  | ok fl =>
    cases fl with
    | ret u =>
      obtain ⟨v, H2, I2, rv, q2⟩ := I1.after hq
      exact wpAny_execs_nil (wpAny_execs_nil ⟨_, H2, I2, q2⟩)
    | next => exact False.elim hq
    | brk => exact False.elim hq
    | cont => exact False.elim hq
  | error ev =>
    obtain ⟨e, C', dx, H2, rfl, os, bare, un, ok, fl, stx⟩ := hq
    have I2 := I1.call' (s' := s') os un ok bare (fun b z => absurd z (by simp))
    refine zmb I2 hst hfr (fun b ob z => un.there b ob z (by simp)) fl fun s3 H3 I3 ⟨T, hT1, hT2, hT3, hT4⟩ ho hkx hz3 => ?_
    obtain ⟨eC, dx', edx, sq⟩ := stx H3 (fun b o z1 z2 => ho b o _ (I1.hok b o z1).there.choose_spec z2) hkx
    cases eC
    cases edx
    obtain ⟨⟨vs', sl, oe, h1⟩, _, _⟩ := I3.hok e _ hT1
    have tb := (I3.hok T _ hT4).1
    have J3 := I3.hold e
    refine wpAny_handleBy_cons (codeAny_handlers_test (zhh J3 hgc hmc ?_ hdc)) (by intro z; cases z)
    have LT : PySem.W.Looks (model X.prog X.w) s3.heap (typeOf (.ref e)) (.ref C) := (PySem.W.Looks.ld oe).andThen .now
    refine (PySem.W.exm_one (I3.kIn) LT hex).here ?_
    show codeAny _ _ _ _ _
    refine codeAny_handlers_suite (zqp oe rfl h1 tb fun h' kp tb' => ?_)
    have hup : upd H3 T (.ext fun h => h.Tb T) = H3 := by
      funext b
      by_cases hb : b = T
      · subst hb; rw [zau, hT4]
      · rw [zay hb]
    have J4 : Inv (X.hold e) pins σ H3 { s3 with heap := h' } := by
      have := J3.write (x := T) (e := T) (o := .ext fun h => h.Tb T) (h' := h') (t' := s3.toks) (by rw [hT4]; exact True.intro) (.inl rfl) (fun b u hb z => kp b u hb z) (let ⟨oT, _, z, _⟩ := tb'; ⟨oT, z⟩) (zuf tb')
      rw [hup] at this
      exact this
    exact wpAny_mono (hs e pins _ σ H3 D J4 (sq e H3 (fun _ _ _ z => z) (fun _ _ z _ => z) ⟨_, hT1⟩)) (fun fl s6 q6 => SP.unhold I.ok q6) fun _ _ z => z.elim
end
end L2
namespace L2
open PySem PySem.Spec PyProof.Rows
noncomputable def tErr (Ok : Addr → Prop) (ts : Addr → TS) (j : Nat) (D : Ends) (σ : St) (H1 : Hp) : XK := fun c od H2 => ∃ C dx, c = .ref C ∧ Ok C ∧ od = some dx ∧
  ∀ e H3, (∀ b o, H1 b = some o → H2 b = some o → H3 b = some o) → zxp H2 H3 → (∃ tv, H3 e = some (.ext (xeD e C dx tv))) →
    ts C { nx := fun σ' H' => D.nx (σ'.set j none) H', rt := fun _ _ => False } (σ.set j (some (.ref e))) H3
section
variable {X : Cx} {pins : List (Addr × Obj)} {σ : St} {H1 : Hp} {s1 : Shared}
theorem handled {Ok : Addr → Prop} {ts : Addr → TS} {B : Addr} {n cn : Str} {hpos cp : Pos} {st0 : Stmt} {suite : List Stmt} {j : Nat} {D : Ends} {ev : Value} {s' : Shared}
    (hN : X.N.Nodup) (hj : X.N[j]? = some n) (hn : X.env.scope.names.lookup n = some .local) (hst : X.stack = X.env :: X.outer) (hfr : X.env.frame = some X.env.locals) (hgc : Gl X cn) (hmc : X.mg cn = some (.ref B))
    (hex : ∀ C, Ok C → PySem.W.exmOne X.K (.ref C) (.ref B) = some true) (hs : ∀ C, Ok C → ∀ e, PSs (X.hold e) (st0 :: suite) (ts C)) (hdc : (cn == ("__debug__" : Str)) = false)
    (I1 : Inv X pins σ H1 s1) (hq : CXE X.prog X.w X.stack H1 s1 (tErr Ok ts j D σ H1) ev s') :
    wpAny (model X.prog X.w) X.A (noteFrame ev X.env) (fun _ s2 => wpAny (model X.prog X.w) X.A (setFlight ev none) (fun _ s3 => wpAny (model X.prog X.w) X.A (handleBy ev X.env [.ExceptHandler (some (.Name cn cp)) (some n) (st0 :: suite) hpos]) (SP X pins D) X.xe s3) X.xe s2) X.xe s' := by
  obtain ⟨e, C', dx, H2, rfl, os, bare, un, ok, fl, stx⟩ := hq
  have I2 := I1.call' (s' := s') os un ok bare (fun b z => absurd z (by simp))
  refine zmb I2 hst hfr (fun b ob z => un.there b ob z (by simp)) fl fun s3 H3 I3 ⟨T, hT1, hT2, hT3, hT4⟩ ho hkx hz3 => ?_
  obtain ⟨C, dx', eC, hOk, edx, sq⟩ := stx H3 (fun b o z1 z2 => ho b o _ (I1.hok b o z1).there.choose_spec z2) hkx
  cases eC
  cases edx
  obtain ⟨⟨vs', sl, oe, h1⟩, _, _⟩ := I3.hok e _ hT1
  have tb := (I3.hok T _ hT4).1
  have J3 := I3.hold e
  refine wpAny_handleBy_cons (codeAny_handlers_test (zhh J3 hgc hmc ?_ hdc)) (by intro z; cases z)
  have LT : PySem.W.Looks (model X.prog X.w) s3.heap (typeOf (.ref e)) (.ref C') := (PySem.W.Looks.ld oe).andThen .now
  refine (PySem.W.exm_one (I3.kIn) LT (hex C' hOk)).here ?_
  show codeAny _ _ _ _ _
  refine codeAny_handlers_suite_as (zqp oe rfl h1 tb fun h' kp tb' => ?_)
  have hup : upd H3 T (.ext fun h => h.Tb T) = H3 := by
    funext b
    by_cases hb : b = T
    · subst hb; rw [zau, hT4]
    · rw [zay hb]
  have J4 : Inv (X.hold e) pins σ H3 { s3 with heap := h' } := by
    have := J3.write (x := T) (e := T) (o := .ext fun h => h.Tb T) (h' := h') (t' := s3.toks) (by rw [hT4]; exact True.intro) (.inl rfl) (fun b u hb z => kp b u hb z) (let ⟨oT, _, z, _⟩ := tb'; ⟨oT, z⟩) (zuf tb')
    rw [hup] at this
    exact this
  refine zlg (X := X) (Inv.unhold I1.ok J4) hN hj (.inl hn) (show RelV (.ref e) (.ref e) from rfl) (fun s5 J5 => ?_) (.inr hn)
  refine wpAny_mono (hs C' hOk e pins s5 _ H3 _ (J5.hold e) (sq e H3 (fun _ _ _ z => z) (fun _ _ z _ => z) ⟨_, hT1⟩)) (fun fl s6 q6 => ?_) fun _ _ z => z.elim
  cases fl with
  | next =>
    obtain ⟨σ', H', J6, q6⟩ := q6
    exact zafm (Inv.unhold I1.ok J6) hN hj hn fun s7 I7 => ⟨_, _, I7, q6⟩
  | ret u => obtain ⟨v, σ', H', J6, _, q6⟩ := q6; exact q6.elim
  | brk => obtain ⟨σ', H', J6, q6⟩ := q6; exact q6.elim
  | cont => obtain ⟨σ', H', J6, q6⟩ := q6; exact q6.elim
noncomputable def zafp (Ok : Addr → Prop) (w : Str) (sp : Sp) (t : TA) (ts : Addr → TS) (i j : Nat) : TS := fun D σ H => t σ H fun vs H1 => sp vs H1 (fun v H2 => ∀ p, H2 p = none → D.nx (σ.set i (some (.ref p))) (upd H2 p (.tup [.str w, v]))) (tErr Ok ts j D σ H1)
theorem zafq {Ok : Addr → Prop} {f B : Addr} {k : Nat} {fd : FuncData} {ps : List Str} {sp : Sp} {wd fn x n cn : Str} {x1 x2 : Nat} {p cpos wpos tpos pos pos' apos hpos cp : Pos} {a : Expr} {as : List Expr} {st0 : Stmt} {suite : List Stmt} {t : TA} {ts : Addr → TS} {i j : Nat}
    (F : FnOk X.prog X.w X.K X.mg X.base (CXE X.prog X.w) k f fd ps sp) (hr : Room k X.A) (hg : Gl X fn) (hm : X.mg fn = some (.ref f)) (hk : PySem.W.keepIn X.K (.ref f) = true) (hb : zla X.K fd ps []) (ha : PA X.nox (a :: as) t)
    (hN : X.N.Nodup) (hi : X.N[i]? = some x) (hx : X.env.scope.names.lookup x = some .local) (hj : X.N[j]? = some n) (hn : X.env.scope.names.lookup n = some .local)
    (hst : X.stack = X.env :: X.outer) (hfr : X.env.frame = some X.env.locals) (hgc : Gl X cn) (hmc : X.mg cn = some (.ref B)) (hex : ∀ C, Ok C → PySem.W.exmOne X.K (.ref C) (.ref B) = some true) (hs : ∀ C, Ok C → ∀ e, PSs (X.hold e) (st0 :: suite) (ts C))
    (hdb : (fn == ("__debug__" : Str)) = false) (hdc : (cn == ("__debug__" : Str)) = false) (he : starEach (a :: as) X.env = (false, eval a X.env) :: starEach as X.env) (hpl : (backTo cpos (starEach as X.env)).any (·.1) = false)
    (hsw : swapsWith (.Tuple [.Constant (.str wd) x2 wpos, .Call (.Name fn p) (a :: as) [] cpos] x1 tpos) (some (.Name x pos')) apos.line X.env = pure false) :
    PS X (.Try [.Assign [.Name x pos'] (.Tuple [.Constant (.str wd) x2 wpos, .Call (.Name fn p) (a :: as) [] cpos] x1 tpos) apos] [.ExceptHandler (some (.Name cn cp)) (some n) (st0 :: suite) hpos] [] [] pos) (zafp Ok wd sp t ts i j) := by
  intro pins s σ H D I h
  refine wpAny_Try_except ?_
  refine wpAny_execs_cons (wpAny_Assign_Name (wpAny_Tuple_spliced ?_) hsw)
  show wpAny _ _ (spliced ((false, eval (.Constant (.str wd) x2 wpos) X.env) :: backTo tpos (starEach [.Call (.Name fn p) (a :: as) [] cpos] X.env))) _ _ s
  refine Calls.spliced_cons (Calls.Constant_str ?_)
  have I0 : Inv X pins σ H { s with toks := s.toks + 1 } := I.tok _
  show wpAny _ _ (spliced ((false, eval (.Call (.Name fn p) (a :: as) [] cpos) X.env) :: backTo tpos (starEach [] X.env))) _ _ _
  refine Calls.spliced_cons (wpAny_Call_Name_kw (zhh I0 hg hm ?_ hdb))
  refine PySem.W.callWith_K (h₀ := X.base) I.ok.mod.kin hk (wpAny_mono (ha cpos pins _ σ H _ (I0.wish _) h) (fun us s1 ⟨vs, H1, I1, r, q⟩ => ⟨I1.kIn, ?_⟩) fun _ _ z => z.elim) he hpl
  have I1 : Inv X pins σ H1 s1 := I1.unwish
  have hl : us.length = ps.length := by rw [← r.length]; exact F.len _ _ _ _ q
  refine wpAny_call (codeAny_mono (F.run X.A X.stack s1 H1 ⟨us, []⟩ us vs _ _ hr I1.env0 (by have := hb s1 us I1.kIn (by rw [List.append_nil]; exact hl); rw [List.append_nil] at this; exact this) r q) fun res s' hq => ?_)
  cases res with
  | ok fl =>
    cases fl with
    | ret u =>
      obtain ⟨v, H2, I2, rv, q2⟩ := I1.after hq
      refine Calls.spliced_nil ⟨by show 2 ≤ sizeLine; rw [sizeLine_eq]; omega, ?_⟩
      have hf : H2 s'.heap.objs.size = none := I2.hok.fresh (Nat.le_refl _)
      refine zlg (I2.laid (a := s'.heap.objs.size) (o := .tup [.str wd, v]) (t' := s'.toks) (fun b u e => Heap.get?_push_of_some _ e) (Nat.le_refl _) ?_) hN hi (.inl hx) (show RelV (.ref _) (.ref _) from rfl) (fun s3 I3 => wpAny_execs_nil (wpAny_execs_nil ⟨_, _, I3, q2 _ hf⟩)) (.inr hx)
      exact ⟨by show 2 ≤ sizeLine; rw [sizeLine_eq]; omega, [.str wd _, u], .cons ⟨_, rfl⟩ (.cons rv .nil), ⟨_, Heap.get?_push_size _ rfl, rfl, _, rfl⟩⟩
    | next => exact False.elim hq
    | brk => exact False.elim hq
    | cont => exact False.elim hq
  | error ev => exact handled hN hj hn hst hfr hgc hmc hex hs hdc I1 hq
end
end L2
namespace PySem
open Sem (wp)
open Builtin Builtin.ObjectAttr
section
variable {prog : Program} {w : World} {A : Around} {E : Value → Shared → Prop} {h : Heap} {g : Array GenState} {d : Drawn} {t : Nat} {os : OsState}
variable {nm q : Str} {C N x : Addr} {bs bm : List Value} {sn : List Str} {sub : List Value} {ab : Bool} {col : Option Bool} {dd : Option Addr} {k0 k1 k2 k3 k5 : Option Value} {newId : String} {o : Obj}
theorem zvi {R : Result → Shared → Prop} (hr : zdj bm = true) (hC : h.get? C = some (excClassObj nm q C N bs bm true sn sub ab col dd k0 k1 k2 k3 k5 newId)) (hx : h.get? x = some o) (hc : o.cls = .ref C) (hq : R (.ok (.ret (.ref C))) ⟨h, g, d, t, os⟩) :
    codeAny (model prog w) A (.call (.builtin "getset_descriptor.__get__") ⟨[.builtin "object.__class__", .ref x, .ref C], []⟩) R ⟨h, g, d, t, os⟩ := by
  have hT5 : (⟨h, g, d, t, os⟩ : Shared).TypeIs (.builtin "object.__class__") "getset_descriptor" := F.typeOf_object_class
  have hcB : (Value.ref C :: bm).contains (.type (".".intercalate ("object.__class__".cutAt '.').dropLast)) = true := by
    rw [F.owner_object_class, List.contains_cons, zco (by decide) hr]; rfl
  refine codeAny_call_builtin F.slot_gs_get.plain F.entry_gs_get (F.slot_gs_get.check _ _ _ _ _ _ _ _ hT5 (F.args_gs_get _ _ _) ?_)
  repeat (any_goals (first | assumption | (with_reducible refine wpAny_loadPart_at hx ?_; rw [hc]) | (with_reducible refine wpAny_isSubtype_exc hC ?_; rw [hcB]) | wp_step))
  refine ⟨Code.quiet_builtin _ (by decide +kernel), codeAny_builtin F.entry_object_class ?_⟩
  repeat (any_goals (first | assumption | (with_reducible refine wpAny_loadPart_at hx ?_; rw [hc]) | wp_step))
theorem zaiy {Q : Option Value → Shared → Prop} (hr : zdj bm = true) (hC : h.get? C = some (excClassObj nm q C N bs bm true sn sub ab col dd k0 k1 k2 k3 k5 newId)) (hx : h.get? x = some o) (hc : o.cls = .ref C)
    (LG : W.Looks (model prog w) h (typeLookup (.ref C) "__getattribute__") (some (.builtin "BaseException.__getattribute__"))) (LA : W.Looks (model prog w) h (typeLookup (.ref C) "__class__") (some (.builtin "object.__class__")))
    (LH : W.Looks (model prog w) h (typeLookup (.ref C) "__getattr__") none) (hq : Q (some (.ref C)) ⟨h, g, d, t + 1, os⟩) : wpAny (model prog w) A (getAttr? (.ref x) "__class__") Q E ⟨h, g, d, t, os⟩ := by
  have hk : builtinKind "BaseException.__getattribute__" = some .slot := by decide +kernel
  have hsplit : splitId "BaseException.__getattribute__" = some ("BaseException", "__getattribute__") := by decide +kernel
  have hcB : (Value.ref C :: bm).contains (.type "BaseException") = true := by rw [List.contains_cons, zco (by decide) hr, Bool.or_true]
  have hx2 : (Value.builtin "BaseException.__getattribute__" == Value.builtin "object.__getattribute__") = false := by decide +kernel
  have hx1 : (onTheHeap (Value.ref C) && Value.builtin "BaseException.__getattribute__" == Value.builtin "object.__getattribute__") = false := by rw [hx2]; rfl
  have FB := F.attr_ValueError
  have f3 := FB.ga.bind (.ref x)
  have hT5 : (⟨h, g, d, t + 1, os⟩ : Shared).TypeIs (.builtin "object.__class__") "getset_descriptor" := F.typeOf_object_class
  have f5 := F.typeOf_object_class
  have f6 := F.slot_gs_get.lookup
  have f7 := F.slot_gs_set.lookup
  unfold getAttr? getAttrBy? getAttrBy
  repeat (any_goals (first | assumption | (with_reducible refine wpAny_loadPart_at hx ?_; rw [hc]) | (with_reducible refine LG.here ?_) | (with_reducible refine LH.here ?_) | wp_step))
  refine codeAny_call_builtin FB.ga.plain F.entry_bexc_ga ?_
  simp only [checkBuiltinCall, hk, hsplit]
  refine wpAny_bind ?_
  unfold isInstance
  repeat (first | (with_reducible refine wpAny_loadPart_at hx ?_; rw [hc]) | (with_reducible refine wpAny_isSubtype_exc hC ?_; rw [hcB]) | wp_step)
  repeat (any_goals (first | assumption | (with_reducible refine wpAny_loadPart_at hx ?_; rw [hc]) | (with_reducible refine LA.here ?_) | wp_step))
  refine zvi hr hC hx hc ?_
  repeat (any_goals (first | assumption | wp_step))
end
end PySem
namespace L2
open PySem PySem.Spec PyProof.Rows
section
variable {X : Cx} {C f : Addr}
theorem zot {K : PySem.W.Frag} {e C dx f : Addr} (M : XMk K C f) (ha : PySem.W.findIn K (.ref C) "__class__" = some (some (.builtin "object.__class__"))) : PySem.W.KitX K (.ref e) (.ref C) (fun h => ∃ tv, xeD e C dx tv h) where
  ty := fun _ _ _ ⟨_, _, _, a, _⟩ => (PySem.W.Looks.ld a).andThen .now
  it := fun _ _ X _ => by
    obtain ⟨nm, qn, N, bs, bm, sn, sub, ab, col, dd, k0, k1, k2, k3, k5, hC, _⟩ := zht X M.cls M.tail
    intro A' Q' E' s' k q
    unfold isType loadHead
    exact wpAny_bind (wpAny_loadPart (k _ _ hC) (wpAny_pure q))
  ne := fun h tp dd its n sl X htp => by
    obtain ⟨nm, qn, N, bs, bm, sn, sub, ab, col, dd, k0, k1, k2, k3, k5, hC, _⟩ := zht X M.cls M.tail
    refine Bool.eq_false_iff.mpr fun q => ?_
    have e : C = tp := Value.ref.inj (beq_iff_eq.mp q)
    subst e
    have z := congrArg Obj.cls (Option.some.inj (hC.symm.trans htp))
    unfold excClassObj at z
    injection z with z
    exact absurd z (by decide)
  ca := fun {prog w A E Q s} X ⟨tv, vs, sl, a, _⟩ k => by
    obtain ⟨nm, qn, N, bs, bm, sn, sub, ab, col, dd, k0, k1, k2, k3, k5, hC, hbm, _⟩ := zht X M.cls M.tail
    obtain ⟨h, g, d, t, os⟩ := s
    exact zaiy hbm hC a rfl (PySem.W.looks_findIn X M.ga) (PySem.W.looks_findIn X ha) (PySem.W.looks_findIn X M.gh) k
noncomputable def rIsX (K : PySem.W.Frag) (C : Addr) : List V → Hp → VK → Prop := fun xs H Q => ∃ e dx tv b, H e = some (.ext (xeD e C dx tv)) ∧ Q (.bl b) H ∧
  ((∃ c, xs = [.ref e, .ref c] ∧ PySem.W.kitOne K (.ref C) (.ref c) = some b) ∨ (∃ n, xs = [.ref e, .ty n] ∧ PySem.W.kitOne K (.ref C) (.type n) = some b) ∨ ∃ p ys us, xs = [.ref e, .ref p] ∧ H p = some (.tup ys) ∧ (∀ its, Vals ys its → its = us) ∧ PySem.W.kitAny K (.ref C) us = some b)
theorem zabm (M : XMk X.K C f) (ha : PySem.W.findIn X.K (.ref C) "__class__" = some (some (.builtin "object.__class__"))) : CallR X (.builtin "isinstance") (rIsX X.K C) := by
  intro pins s σ H xs us Q I r h
  obtain ⟨e, dx, tv, b, he, q, h⟩ := h
  have hx := (I.hok e _ he).1
  rcases h with ⟨c, rfl, kk⟩ | ⟨n, rfl, kk⟩ | ⟨p, ys, us', rfl, hp, hv, kk⟩
  · obtain ⟨u1, u2, rfl, r1, r2⟩ := zsq r
    cases r1
    cases r2
    exact PySem.W.kia_one (zot (dx := dx) M ha) I.kIn ⟨tv, hx⟩ kk (fun z => nomatch z) fun tk => ⟨.bl b, H, I.tok _, rfl, q⟩
  · obtain ⟨u1, u2, rfl, r1, r2⟩ := zsq r
    cases r1
    cases r2
    exact PySem.W.kia_one (zot (dx := dx) M ha) I.kIn ⟨tv, hx⟩ kk (fun z => nomatch z) fun tk => ⟨.bl b, H, I.tok _, rfl, q⟩
  · obtain ⟨u1, u2, rfl, r1, r2⟩ := zsq r
    cases r1
    cases r2
    obtain ⟨_, its, vi, op, hop, ho1, n, ho2⟩ := I.hok p _ hp
    cases hv its vi
    obtain ⟨oc, od, odt, osl⟩ := op
    cases ho1
    cases ho2
    exact PySem.W.kia_tup (zot (dx := dx) M ha) I.kIn ⟨tv, hx⟩ hop kk (fun z => nomatch z) fun tk => ⟨.bl b, H, I.tok _, rfl, q⟩
end
end L2
namespace L2
open PySem PySem.Spec PyProof.Rows
theorem zafr {X : Cx} {x : Str} {C : Addr} {pos : Pos} (hg : Gl X x) (hm : X.mg x = some (.ref C)) (hd : (x == ("__debug__" : Str)) = false := by decide) : PE X (.Name x pos) (tC (.ref C)) :=
  fun _ _ _ H _ I h => zhh I hg hm ⟨.ref C, H, I, rfl, h⟩ hd
end L2
namespace PySem
open Sem (wp)
noncomputable def SqIt (b : Bool) (h : Heap) (it l : Addr) (i : Nat) : Prop := match b with
  | true => h.IsListIter it l i
  | false => h.IsTupleIter it l i
noncomputable def zmc (b : Bool) (h : Heap) (l : Addr) (xs : Array Value) : Prop := match b with
  | true => h.IsList l xs
  | false => h.IsTuple l xs
theorem SqIt.moved {b : Bool} {h h' : Heap} {it l : Addr} {i : Nat} (x : SqIt b h it l i) (e : ∀ o, h.get? it = some o → h'.get? it = some o) : SqIt b h' it l i := by
  cases b with
  | true => obtain ⟨o, q, r⟩ := x; exact ⟨o, e o q, r⟩
  | false => obtain ⟨o, q, r⟩ := x; exact ⟨o, e o q, r⟩
theorem zmc.moved {b : Bool} {h h' : Heap} {l : Addr} {xs : Array Value} (x : zmc b h l xs) (e : ∀ o, h.get? l = some o → h'.get? l = some o) : zmc b h' l xs := by
  cases b with
  | true => obtain ⟨o, q, r⟩ := x; exact ⟨o, e o q, r⟩
  | false => obtain ⟨o, q, r⟩ := x; exact ⟨o, e o q, r⟩
theorem SqIt.obj {b : Bool} {h : Heap} {it l : Addr} {i : Nat} (x : SqIt b h it l i) : ∃ o, h.get? it = some o ∧ ∀ v, o.data ≠ .cell v := by
  cases b with
  | true => obtain ⟨o, q, _, r⟩ := x; exact ⟨o, q, fun v z => by rw [r] at z; cases z⟩
  | false => obtain ⟨o, q, _, r⟩ := x; exact ⟨o, q, fun v z => by rw [r] at z; cases z⟩
section
variable {prog : Program} {w : World} {A : Around} {E : Value → Shared → Prop} {s : Shared}
theorem zou {it l : Addr} {i : Nat} {items} {x : Value} {Q : Value → Shared → Prop} (hit : s.heap.IsTupleIter it l i)
    (hl : s.heap.IsTuple l items) (hx : items[i]? = some x)
    (hQ : ∀ h', h'.IsTupleIter it l (i + 1) → Heap.SameBut it s.heap h' → Q x { s with heap := h' }) :
    wpAny (model prog w) A (Builtin.SmallTypes.nextOf (.ref it)) Q E s := by
  obtain ⟨o, ho, hc, hd⟩ := id hit
  obtain ⟨ol, hol, _, nl, hdl⟩ := hl
  unfold Builtin.SmallTypes.nextOf
  refine wpAny_bind (wpAny_callSpecial?_slot (name := Str.ofString "__next__") hit.typeIs F.slot_tuple_iterator_next
    (wpAny_call_entry F.slot_tuple_iterator_next hit.typeIs F.entry_tuple_iterator_next ?_ (F.args_tuple_iterator_next_1 _)))
  show wpAny _ _ (field (.ref it) 0 >>= _) _ _ s
  refine wpAny_bind (wpAny_field ho hd (x := .ref l) rfl ?_)
  show wpAny _ _ (if (Value.ref l == Value.none) = true then _ else _) _ _ s
  rw [if_neg (show ¬ ((Value.ref l == Value.none) = true) from Bool.false_ne_true)]
  show wpAny _ _ (field (.ref it) 1 >>= _) _ _ s
  refine wpAny_bind (wpAny_field ho hd (x := .int i 0) rfl ?_)
  show wpAny _ _ (seqItems? (.ref l) >>= _) _ _ s
  refine wpAny_bind (wpAny_seqItems hol hdl ?_)
  simp only [Int.toNat_natCast, hx]
  refine wpAny_bind (wpAny_setField ho hd (by simp) (wpAny_pure ⟨x, rfl, wpAny_pure (hQ _ ?_ (Heap.SameBut.update ..))⟩))
  exact ⟨_, Heap.get?_update_self _ ho (Obj.isFreed_of_fields (Obj.data_mapFields hd _)), (Obj.cls_mapFields ..).trans hc, by
    rw [Obj.data_mapFields hd]; simp [rawInt]⟩
theorem zqs {it l : Addr} {i : Nat} {items} {Q : Value → Shared → Prop} (hh : A.handled = none)
    (hit : s.heap.IsTupleIter it l i) (hl : s.heap.IsTuple l items) (hx : items[i]? = none)
    (hE : ∀ h' e, Heap.ExtBut it s.heap h' → (∃ o, h'.get? e = some o ∧ o.cls = .type "StopIteration") → E (.ref e) { s with heap := h' }) :
    wpAny (model prog w) A (Builtin.SmallTypes.nextOf (.ref it)) Q E s := by
  obtain ⟨o, ho, hc, hd⟩ := id hit
  obtain ⟨ol, hol, _, nl, hdl⟩ := hl
  unfold Builtin.SmallTypes.nextOf
  refine wpAny_bind (wpAny_callSpecial?_slot (name := Str.ofString "__next__") hit.typeIs F.slot_tuple_iterator_next
    (wpAny_call_entry F.slot_tuple_iterator_next hit.typeIs F.entry_tuple_iterator_next ?_ (F.args_tuple_iterator_next_1 _)))
  show wpAny _ _ (field (.ref it) 0 >>= _) _ _ s
  refine wpAny_bind (wpAny_field ho hd (x := .ref l) rfl ?_)
  show wpAny _ _ (if (Value.ref l == Value.none) = true then _ else _) _ _ s
  rw [if_neg (show ¬ ((Value.ref l == Value.none) = true) from Bool.false_ne_true)]
  show wpAny _ _ (field (.ref it) 1 >>= _) _ _ s
  refine wpAny_bind (wpAny_field ho hd (x := .int i 0) rfl ?_)
  show wpAny _ _ (seqItems? (.ref l) >>= _) _ _ s
  refine wpAny_bind (wpAny_seqItems hol hdl ?_)
  simp only [Int.toNat_natCast, hx]
  refine wpAny_bind (wpAny_rule (wpAny_bind (wpAny_setField ho hd (by simp) ?_)))
  show wpAny _ _ (newExc (.type "StopIteration") [] >>= _) _ _ _
  refine wpAny_bind ?_
  simp only [newExc, newTuple]
  refine wpAny_bind (wpAny_newObj_type ?_ (by size_fits))
  refine wpAny_bind (m := firstArgMember _ _) (wpAny_of_eq (a := Value.none) (by first | rfl | (simp only [firstArgMember]; rfl)) ?_)
  refine wpAny_newObj_type ?_ (by size_fits)
  simp only [raiseNew]
  refine wpAny_bind (wpAny_handled ?_)
  first | rw [show A.in1.handled = none from hh] | rw [hh]
  refine wpAny_bind (wpAny_pure (wpAny_throw ?_))
  exact hE _ _ (((Heap.SameBut.update ..).extBut.push _).push _) ⟨_, Heap.get?_push_size _ rfl, rfl⟩
theorem zafs {b : Bool} {it l : Addr} {i : Nat} {xs : Array Value} {x : Value} {Q : Value → Shared → Prop} (hit : SqIt b s.heap it l i) (hl : zmc b s.heap l xs) (hx : xs[i]? = some x)
    (hQ : ∀ h', SqIt b h' it l (i + 1) → Heap.SameBut it s.heap h' → Q x { s with heap := h' }) : wpAny (model prog w) A (Builtin.SmallTypes.nextOf (.ref it)) Q E s := by
  cases b with
  | true => exact wpAny_nextOf_list_item hit hl hx hQ
  | false => exact zou hit hl hx hQ
theorem zadc {b : Bool} {it l : Addr} {i : Nat} {xs : Array Value} {Q : Value → Shared → Prop} (hh : A.handled = none) (hit : SqIt b s.heap it l i) (hl : zmc b s.heap l xs) (hx : xs[i]? = none)
    (hE : ∀ h' e, Heap.ExtBut it s.heap h' → (∃ o, h'.get? e = some o ∧ o.cls = .type "StopIteration") → E (.ref e) { s with heap := h' }) : wpAny (model prog w) A (Builtin.SmallTypes.nextOf (.ref it)) Q E s := by
  cases b with
  | true => exact wpAny_nextOf_list_end hh hit hl hx hE
  | false => exact zqs hh hit hl hx hE
end
end PySem
namespace L2
open PySem PySem.Spec PyProof.Rows
noncomputable def SqX (b : Bool) (K : PySem.W.Frag) (H : Hp) (a : Addr) (xs : List V) : Prop := match b with
  | true => SqL K H a xs
  | false => SqT K H a xs
section
variable {X : Cx} {pins : List (Addr × Obj)} {σ : St} {H : Hp} {s : Shared}
theorem Inv.sq {b : Bool} {a : Addr} {xs : List V} (I : Inv X pins σ H s) (h : SqX b X.K H a xs) : ∃ its : List Value, Vals xs its ∧ zmc b s.heap a its.toArray ∧ xs.length ≤ sizeLine := by
  cases b with
  | true => obtain ⟨its, r, p, z⟩ := I.list h; exact ⟨its, r, p.isList, z⟩
  | false => obtain ⟨its, r, p, z⟩ := I.tuple h; exact ⟨its, r, (show s.heap.IsTuple a its.toArray from p), z⟩
theorem Inv.sq_inj {b : Bool} {a : Addr} {xs ys : List V} (I : Inv X pins σ H s) (h : SqX b X.K H a xs) (h' : SqX b X.K H a ys) : xs = ys := by
  cases b with
  | true => exact I.list_inj h h'
  | false => exact I.tuple_inj h h'
end
end L2
namespace PySem
open Sem (wp)
noncomputable def itO (b : Bool) (l : Addr) : Obj := match b with
  | true => { cls := .type "list_iterator", data := .fields #[.ref l, .int 0 0] }
  | false => { cls := .type "tuple_iterator", data := .fields #[.ref l, .int 0 0] }
theorem zabn {b : Bool} {h : Heap} {a l : Addr} (e : h.get? a = some (itO b l)) : SqIt b h a l 0 := by
  cases b with
  | true => exact ⟨_, e, rfl, rfl⟩
  | false => exact ⟨_, e, rfl, rfl⟩
end PySem
namespace L2
open PySem PySem.Spec PyProof.Rows
theorem zmc.there {b : Bool} {h : Heap} {l : Addr} {xs : Array Value} (x : zmc b h l xs) : l < h.objs.size := by
  cases b with
  | true => obtain ⟨o, q, _⟩ := x; exact Heap.lt_size q
  | false => obtain ⟨o, q, _⟩ := x; exact Heap.lt_size q
theorem zaiz {K : PySem.W.Frag} {A : Addr → Prop} {H : Hp} {d : PyData} {ds : List PyData} {v : V} (h : Rp (Offs A H) d v) (e : zit d = some ds) : ∃ (b : Bool) (a : Addr) (xs : List V), v = .ref a ∧ Rps (Offs A H) ds xs ∧ ∀ (B : Addr → Prop) (H' : Hp), Same (Offs A H) (Offs B H') → SqX b K H' a xs := by
  cases d with
  | list es =>
    cases e
    obtain ⟨a, xs, rfl, ha, r⟩ := zcy h
    exact ⟨true, a, xs, rfl, r, fun B H' s => SqL.of (zdw (s _ _ ha))⟩
  | tuple es =>
    cases e
    obtain ⟨a, xs, rfl, ha, r⟩ := zdb h
    exact ⟨false, a, xs, rfl, r, fun B H' s => SqT.of (zdw (s _ _ ha))⟩
  | _ => cases e
end L2
namespace L2
open PySem PySem.Spec PyProof.Rows
section
variable {X : Cx}
end
end L2
namespace PySem
open Sem (wp)
open AutoSeq1 (wpAny_loadPart')
theorem zabo {prog : Program} {w : World} {A : Around} (hh : A.handled = none) (b : Bool) (it l : Addr) (hne : l ≠ it) (items : Array Value) :
    Draws prog w A it [it, l] items.size (fun i v => items[i]? = some v) (fun i h => SqIt b h it l i ∧ zmc b h l items) where
  live := fun _ _ st => let ⟨o, ho, _⟩ := st.1.obj; ⟨o, ho⟩
  frame := fun _ _ _ st hk => ⟨st.1.moved fun o e => hk it (by simp) o e, st.2.moved fun o e => hk l (by simp) o e⟩
  item := fun i s Q E hi st hQ => by
    refine zafs st.1 st.2 (x := items[i]) (by simp [hi]) fun h' hit' hs' => ?_
    exact hQ _ h' s.toks (by simp [hi]) ⟨hit', st.2.moved fun o e => hs'.extBut _ o hne e⟩ hs'
  done := fun s Q E st hE => zadc hh st.1 st.2 (by simp) hE
theorem zlc (l : Addr) (items : Array Value) (n : Nat) (dct : Option Addr) (sl : Array (Option Value)) :
    Meets (Builtin.«enumerate.__new__» ⟨[.type "enumerate", .ref l], []⟩) (fun _ R s => s.heap.get? l = some { cls := .type "tuple", dict := dct, data := .seq items n, slots := sl } ∧
      R (.ok (.ret (.ref (s.heap.push (itO false l)).objs.size))) { s with heap := (s.heap.push (itO false l)).push { cls := .type "enumerate", data := .fields #[.none, .bool false, .ref s.heap.objs.size, rawInt 0, .none, .none] } }) :=
  .of_wp fun prog w A R s h => by
    obtain ⟨hp, g, d, tk, os⟩ := s; obtain ⟨hl, h⟩ := h
    have hsub := sub_enumerate
    have e1 : Heap.IsTuple (Shared.heap ⟨hp, g, d, tk, os⟩) l items := ⟨_, hl, rfl, n, rfl⟩
    wp_walk using wpAny_loadPart' hl
    refine wpAny_stack_any fun st => wpAny_pure ?_
    split
    · rename_i c _ _ _ _ _
      cases (c == Value.type "enumerate")
      · wp_walk using wpAny_loadPart' hl, wpAny_pyIter_tuple e1
        exact ⟨_, rfl, h⟩
      · wp_walk using wpAny_loadPart' hl, wpAny_pyIter_tuple e1
        exact ⟨_, rfl, h⟩
    · wp_walk using wpAny_loadPart' hl, wpAny_pyIter_tuple e1
      exact ⟨_, rfl, h⟩
theorem zqt {prog : Program} {w : World} {A : Around} {E : Value → Shared → Prop} {s : Shared} {b : Bool} {l : Addr} {items : Array Value} {Q : Value → Shared → Prop} (hL : zmc b s.heap l items)
    (h : ∀ h', IsEnum h' (s.heap.objs.size + 1) s.heap.objs.size 0 .none → SqIt b h' s.heap.objs.size l 0 → (∀ c o, s.heap.get? c = some o → h'.get? c = some o) → Q (.ref (s.heap.objs.size + 1)) { s with heap := h' }) :
    wpAny (model prog w) A (call (.type "enumerate") [.ref l]) Q E s := by
  cases b with
  | true => exact call_enumerate_list hL fun h' e i _ k => h h' e i k
  | false =>
    obtain ⟨⟨c, dct, dt, sl⟩, hl, hc, n, hd⟩ := hL
    replace hc : c = .type "tuple" := hc
    replace hd : dt = .seq items n := hd
    subst hc hd
    refine callType_new F.called_enumerate (by decide) (F.typeCall_enumerate_1 _) (F.newCall_enumerate_1 _) (fun obj => F.args_object_init_2 obj _) F.entry_enumerate_new (zlc l items n dct sl) ⟨hl, ?_⟩
    have hz : (s.heap.push (itO false l)).objs.size = s.heap.objs.size + 1 := Heap.size_push ..
    have he := Heap.get?_push_size (s.heap.push (itO false l)) (o := { cls := .type "enumerate", data := .fields #[.none, .bool false, .ref s.heap.objs.size, rawInt 0, .none, .none] }) rfl
    show _ ∧ _
    rw [hz] at he ⊢
    exact ⟨⟨_, he, rfl⟩, h _ he (zabn (b := false) (Heap.get?_push_of_some _ (Heap.get?_push_size _ rfl))) fun c o x => Heap.get?_push_of_some _ (Heap.get?_push_of_some _ x)⟩
end PySem
namespace L2
open PySem PySem.Spec PyProof.Rows
noncomputable def Itx (K : PySem.W.Frag) (b : Bool) (a : Addr) : It :=
  ⟨fun i H => ∃ xs x, SqX b K H a xs ∧ xs[i]? = some x, fun i H x H' => ∃ p y, x = .ref p ∧ H p = none ∧ H' = upd H p (.tup [.int i, y]) ∧ ∀ xs, SqX b K H a xs → xs[i]? = some y, fun i H => ∃ xs, SqX b K H a xs ∧ xs.length ≤ i⟩
theorem zvj {P : Program} {w : World} {K : PySem.W.Frag} {elts : List Expr} {x1} {tpos : Pos} {b : Bool} (a e it : Addr) (hne : e ≠ it) (hea : e ≠ a) (hai : a ≠ it) :
    Turn P w K (.Tuple elts x1 tpos) (Itx K b a) [e, it] e (fun i h => SqIt b h it a i ∧ ∃ old, IsEnum h e it (i : Int) old) where
  mem := by simp
  obj := fun i h st c hc => by
    obtain ⟨h1, old, h4⟩ := st
    rcases List.mem_cons.mp hc with rfl | hc
    · exact ⟨_, h4, fun v z => by simp at z⟩
    · have q : c = it := by simpa using hc
      subst q
      exact h1.obj
  keep := fun i h h' st k => ⟨st.1.moved fun o q => k it (by simp) o q, let ⟨old, q⟩ := st.2; ⟨old, k e (by simp) _ q⟩⟩
  item := by
    intro X hP hw hK hc i pins s σ H E I hf st hg
    subst hP hw hK
    obtain ⟨xs, x, hq, hx⟩ := hg
    obtain ⟨its, rv, p, hz⟩ := I.sq hq
    obtain ⟨u, hu, ru⟩ := rv.get hx
    obtain ⟨hit, old, he⟩ := st
    have fe := hf e (by simp)
    have fi := hf it (by simp)
    have hlt : i < its.toArray.size := by
      obtain ⟨hh, _⟩ := List.getElem?_eq_some_iff.mp hu
      simpa using hh
    refine wpAny_pyNext_enum_itemD (zabo (by exact I.ok.hd hc) b it a hai its.toArray) he ⟨hit, p⟩ hlt hne (by simp [hne, hea]) fun u' h1 tk pu e1 i1 t1 z1 k1 => ?_
    have hu' : u' = u := by
      have pu : its.toArray[i]? = some u' := pu
      rw [List.getElem?_toArray, hu] at pu
      exact (Option.some.inj pu).symm
    subst hu'
    refine ⟨_, rfl, wpAny_letOwnedTupleGo_enum (s := { s with heap := h1, toks := tk + 1 }) e1 fun h2 e2 sb2 => ?_⟩
    have hp : H s.heap.objs.size = none := I.hok.fresh (Nat.le_refl _)
    have hes : e ≠ s.heap.objs.size := Nat.ne_of_lt (Heap.lt_size he)
    have k2 : ∀ c o, c ≠ e → c ≠ it → s.heap.get? c = some o → h2.get? c = some o := fun c o q1 q2 q => (sb2.2 c q1).trans (k1 c o q1 q2 q)
    have t2 : h2.get? s.heap.objs.size = some { cls := .type "tuple", data := .seq #[.int i tk, u'] } := (sb2.2 _ (Ne.symm hes)).trans t1
    have nch : ∀ c, c ∉ [e, it] → c ≠ e ∧ c ≠ it := fun c hb => ⟨fun z => hb (by simp [z]), fun z => hb (by simp [z])⟩
    refine ⟨.ref s.heap.objs.size, upd H s.heap.objs.size (.tup [.int i, x]), ?_, rfl, ⟨_, x, rfl, hp, rfl, fun ys hy => by rw [I.sq_inj hy hq]; exact hx⟩, ⟨?_, u', e2⟩, fun c hb => ?_⟩
    · refine Inv.step (s := s) (h' := h2) (g' := s.gens) (d' := s.drawn) (t' := tk + 1) (ch := [e, it]) I (fun c hb => ?_) (fun c o _ _ hc q _ => k2 c o (nch c hc).1 (nch c hc).2 q) (fun c o _ _ hc q _ => ⟨o.slots, k2 c o (nch c hc).1 (nch c hc).2 q⟩)
        (fun c o _ q n => by rw [zay (Nat.ne_of_lt (Heap.lt_size q))]; exact n) (fun c o hc q => ⟨o, k2 c o (nch c hc).1 (nch c hc).2 q⟩)
        (fun c xs q => by rw [zay (zbz q hp)]; exact q) (fun c o v q => by rw [zay (zbz q hp)]; exact q) (fun c ps q => ⟨#[], by rw [zay (zbz q hp), q]; simp⟩) (fun m hm => ?_) (fun c v q => ?_) I.bare
      · rcases List.mem_cons.mp hb with rfl | hb
        · exact ⟨fe.2.2.2.1, fe.2.1, fe.2.2.2.2.1, fe.2.2.2.2.2⟩
        · have z : c = it := by simpa using hb
          subst z
          exact ⟨fi.2.2.2.1, fi.2.1, fi.2.2.2.2.1, fi.2.2.2.2.2⟩
      · obtain ⟨o, es, ep, ho, r⟩ := hm
        exact ⟨o, es, ep, k2 _ o (Ne.symm fe.2.1) (Ne.symm fi.2.1) ho, r⟩
      · by_cases hb : c = s.heap.objs.size
        · subst hb
          rw [zau] at q
          cases q
          exact ⟨by show 2 ≤ sizeLine; decide, [.int i tk, u'], .cons ⟨_, rfl⟩ (.cons ru .nil), _, t2, rfl, _, rfl⟩
        · rw [zay hb] at q
          have nt : ∀ c w', H c = some w' → c ≠ e ∧ c ≠ it := fun c w' z => ⟨(fun y => by rw [y, fe.1] at z; cases z), (fun y => by rw [y, fi.1] at z; cases z)⟩
          refine (I.hok c v q).stay (fun c w' hc r => ?_) (fun c r => by rw [zay (zbz r hp)]; exact r) fun c ys r => by rw [zay (zbz r hp)]; exact r
          rcases hc with rfl | hc
          · exact k2 c w' (nt c v q).1 (nt c v q).2 r
          · exact k2 c w' (nt c _ hc).1 (nt c _ hc).2 r
    · exact i1.1.moved fun o q => (sb2.2 _ (Ne.symm hne)).trans q
    · rcases List.mem_cons.mp hb with rfl | hb
      · rw [zay hes]; exact fe.1
      · have z : c = it := by simpa using hb
        subst z
        obtain ⟨o, q1, _⟩ := hit.obj
        rw [zay (Nat.ne_of_lt (Heap.lt_size q1))]
        exact fi.1
  done := by
    intro X hP hw hK hc i pins s σ H E I hf st hg
    subst hP hw hK
    obtain ⟨xs, hq, hx⟩ := hg
    obtain ⟨its, rv, p, hz⟩ := I.sq hq
    obtain ⟨hit, old, he⟩ := st
    obtain ⟨f0, f1, f2, f3, f4, f5⟩ := hf it (by simp)
    have hl := rv.length
    have hT : s.TypeIs (.ref e) "enumerate" := ⟨_, he, rfl⟩
    unfold pyNext
    refine wpAny_bind (wpAny_attempt (wpAny_callSpecial?_slot (name := Str.ofString "__next__") hT F.slot_enumerate_next (wpAny_call_entry F.slot_enumerate_next hT F.entry_enumerate_next ?_ (F.args_enumerate_next_1 _))))
    show wpAny _ _ (field (.ref e) 2 >>= _) _ _ _
    refine wpAny_bind (wpAny_field he rfl (x := .ref it) rfl ?_)
    refine wpAny_bind (zadc (by exact I.ok.hd hc) hit p (by simp; omega) fun h' x he' hx' => ?_)
    obtain ⟨o, ho, hcl⟩ := hx'
    refine wpAny_bind (wpAny_isInstance (T := "StopIteration") (b := true) ⟨o, ho, hcl⟩ isSubtype_stop (wpAny_pure ⟨rfl, ?_⟩))
    exact I.turned (t' := s.toks) (fun c o hb q => he' c o hb q) f0 f1 f3 f4 f5
  self := fun _ _ _ _ _ st h => let ⟨_, q⟩ := st.2; wpAny_pyIter_enum q h
noncomputable def iEnumX (K : PySem.W.Frag) (ta : TA) : TI := fun σ H R => ta σ H fun vs H1 => ∃ b a, vs = [.ref a] ∧ (∃ xs, SqX b K H1 a xs) ∧ R (Itx K b a) H1
theorem zabp {X : Cx} {K : PySem.W.Frag} (hK : X.K = K) {a : Expr} {ta : TA} {p pos : Pos} {elts : List Expr} {x1} {tpos : Pos} (hg : Gl X "enumerate") (hm : X.mg "enumerate" = none) (ha : PA X [a] ta) (hs : starEach [a] X.env = [(false, eval a X.env)] := by rfl) :
    PI X (.Tuple elts x1 tpos) (.Call (.Name "enumerate" p) [a] [] pos) (iEnumX K ta) := by
  subst hK
  intro pins s σ H R I h
  refine Call_ (zkp I hg hm boot_enumerate (PyProof.Rows.callWith_type1 (thn (ha pos pins s σ H _ I h) fun us s1 ⟨vs, H1, I1, r1, q1⟩ => ?_) hs rfl))
  obtain ⟨b, l, rfl, ⟨xs, hq⟩, q⟩ := q1
  obtain ⟨u, rfl, ru⟩ := zuz r1
  cases ru
  obtain ⟨its, rv, pl, hz⟩ := I1.sq hq
  have lt := zmc.there pl
  refine zqt pl fun h' he hit hk => wpAny_pyIter_enum he ?_
  have I2 : Inv X pins σ H1 { s1 with heap := h' } := I1.kept (t' := s1.toks) hk
  refine ⟨s1.heap.objs.size + 1, [s1.heap.objs.size + 1, s1.heap.objs.size], _, _, H1, rfl, I2, zvj l _ _ (Nat.succ_ne_self _) (Nat.ne_of_gt (Nat.lt_succ_of_lt lt)) (Nat.ne_of_lt lt), ⟨hit, _, he⟩, fun c hb => ?_, q⟩
  rcases List.mem_cons.mp hb with rfl | hb
  · exact I1.fpOk (Nat.le_succ _) (I1.hok.fresh (Nat.le_succ _))
  · have e : c = s1.heap.objs.size := by simpa using hb
    subst e
    exact I1.fpOk (Nat.le_refl _) (I1.hok.fresh (Nat.le_refl _))
noncomputable def zxu (f : AF) : IF' := fun env => (f env).bind fun rs => match rs with
  | [r] => (zit r.d).map fun ds => (zta ds, r.bs)
  | _ => none
theorem zabq {K : PySem.W.Frag} {ta : TA} {f : AF} (h1 : SA ta f) : SI (iEnumX K ta) (zxu f) := by
  intro fx H0 env σ H h ds bs e R q
  unfold zxu at e
  obtain ⟨rs, er, e⟩ := Option.bind_eq_some_iff.mp e
  split at e
  · rename_i r
    obtain ⟨d1, ed1, e⟩ := Option.map_eq_some_iff.mp e
    cases e
    refine h1 fx H0 env σ H h _ er _ fun vs H1 s hv => ?_
    cases hv with
    | cons hv t =>
      cases t
      obtain ⟨b, a, xs, rfl, r1, e1⟩ := zaiz (K := K) (Rp.same (Offs.sub (zgb (bs := r.bs))) _ hv.rp) ed1
      refine ⟨b, a, rfl, ⟨xs, e1 _ H1 (Same.refl _)⟩, q _ H1 s ?_⟩
      intro A H' hA ss
      have q1 := e1 A H' ss
      have r1' := Rps.same ss _ r1
      have hl : (zta d1).length = d1.length := by unfold zta; simp
      refine ⟨fun i d e => ?_, ⟨xs, q1, by rw [hl, r1.length]; exact Nat.le_refl _⟩⟩
      unfold zta at e
      rw [List.getElem?_map, List.getElem?_zipIdx] at e
      cases e0 : d1[i]? with
      | none => rw [e0] at e; cases e
      | some d0 =>
        rw [e0] at e
        obtain ⟨v, hv, rv⟩ := r1'.get2 e0
        have e : PyData.tuple [.int ((0 + i : Nat) : Int), d0] = d := Option.some.inj e
        rw [Nat.zero_add] at e
        subst e
        refine ⟨⟨xs, v, q1, hv⟩, fun x H'' y => ?_⟩
        obtain ⟨p, y', rfl, hp, rfl, y⟩ := y
        have := y xs q1
        rw [hv] at this
        cases this
        exact ⟨Same.new hp, zkd hp (zfe hA hp) (zcr zab (zcr rv zdo))⟩
  · cases e
theorem zjo {K : PySem.W.Frag} {ta : TA} {f : AF} (h1 : SA ta f) : SI (iEnumX K ta) (ziu f) := fun fx H0 env σ H h ds bs e R q =>
  zabq h1 fx H0 env σ H h ds bs (by
    unfold ziu at e
    unfold zxu
    obtain ⟨rs, er, e⟩ := Option.bind_eq_some_iff.mp e
    rw [er]
    cases rs with
    | nil => cases e
    | cons r t =>
      cases t with
      | nil =>
        obtain ⟨d, fr, b⟩ := r
        cases d <;> first | exact e | cases e
      | cons _ _ => cases e) R q
end L2
namespace L2
open PySem PySem.Spec PyProof.Rows
noncomputable def Its (z : Str) : It := ⟨fun i _ => i < z.cps.size, fun i H v H' => H' = H ∧ ∃ c, z.cps[i]? = some c ∧ v = .str ⟨#[c]⟩, fun i _ => z.cps.size ≤ i⟩
theorem zabr {P : Program} {w : World} {K : PySem.W.Frag} {tg : Expr} (z : Str) (it : Addr) {ty : String} {t : Tok} (hty : ty = "str_ascii_iterator" ∨ ty = "str_iterator") : Turn P w K tg (Its z) [it] it (fun i h => h.IsStrIter it ty z t i) where
  mem := by simp
  obj := fun i h st b hb => by
    have e : b = it := by simpa using hb
    subst e
    obtain ⟨o, e, c, d⟩ := st
    exact ⟨o, e, fun v z => by rw [d] at z; cases z⟩
  keep := fun i h h' st k => let ⟨o, e, c, d⟩ := st; ⟨o, k it (by simp) o e, c, d⟩
  item := by
    intro X hP hw hK hc i pins s σ H E I hf st hg
    subst hP hw hK
    obtain ⟨f0, f1, f2, f3, f4, f5⟩ := hf it (by simp)
    have W : Walks X.prog X.w X.A it [it] [it] z.cps.size (SignAt z) (fun i h => h.IsStrIter it ty z t i) := by
      rcases hty with rfl | rfl
      · exact Walks.strAscii (I.ok.hd hc) it z t
      · exact Walks.strWide (I.ok.hd hc) it z t
    refine W.item i s _ _ hg st fun v h' tk hv st' kk => ?_
    obtain ⟨c, u, e, rfl⟩ := hv
    have I1 : Inv X pins σ H { s with heap := h', toks := tk } := I.turned (fun b o hb e => kk b o (by simpa using hb) e) f0 f1 f3 f4 f5
    obtain ⟨o, eo, co, dO⟩ := id st'
    refine ⟨_, rfl, zaac (s := { s with heap := h', toks := tk }) eo co dO (by rcases hty with rfl | rfl <;> decide) ⟨.str ⟨#[c]⟩, H, I1, ⟨u, rfl⟩, ⟨rfl, c, e, rfl⟩, st', fun b hb => (hf b hb).1⟩⟩
  done := by
    intro X hP hw hK hc i pins s σ H E I hf st hg
    subst hP hw hK
    obtain ⟨f0, f1, f2, f3, f4, f5⟩ := hf it (by simp)
    have hx : z.cps[i]? = none := by
      have : z.cps.size ≤ i := hg
      simp [this]
    rcases hty with rfl | rfl
    · exact wpAny_pyNext_ascii_end (I.ok.hd hc) st hx fun h' eb => ⟨rfl, I.turned (t' := s.toks) (fun b o hb e => eb b o hb e) f0 f1 f3 f4 f5⟩
    · exact wpAny_pyNext_wide_end (I.ok.hd hc) st hx fun h' eb => ⟨rfl, I.turned (t' := s.toks) (fun b o hb e => eb b o hb e) f0 f1 f3 f4 f5⟩
  self := fun _ _ _ _ _ st h => by
    rcases hty with rfl | rfl
    · exact wpAny_pyIter_striter_ascii st h
    · exact wpAny_pyIter_striter_wide st h
noncomputable def iStr (te : TE) : TI := fun σ H R => te σ H fun x H1 => ∃ z, x = .str z ∧ R (Its z) H1
theorem zaja {X : Cx} {tg l : Expr} {tl : TE} (hl : PE X l tl) : PI X tg l (iStr tl) := by
  intro pins s σ H R I h
  refine thn (hl pins s σ H _ I h) fun v s1 ⟨x, H1, I1, r1, q1⟩ => ?_
  obtain ⟨z, e, q⟩ := q1
  subst e
  obtain ⟨t, rfl⟩ := r1
  have fin : ∀ (ty : String) (o : Obj), (ty = "str_ascii_iterator" ∨ ty = "str_iterator") → (s1.heap.push o).IsStrIter s1.heap.objs.size ty z t 0 → PIE X pins σ tg R (.ref s1.heap.objs.size) { s1 with heap := s1.heap.push o } := by
    intro ty o hty st
    refine ⟨s1.heap.objs.size, [s1.heap.objs.size], _, _, H1, rfl, I1.kept (t' := s1.toks) fun b o e => Heap.get?_push_of_some _ e, zabr z _ hty, st, fun b hb => ?_, q⟩
    have e : b = s1.heap.objs.size := by simpa using hb
    subst e
    exact I1.fpOk (Nat.le_refl _) (I1.hok.fresh (Nat.le_refl _))
  cases ha : z.cps.all (· < 128)
  · exact wpAny_pyIter_wide ha (fin "str_iterator" _ (.inr rfl) ⟨_, Heap.get?_push_size _ rfl, rfl, rfl⟩)
  · exact wpAny_pyIter_ascii ha (fin "str_ascii_iterator" _ (.inl rfl) ⟨_, Heap.get?_push_size _ rfl, rfl, rfl⟩)
noncomputable def zmd (z : Str) : List PyData := z.cps.toList.map fun c => .str ⟨#[c]⟩
noncomputable def zme (f : EF) : IF' := fun env => (f env).bind fun r => match r.d with
  | .str z => some (zmd z, [])
  | _ => none
theorem zajb {A0 : Addr → Prop} {H1 : Hp} {z : Str} : Yl A0 H1 (Its z) (zmd z) := by
  intro A H' hA s
  have hl : (zmd z).length = z.cps.size := by unfold zmd; simp
  refine ⟨fun i d e => ?_, by rw [hl]; exact Nat.le_refl _⟩
  unfold zmd at e
  rw [List.getElem?_map] at e
  by_cases hi : i < z.cps.size
  · refine ⟨hi, fun x H'' y => ?_⟩
    obtain ⟨rfl, c, ec, rfl⟩ := y
    have : z.cps.toList[i]? = some c := by simpa using ec
    rw [this] at e
    cases e
    exact ⟨Same.refl _, zbf⟩
  · rw [List.getElem?_eq_none (by simpa using hi)] at e
    cases e
theorem zadd {te : TE} {f : EF} (h1 : SE te f) : SI (iStr te) (zme f) := by
  intro fx H0 env σ H h ds bs e R q
  unfold zme at e
  obtain ⟨⟨d, fr, bs'⟩, er, e⟩ := Option.bind_eq_some_iff.mp e
  split at e
  · rename_i z hz
    cases e
    refine h1 fx H0 env σ H h _ er _ fun v H1 s hv => ?_
    have rp := hv.rp
    have hz : d = .str z := hz
    rw [hz] at rp
    exact ⟨z, zdv rp, q _ H1 s zajb⟩
  · cases e
theorem zqu {X : Cx} : OpR X (compareOp .LtE) (fun x y H Q => ∃ i j, x = .str i ∧ y = .str j ∧ Q (.bl (!decide (j.cps.toList < i.cps.toList))) H) := by
  intro pins s σ H x y v u Q I rx ry h
  obtain ⟨i, j, rfl, rfl, q⟩ := h
  obtain ⟨t, rfl⟩ := rx
  obtain ⟨t', rfl⟩ := ry
  exact PySem.P.le_str (zbw I q rfl)
noncomputable def leS : OF
  | .str i, .str j => some (.bool (!decide (j.cps.toList < i.cps.toList)), false)
  | _, _ => none
theorem zade : SO (fun x y H Q => ∃ i j, x = .str i ∧ y = .str j ∧ Q (.bl (!decide (j.cps.toList < i.cps.toList))) H) leS := by
  intro A H x y dx dy hA rx ry d fr e Q q
  unfold leS at e
  split at e
  · cases e
    cases zdv rx; cases zdv ry
    exact ⟨_, _, rfl, rfl, q _ H (Same.refl _) zam (fun z => by cases z)⟩
  · cases e
theorem zabs {X : Cx} {x : Str} {i : Int} {pos : Pos} (hg : Gl X x) (hm : ∃ t, X.mg x = some (.int i t)) (hd : (x == ("__debug__" : Str)) = false := by decide) : PE X (.Name x pos) (tC (.int i)) :=
  let ⟨t, e⟩ := hm
  zadx hg e ⟨t, rfl⟩ hd
end L2
namespace L2
open PySem PySem.Spec PyProof.Rows
noncomputable def isStar : Expr → Bool
  | .Starred .. => true
  | _ => false
theorem zag {e : Expr} {es : List Expr} {env : Env} (h : isStar e = false) : starEach (e :: es) env = (false, eval e env) :: starEach es env := by
  cases e <;> first
    | rfl
    | cases h
theorem zabt {X : Cx} {e : Expr} {es : List Expr} {te : TE} {t : TA} (ha : PE X e te) (hr : PA X es t) (hs : isStar e = false := by rfl) : PA X (e :: es) (tCons te t) := zhi ha hr (zag hs)
end L2
namespace L2
open PySem PySem.Spec PyProof.Rows
end L2
namespace L2
open PySem PySem.Spec PyProof.Rows
end L2
namespace PySem.SeqAt
open AutoSeq1 (wpAny_loadPart')
open MeetsSeq PyProof.Rows
section
variable {A : Around} {s : Shared}
theorem zix (l : Addr) (es : Array DictEntry) (n : Nat) (dd : Option Addr) (sl : Array (Option Value)) (b : Str) (u : Tok) :
    Meets (Builtin.«dict.__eq__» ⟨[.ref l, .str b u], []⟩) (fun _ R s => s.heap.get? l = some { cls := .type "dict", dict := dd, data := .dict es n, slots := sl } ∧ R (.ok (.ret .notImplemented)) s) :=
  .of_wp fun prog w A R s h => by
    obtain ⟨hp, g, d, tk, os⟩ := s
    obtain ⟨hl, h⟩ := h
    have f1 := F.sub_str_dict
    wp_walk using wpAny_loadPart' hl
    exact ⟨_, rfl, h⟩
theorem ziy (b : Str) (u : Tok) (l : Addr) (c : Value) (es : Array DictEntry) (n : Nat) (dd : Option Addr) (sl : Array (Option Value)) :
    Meets (Builtin.«str.__eq__» ⟨[.str b u, .ref l], []⟩) (fun _ R s => s.heap.get? l = some { cls := c, dict := dd, data := .dict es n, slots := sl } ∧ R (.ok (.ret .notImplemented)) s) :=
  .of_wp fun prog w A R s h => by
    obtain ⟨hp, g, d, tk, os⟩ := s
    obtain ⟨hl, h⟩ := h
    wp_walk using wpAny_loadPart' hl, wpAny_load hl
    exact ⟨_, rfl, h⟩
theorem rc_dict_str {l : Addr} {o : Obj} {es : Array DictEntry} {n : Nat} (b : Str) (u : Tok) (ho : s.heap.get? l = some o) (hc : o.cls = .type "dict") (hd : o.data = .dict es n) (hu : A.units < cLine) : RcAt A s (.ref l) (.str b u) false := fun prog w E Q h => by
  obtain ⟨cls, dd, data, sl⟩ := o
  simp only at hc hd
  subst hc hd
  refine rc_eq_decline_or (k := false) (Ta := "dict") (Tb := "str") ⟨_, ho, rfl⟩ (typeIs_str s b u) (by decide) F.sub_str_dict F.slot_dict_eq F.slot_str_eq_refl (fun _ hq => ?_) (fun _ hq => ?_) (fun _ hq => wpAny_of_eq (rfl : isSame (.ref l) (.str b u) = pure false) hq) (.inr hu) h
  · exact call_meets F.slot_dict_eq ⟨_, ho, rfl⟩ F.entry_dict_eq (F.args_dict_eq_2 _ _) (zix l es n dd sl b u) ⟨ho, hq⟩
  · exact call_meets F.slot_str_eq_refl (typeIs_str s b u) F.entry_str_eq (F.args_str_eq_2 _ _) (ziy b u l (.type "dict") es n dd sl) ⟨ho, hq⟩
theorem rc_str_dict {l : Addr} {o : Obj} {es : Array DictEntry} {n : Nat} (b : Str) (u : Tok) (ho : s.heap.get? l = some o) (hc : o.cls = .type "dict") (hd : o.data = .dict es n) (hu : A.units < cLine) : RcAt A s (.str b u) (.ref l) false := fun prog w E Q h => by
  obtain ⟨cls, dd, data, sl⟩ := o
  simp only at hc hd
  subst hc hd
  refine rc_eq_decline_or (k := false) (Ta := "str") (Tb := "dict") (typeIs_str s b u) ⟨_, ho, rfl⟩ (by decide) F.sub_dict_str F.slot_str_eq F.slot_dict_eq_refl (fun _ hq => ?_) (fun _ hq => ?_) (fun _ hq => wpAny_of_eq (rfl : isSame (.str b u) (.ref l) = pure false) hq) (.inr hu) h
  · exact call_meets F.slot_str_eq (typeIs_str s b u) F.entry_str_eq (F.args_str_eq_2 _ _) (ziy b u l (.type "dict") es n dd sl) ⟨ho, hq⟩
  · exact call_meets F.slot_dict_eq_refl ⟨_, ho, rfl⟩ F.entry_dict_eq (F.args_dict_eq_2 _ _) (zix l es n dd sl b u) ⟨ho, hq⟩
theorem eqAt_rs {l : Addr} {b : Str} {u : Tok} (h0 : RcAt A s (.ref l) (.str b u) false) : EqAt A s (.ref l) (.str b u) false := fun prog w E Q hq => by
  unfold eqBool
  refine wpAny_holding (wpAny_ite_split (fun hab => absurd (eq_of_beq hab) nofun) (fun _ => ?_))
  exact (wpAny_bind (h0 prog w E _ (wpAny_truthy_bool hq)))
theorem eqAt_sr {l : Addr} {b : Str} {u : Tok} (h0 : RcAt A s (.str b u) (.ref l) false) : EqAt A s (.str b u) (.ref l) false := fun prog w E Q hq => by
  unfold eqBool
  refine wpAny_holding (wpAny_ite_split (fun hab => absurd (eq_of_beq hab) nofun) (fun _ => ?_))
  exact (wpAny_bind (h0 prog w E _ (wpAny_truthy_bool hq)))
end
end PySem.SeqAt
namespace L2
open PySem PySem.Spec PyProof.Rows
noncomputable def zmf : PyData → Bool | .str _ => true | _ => false
noncomputable def Odd (K : PySem.W.Frag) (H : Hp) (v : V) : Prop := zhj v = true ∨ ∃ a, v = .ref a ∧ ((∃ xs, SqL K H a xs) ∨ (∃ xs, SqT K H a xs) ∨ ∃ ps, H a = some (.dK ps))
theorem zadf {K : PySem.W.Frag} {H : Hp} {d : PyData} {v : V} (h : Rp H d v) : Odd K H v := by
  cases d with
  | none => rw [zlp h]; exact .inl rfl
  | bool b => rw [zhn h]; exact .inl rfl
  | int i => rw [zct h]; exact .inl rfl
  | str x => rw [zdv h]; exact .inl rfl
  | list ds => obtain ⟨a, xs, rfl, ha, _⟩ := zcy h; exact .inr ⟨a, rfl, .inl ⟨xs, SqL.of ha⟩⟩
  | tuple ds => obtain ⟨a, xs, rfl, ha, _⟩ := zdb h; exact .inr ⟨a, rfl, .inr (.inl ⟨xs, SqT.of ha⟩)⟩
  | dict ds => obtain ⟨a, xs, rfl, ha, _⟩ := zoi h; exact .inr ⟨a, rfl, .inr (.inr ⟨xs, ha⟩)⟩
section
variable {X : Cx}
theorem zaft {pins : List (Addr × Obj)} {s : Shared} {σ : St} {H : Hp} (I : Inv X pins σ H s) {a : Addr} {ps : List (Key × V)} (h : H a = some (.dK ps)) : ∃ o es n, s.heap.get? a = some o ∧ o.cls = .type "dict" ∧ o.data = .dict es n := by
  obtain ⟨_, _, vs, _, p⟩ := (show zeb X.prog X.w H s.heap a (.dK ps) from I.hok a _ h)
  obtain ⟨o, es, ep, h1, h2, h3, _⟩ := p
  exact ⟨o, es, ep, h1, h2.1, h3⟩
theorem zuh {A : Around} {pins : List (Addr × Obj)} {s : Shared} {σ : St} {H : Hp} (I : Inv X pins σ H s) (hu : A.units + 2 < cLine) {y : V} {u : Value} (ry : RelV y u) (oy : Odd X.K H y) (z : Str) (t : Tok) : SeqAt.EqAt A s u (.str z t) (eqV y (.str z)) ∧ SeqAt.EqAt A s (.str z t) u (eqV (.str z) y) := by
  have hu0 : A.units < cLine := by omega
  have hu1 : A.in1.units < cLine := by show A.units + 1 < cLine; omega
  rcases oy with fy | ⟨a, rfl, h⟩
  · exact ⟨zwn ry ⟨t, rfl⟩ fy rfl, zwn ⟨t, rfl⟩ ry rfl fy⟩
  · cases ry
    rcases h with ⟨xs, h⟩ | ⟨xs, h⟩ | ⟨ps, h⟩
    · obtain ⟨its, rv, p, hz⟩ := I.list h
      exact ⟨SeqAt.EqAt.list_str z t p.isList hu0, SeqAt.EqAt.str_list z t p.isList hu0⟩
    · obtain ⟨its, rv, p, hz⟩ := I.tuple h
      exact ⟨SeqAt.EqAt.tuple_str z t p hu0, SeqAt.EqAt.str_tuple z t p hu0⟩
    · obtain ⟨o, es, n, h1, h2, h3⟩ := zaft I h
      exact ⟨SeqAt.eqAt_rs (SeqAt.rc_dict_str z t h1 h2 h3 hu0), SeqAt.eqAt_sr (SeqAt.rc_str_dict z t h1 h2 h3 hu0)⟩
noncomputable def rInT (K : PySem.W.Frag) (neg : Bool) : R2 := fun x y H Q => ∃ p xs, y = .ref p ∧ (SqL K H p xs ∨ SqT K H p xs) ∧ ((∃ z, x = .str z) ∧ (∀ w ∈ xs, Odd K H w) ∨ Odd K H x ∧ ∀ w ∈ xs, ∃ z, w = .str z) ∧ Q (.bl (if neg then !inV x xs else inV x xs)) H
theorem ztg {x y : V} {u : Value} {K : PySem.W.Frag} {H : Hp} (r : RelV y u) (o : Odd K H y) (hx : zhj x = true ∨ zhj y = true) : eqU x u = eqV y x := by
  rcases o with f | ⟨a, rfl, _⟩
  · exact zwo r f
  · cases r
    cases x <;> rfl
theorem zth {x : V} {K : PySem.W.Frag} {H : Hp} : ∀ {xs : List V} {us : List Value}, Vals xs us → (∀ w ∈ xs, Odd K H w ∧ (zhj x = true ∨ zhj w = true)) → us.any (eqU x) = inV x xs
  | _, _, .nil, _ => rfl
  | y :: xs, u :: us, .cons r t, f => by
    unfold inV
    obtain ⟨o, g⟩ := f y List.mem_cons_self
    rw [List.any_cons, List.any_cons, ztg r o g]
    congr 1
    exact zth t fun w hw => f w (List.mem_cons_of_mem _ hw)
theorem zti {A : Around} {pins : List (Addr × Obj)} {s : Shared} {σ : St} {H : Hp} (I : Inv X pins σ H s) (hu : A.units + 2 < cLine) {x : V} {v : Value} (rx : RelV x v) : ∀ {xs : List V} {us : List Value}, Vals xs us → ((∃ z, x = .str z) ∧ (∀ w ∈ xs, Odd X.K H w) ∨ Odd X.K H x ∧ ∀ w ∈ xs, ∃ z, w = .str z) → ∀ u ∈ us, SeqAt.EqAt A s u v (eqU x u)
  | _, _, .nil, _ => fun u hu => by cases hu
  | y :: xs, u :: us, .cons r t, f => fun u' hu' => by
    rcases List.mem_cons.mp hu' with rfl | hm
    · rcases f with ⟨⟨z, rfl⟩, f⟩ | ⟨ox, f⟩
      · obtain ⟨tk, rfl⟩ := rx
        have oy := f y List.mem_cons_self
        rw [ztg r oy (.inl rfl)]
        exact (zuh I hu r oy z tk).1
      · obtain ⟨z, rfl⟩ := f y List.mem_cons_self
        rw [ztg (K := X.K) (H := H) r (.inl rfl) (.inr rfl)]
        obtain ⟨tk, rfl⟩ := r
        exact (zuh I hu rx ox z tk).2
    · exact zti I hu rx t (f.imp (fun h => ⟨h.1, fun w hw => h.2 w (List.mem_cons_of_mem _ hw)⟩) (fun h => ⟨h.1, fun w hw => h.2 w (List.mem_cons_of_mem _ hw)⟩)) u' hm
theorem zxv {x : V} {K : PySem.W.Frag} {H : Hp} {xs : List V} (f : (∃ z, x = .str z) ∧ (∀ w ∈ xs, Odd K H w) ∨ Odd K H x ∧ ∀ w ∈ xs, ∃ z, w = .str z) : ∀ w ∈ xs, Odd K H w ∧ (zhj x = true ∨ zhj w = true) := fun w hw => by
  rcases f with ⟨⟨z, rfl⟩, f⟩ | ⟨ox, f⟩
  · exact ⟨f w hw, .inl rfl⟩
  · obtain ⟨z, rfl⟩ := f w hw
    exact ⟨.inl rfl, .inr rfl⟩
theorem zxw {K : PySem.W.Frag} (hK : X.K = K) (hu : X.A.units + 64 < cLine) : OpR X (compareOp .In) (rInT K false) := by
  subst hK
  intro pins s σ H x y v u Q I rx ry h
  obtain ⟨p, xs, rfl, hq, f, q⟩ := h
  cases ry
  have hu2 : X.A.in1.units + 2 < cLine := by show X.A.units + 1 + 2 < cLine; omega
  have q : EP X pins σ Q (.bool (inV x xs)) s := ⟨.bl (inV x xs), H, I, rfl, q⟩
  rcases hq with hq | hq
  · obtain ⟨its, r, pl, hz⟩ := I.list hq
    refine SeqAt.in_listAt (eqU x) pl.isList (fun w hw => zti I hu2 rx r f w (by simpa using hw)) ?_
    rw [show its.toArray.any (eqU x) = its.any (eqU x) by simp, zth r (zxv f)]
    exact q
  · obtain ⟨its, r, pl, hz⟩ := I.tuple hq
    refine SeqAt.in_tupleAt (eqU x) pl (fun w hw => zti I hu2 rx r f w (by simpa using hw)) ?_
    rw [show its.toArray.any (eqU x) = its.any (eqU x) by simp, zth r (zxv f)]
    exact q
end
theorem zjp {d : PyData} (h : zmf d = true) : ∃ z, d = .str z := by
  cases d <;> first
    | exact ⟨_, rfl⟩
    | exact absurd (show false = true from h) Bool.false_ne_true
theorem zxx {H : Hp} {d : PyData} {v : V} (h : Rp H d v) (z : Str) : eqV v (.str z) = PyData.eqv d (.str z) ∧ eqV (.str z) v = PyData.eqv (.str z) d := by
  cases d with
  | none => rw [zlp h]; exact ⟨by simp [eqV, PyData.eqv], by simp [eqV, PyData.eqv]⟩
  | bool b => rw [zhn h]; exact ⟨by simp [eqV, PyData.eqv], by simp [eqV, PyData.eqv]⟩
  | int i => rw [zct h]; exact ⟨by simp [eqV, PyData.eqv], by simp [eqV, PyData.eqv]⟩
  | str x => rw [zdv h]; exact ⟨by simp [eqV, PyData.eqv], by simp [eqV, PyData.eqv]⟩
  | list ds => obtain ⟨a, xs, rfl, ha, _⟩ := zcy h; exact ⟨by simp [eqV, PyData.eqv], by simp [eqV, PyData.eqv]⟩
  | tuple ds => obtain ⟨a, xs, rfl, ha, _⟩ := zdb h; exact ⟨by simp [eqV, PyData.eqv], by simp [eqV, PyData.eqv]⟩
  | dict ds => obtain ⟨a, xs, rfl, ha, _⟩ := zoi h; exact ⟨by simp [eqV, PyData.eqv], by simp [eqV, PyData.eqv]⟩
theorem zxy {H : Hp} {dx : PyData} {x : V} (rx : Rp H dx x) : ∀ {ds : List PyData} {xs : List V}, Rps H ds xs → (zmf dx = true ∨ ds.all zmf = true) → inV x xs = ds.any fun e => PyData.eqv e dx
  | [], xs, h, _ => by unfold Rps at h; subst h; rfl
  | d :: ds, xs, h, f => by
    unfold Rps at h
    obtain ⟨v, vs, rfl, h1, h2⟩ := h
    have ih := zxy rx h2 (f.imp id fun g => by rw [List.all_cons, Bool.and_eq_true] at g; exact g.2)
    unfold inV at ih ⊢
    rw [List.any_cons, List.any_cons, ih]
    congr 1
    rcases f with f | f
    · obtain ⟨z, rfl⟩ := zjp f
      have := zdv rx
      subst this
      exact (zxx h1 _).1
    · rw [List.all_cons, Bool.and_eq_true] at f
      obtain ⟨z, rfl⟩ := zjp f.1
      have := zdv h1
      subst this
      exact (zxx rx _).2
theorem zxz {H : Hp} {ds : List PyData} {xs : List V} (h : Rps H ds xs) {w : V} (hw : w ∈ xs) : ∃ d ∈ ds, Rp H d w := by
  obtain ⟨i, hi⟩ := List.getElem?_of_mem hw
  obtain ⟨d, hd, r⟩ := h.get hi
  exact ⟨d, List.mem_of_getElem? hd, r⟩
noncomputable def inTD (neg : Bool) : OF := fun d c => match zit c with
  | some ds => if zmf d = true ∨ ds.all zmf = true then some (.bool (if neg then !(ds.any fun e => PyData.eqv e d) else ds.any fun e => PyData.eqv e d), false) else none
  | none => none
theorem zya {K : PySem.W.Frag} {neg : Bool} : SO (rInT K neg) (inTD neg) := by
  intro A H x y dx dy hA rx ry d fr e Q q
  unfold inTD at e
  split at e
  · rename_i ds hi
    split at e
    · rename_i h
      cases e
      have rx := Rp.same (Offs.same A H) _ rx
      obtain ⟨p, xs, rfl, hq, r⟩ := zoo (K := K) (Rp.same (Offs.same A H) _ ry) hi
      refine ⟨p, xs, rfl, hq, ?_, ?_⟩
      · rcases h with h | h
        · obtain ⟨z, rfl⟩ := zjp h
          have := zdv rx
          subst this
          exact .inl ⟨⟨_, rfl⟩, fun w hw => let ⟨d, _, hd⟩ := zxz r hw; zadf hd⟩
        · refine .inr ⟨zadf rx, fun w hw => ?_⟩
          obtain ⟨d, hm, hd⟩ := zxz r hw
          obtain ⟨z, rfl⟩ := zjp (List.all_eq_true.mp h d hm)
          exact ⟨_, zdv hd⟩
      · rw [zxy rx r h]
        refine q _ H (Same.refl _) ?_ (fun z => by cases z)
        cases neg <;> exact zam
    · cases e
  · cases e
end L2
namespace L2
open PySem PySem.Spec PyProof.Rows
theorem Rps.setAt {H : Hp} {ds : List PyData} {vs : List V} (h : Rps H ds vs) {d : PyData} {v : V} (hv : Rp H d v) (n : Nat) : Rps H (ds.set n d) (vs.set n v) := by
  induction n generalizing ds vs with
  | zero =>
    cases ds with
    | nil => unfold Rps at h; subst h; exact zdo
    | cons e ds => unfold Rps at h; obtain ⟨w, ws, rfl, h1, h2⟩ := h; exact zcr hv h2
  | succ n ih =>
    cases ds with
    | nil => unfold Rps at h; subst h; exact zdo
    | cons e ds => unfold Rps at h; obtain ⟨w, ws, rfl, h1, h2⟩ := h; exact zcr h1 (ih h2)
noncomputable def zov (i : Nat) (fk fv : EF) : SF := fun env => match env[i]? with
  | some (.ac (.list ds)) => (fv env).bind fun r => (fk env).bind fun k => match k.d with
    | .int z => (ixN ds.length z).bind fun j => if i ∉ r.bs then some (.nx ((frzs env r.bs).set i (.ac (.list (ds.set j r.d))))) else none
    | _ => none
  | _ => none
theorem zyb {i : Nat} {tk tv : TE} {fk fv : EF} (h1 : SE tk fk) (h2 : SE tv fv) : SS (tAsg tv (gSub (tVar i) tk zaej)) (zov i fk fv) := by
  intro fx H0 env σ H D h o e q
  unfold zov at e
  split at e
  · rename_i ds ei
    obtain ⟨r, er, e⟩ := Option.bind_eq_some_iff.mp e
    obtain ⟨⟨kd, kfr, kbs⟩, ek, e⟩ := Option.bind_eq_some_iff.mp e
    cases kd with
    | int z =>
      have e : ((ixN ds.length z).bind fun j => if i ∉ r.bs then some (Out.nx ((frzs env r.bs).set i (.ac (.list (ds.set j r.d))))) else none) = some o := e
      obtain ⟨j, ej, e⟩ := Option.bind_eq_some_iff.mp e
      split at e
      · rename_i hl
        cases e
        obtain ⟨a, g1, g2, g3, g4⟩ := h.ac i _ ei
        obtain ⟨xs, hx, rx⟩ := g4
        refine h2 fx H0 env σ H h r er _ fun v H' s hv => ⟨_, g1, h1 fx H0 env σ H' (h.up s) _ ek _ fun u H2 s2 hk => ?_⟩
        cases zct hk.rp
        have t2 := s.trans s2
        have h' := (h.up t2).frzs r.bs
        have ei' := zli hl ei
        have hx' := t2 _ _ hx
        have rx' : Rps (Offs (fun b => fx b ∨ own (frzs env r.bs) σ b) H2) ds xs := by
          obtain ⟨a', z1, _, _, z4⟩ := h'.ac i _ ei'
          rw [g1] at z1
          cases z1
          obtain ⟨ys, y1, y2⟩ := z4
          rw [hx'] at y1
          cases y1
          exact y2
        refine ⟨a, xs, z, j, rfl, rfl, hx', by rw [← rx.length]; exact ej, ?_⟩
        exact q σ _ (h'.mut ei' g1 ⟨_, zau, rx'.setAt (Rp.same (Offs.sub zgb) _ (hv.later (Same.refl _) s2 fun _ z => z).rp) j⟩)
      · cases e
    | _ => cases e
  · cases e
end L2
namespace L2
open PySem PySem.Spec PyProof.Rows
structure Bx (p : Prop) : Prop where
  out : p
theorem Bx.pt {X : Cx} {e : Expr} {t : TT} (h : Bx (PW X e t)) : Bx (PT X e t) := ⟨h.out.pt⟩
theorem zaf : ∀ {X : L2.Cx} {i : Int} {j : Nat} {pos : PySem.Pos}, L2.Bx (L2.PE X (PySem.Expr.Constant (PySem.Const.int i) j pos) (L2.tC (L2.V.int i))) := by
  intro X i j pos
  exact ⟨@zfy X i j pos⟩
theorem zai : ∀ {X : L2.Cx}, L2.Bx (L2.PA X [] L2.tNil) := by
  intro X
  exact ⟨@zkq X⟩
theorem zaa : ∀ {X : L2.Cx} {e : PySem.Expr} {es : List PySem.Expr} {te : L2.TE} {t : L2.TA}, L2.Bx (L2.PE X e te) → L2.Bx (L2.PA X es t) → L2.isStar e = Bool.false → L2.Bx (L2.PA X (e :: es) (L2.tCons te t)) := by
  intro X e es te t ha hr hs
  exact ⟨@zabt X e es te t ha.out hr.out hs⟩
theorem zaq : ∀ {X : L2.Cx} {a b : PySem.Expr} {ta tb : L2.TE} {pos : PySem.Pos} {op : PySem.Operator} {r : L2.R2}, L2.OpR X (PySem.binaryOp op) r → L2.Bx (L2.PE X a ta) → L2.Bx (L2.PE X b tb) → L2.Bx (L2.PE X (a.BinOp op b pos) (L2.tOp r ta tb)) := by
  intro X a b ta tb pos op r ho ha hb
  exact ⟨@ziq X a b ta tb pos op r ho ha.out hb.out⟩
theorem zaj : ∀ {X : L2.Cx} {st : PySem.Stmt} {t : L2.TS}, L2.Bx (L2.PS X st t) → L2.Bx (L2.PSs X [st] t) := by
  intro X st t h1
  exact ⟨@zjb X st t h1.out⟩
theorem zah : ∀ {X : L2.Cx} {st : PySem.Stmt} {rest : List PySem.Stmt} {t u : L2.TS}, L2.Bx (L2.PS X st t) → L2.Bx (L2.PSs X rest u) → L2.Bx (L2.PSs X (st :: rest) (L2.tSeq t u)) := by
  intro X st rest t u h1 h2
  exact ⟨@zif X st rest t u h1.out h2.out⟩
theorem zed : ∀ {X : L2.Cx} {x : PySem.Str} {p pos : PySem.Pos} {e : PySem.Expr} {es : List PySem.Expr} {t : L2.TA} {ps : List PySem.Str} {k : Nat} {sp : L2.Sp}, L2.Dn X.prog X.w X.K X.mg X.base x ps k sp → L2.Room k X.A → L2.Gl X x → L2.Bx (L2.PA X (e :: es) t) → (x == PySem.Str.ofString "__debug__") = Bool.false → PySem.starEach (e :: es) X.env = (Bool.false, PySem.eval e X.env) :: PySem.starEach es X.env → ((PySem.backTo pos (PySem.starEach es X.env)).any fun (x : Bool × PySem.Sem PySem.Value) => x.fst) = Bool.false → L2.Bx (L2.PE X ((PySem.Expr.Name x p).Call (e :: es) [] pos) (L2.tCall sp [] L2.E0 t)) := by
  intro X x p pos e es t ps k sp D hr hg ha hdb he hpl
  exact ⟨@zakt X x p pos e es t ps k sp D hr hg ha.out hdb he hpl⟩
theorem zax : ∀ {X : L2.Cx} {e : PySem.Expr} {te : L2.TE} {pos : PySem.Pos}, L2.Bx (L2.PE X e te) → L2.Bx (L2.PS X (PySem.Stmt.Return (Option.some e) pos) (L2.tRet te)) := by
  intro X e te pos he
  exact ⟨@zacp X e te pos he.out⟩
theorem zaz : ∀ {X : L2.Cx} {pos : PySem.Pos} {i : Nat} {x : PySem.Str} {e : PySem.Expr} {te : L2.TE} {pos' : PySem.Pos}, X.N.Nodup → X.N[i]? = Option.some x → L2.Loc X.env.scope x → L2.Bx (L2.PE X e te) → PySem.swapsWith e (Option.some (PySem.Expr.Name x pos')) pos.line X.env = Pure.pure Bool.false → X.fn x = Bool.true ∨ List.lookup x X.env.scope.names = Option.some PySem.NameKind.local → L2.Bx (L2.PS X (PySem.Stmt.Assign [PySem.Expr.Name x pos'] e pos) (L2.tAsg te (L2.gName i))) := by
  intro X pos i x e te pos' hN hi hx he hs hf
  exact ⟨@ztu X pos i x e te pos' hN hi hx he.out hs hf⟩
theorem zat : ∀ {X : L2.Cx} {x : PySem.Str} {p pos : PySem.Pos} {e : PySem.Expr} {es : List PySem.Expr} {t : L2.TA} {id : String} {r : List L2.V → L2.Hp → L2.VK → Prop}, L2.CallR X (PySem.Value.builtin id) r → L2.Gl X x → X.mg x = Option.none → PySem.bootBuiltins x = Option.some (PySem.Value.builtin id) → L2.Bx (L2.PA X (e :: es) t) → x ≠ PySem.Str.ofString "__name__" → (x == PySem.Str.ofString "__debug__") = Bool.false → PySem.starEach (e :: es) X.env = (Bool.false, PySem.eval e X.env) :: PySem.starEach es X.env → ((PySem.backTo pos (PySem.starEach es X.env)).any fun (x : Bool × PySem.Sem PySem.Value) => x.fst) = Bool.false → L2.Bx (L2.PE X ((PySem.Expr.Name x p).Call (e :: es) [] pos) (L2.tCB r t)) := by
  intro X x p pos e es t id r hc hg hm hv ha hn hdb he hpl
  exact ⟨@ztv X x p pos e es t id r hc hg hm hv ha.out hn hdb he hpl⟩
theorem zek : ∀ {X : L2.Cx} {b : Bool} {j : Nat} {pos : PySem.Pos}, L2.Bx (L2.PE X (PySem.Expr.Constant (PySem.Const.bool b) j pos) (L2.tC (L2.V.bl b))) := by
  intro X b j pos
  exact ⟨@zakj X b j pos⟩
theorem zbc : ∀ {X : L2.Cx} {a b : PySem.Expr} {ta tb : L2.TE} {pos : PySem.Pos} {r : L2.R2}, L2.IxR X r → L2.Bx (L2.PE X a ta) → L2.Bx (L2.PE X b tb) → L2.PlainIx b → L2.Bx (L2.PE X (a.Subscript b pos) (L2.tOp r ta tb)) := by
  intro X a b ta tb pos r hr ha hb hs
  exact ⟨@zahx X a b ta tb pos r hr ha.out hb.out hs⟩
theorem zbn : ∀ {X : L2.Cx} {t u : L2.TS} {pos : PySem.Pos} {c : PySem.Expr} {a b : List PySem.Stmt} {tc : L2.TT}, L2.Bx (L2.PT X c tc) → L2.Bx (L2.PSs X a t) → L2.Bx (L2.PSs X b u) → L2.Bx (L2.PS X (PySem.Stmt.If c a b pos) (L2.tIfS tc t u)) := by
  intro X t u pos c a b tc hc ha hb
  exact ⟨@zahn X t u pos c a b tc hc.out ha.out hb.out⟩
theorem zbb : ∀ {X : L2.Cx}, L2.Bx (L2.PSs X [] L2.tNext) := by
  intro X
  exact ⟨@zaea X⟩
theorem zda : ∀ {X : L2.Cx} {a : PySem.Expr} {pos : PySem.Pos} {tA : L2.TT}, L2.Bx (L2.PT X a tA) → L2.Bx (L2.PT X (PySem.Expr.UnaryOp PySem.UnaryOp.Not a pos) (L2.tNot tA)) := by
  intro X a pos tA ha
  exact ⟨@zahm X a pos tA ha.out⟩
theorem zbd : ∀ {X : L2.Cx} {K : PySem.W.Frag},
  X.K = K →
    ∀ {a : PySem.Expr} {ta : L2.TE},
      L2.Bx (L2.PE X a ta) →
        (∀ (whole : PySem.Sem PySem.Value),
            PySem.isTrue a X.env whole = do
              let v ← whole
              PySem.standAt a.pos
              PySem.holding [v] (PySem.truthy v)) →
          L2.Bx (L2.PT X a fun (σ : L2.St) (H : L2.Hp) (Q : Bool → L2.Hp → Prop) => ta σ H fun (x : L2.V) (H' : L2.Hp) => ∃ (k : Bool), L2.TruV K x H' k ∧ Q k H') := by
  intro X K hK a ta ha he
  exact ⟨@zxi X K hK a ta ha.out he⟩
theorem zbk : ∀ {X : L2.Cx} {pos : PySem.Pos} {i : Nat} {x : PySem.Str}, X.N.Nodup → X.N[i]? = Option.some x → L2.Loc X.env.scope x → X.fn x = Bool.true ∨ List.lookup x X.env.scope.names = Option.some PySem.NameKind.local → L2.Bx (L2.PG X (PySem.Expr.Name x pos) (L2.gName i)) := by
  intro X pos i x hN hi hx hf
  exact ⟨@zsn X pos i x hN hi hx hf⟩
theorem zft : ∀ {X : L2.Cx} {es : List PySem.Expr} {t : L2.TA} {pos : PySem.Pos}, L2.Bx (L2.PA X es t) → L2.Bx (L2.PE X (PySem.Expr.List es pos) (L2.tLst t)) := by
  intro X es t pos h
  exact ⟨@zacs X es t pos h.out⟩
theorem zhv : ∀ {X : L2.Cx} {tg iter : PySem.Expr} {body : List PySem.Stmt} {wi : L2.TI} {g : L2.TG} {tb : L2.TS} {pos : PySem.Pos}, PySem.PassesOwn (PySem.model X.prog X.w) X.A X.env X.xe → X.calm = Bool.true → L2.Bx (L2.PI X tg iter wi) → L2.Bx (L2.PG X tg g) → L2.Bx (L2.PSs X body tb) → (∀ (x : PySem.Value), PySem.foldedSetIterable iter X.env x = Pure.pure x) → L2.Bx (L2.PS X (PySem.Stmt.For tg iter body [] pos) (L2.tFor wi g tb)) := by
  intro X tg iter body wi g tb pos hp hc hi hg hb hs
  exact ⟨@zvz X tg iter body wi g tb pos hp hc hi.out hg.out hb.out hs⟩
theorem zav : ∀ {X : L2.Cx} {a b : PySem.Expr} {ta tb : L2.TE} {pos : PySem.Pos} {op : PySem.CmpOp} {r : L2.R2}, L2.OpR X (PySem.compareOp op) r → L2.Bx (L2.PE X a ta) → L2.Bx (L2.PE X b tb) → PySem.behindInMarks op b = Bool.false → L2.Bx (L2.PT X (a.Compare [op] [b] pos) (L2.tTest (L2.tOp r ta tb))) := by
  intro X a b ta tb pos op r ho ha hb hm
  exact ⟨@zwd X a b ta tb pos op r ho ha.out hb.out hm⟩
theorem zdu : ∀ {X : L2.Cx} {x : PySem.Str} {j : Nat} {pos : PySem.Pos}, L2.Bx (L2.PE X (PySem.Expr.Constant (PySem.Const.str x) j pos) (L2.tC (L2.V.str x))) := by
  intro X x j pos
  exact ⟨@zahj X x j pos⟩
theorem zex : ∀ {X : L2.Cx} {e : PySem.Expr} {te : L2.TE} {pos : PySem.Pos}, L2.Bx (L2.PE X e te) → PySem.swapsWith e Option.none pos.line X.env = Pure.pure Bool.false → L2.Bx (L2.PS X (PySem.Stmt.Expr e pos) (L2.tDrop te)) := by
  intro X e te pos he hs
  exact ⟨@zoa X e te pos he.out hs⟩
theorem zdp : ∀ {X : L2.Cx} {es : List PySem.Expr} {t : L2.TA} {pos : PySem.Pos} {x1 : Nat}, L2.Bx (L2.PA X es t) → L2.Bx (L2.PE X (PySem.Expr.Tuple es x1 pos) (L2.tTup t)) := by
  intro X es t pos x1 h
  exact ⟨@zahu X es t pos x1 h.out⟩
theorem zow : ∀ {X : L2.Cx} {a b : PySem.Expr} {ta tb : L2.TE} {pos : PySem.Pos} {op : PySem.CmpOp} {r : L2.R2}, L2.OpR X (PySem.compareOp op) r → L2.Bx (L2.PE X a ta) → L2.Bx (L2.PE X b tb) → PySem.behindInMarks op b = Bool.false → L2.Bx (L2.PE X (a.Compare [op] [b] pos) (L2.tOp r ta tb)) := by
  intro X a b ta tb pos op r ho ha hb hm
  exact ⟨@zaed X a b ta tb pos op r ho ha.out hb.out hm⟩
theorem zep : ∀ {X : L2.Cx} {x : PySem.Str} {p pos : PySem.Pos} {e : PySem.Expr} {es : List PySem.Expr} {t : L2.TA} {T : String} {r : List L2.V → L2.Hp → L2.VK → Prop}, L2.CallR X (PySem.Value.type T) r → L2.Gl X x → X.mg x = Option.none → PySem.bootBuiltins x = Option.some (PySem.Value.type T) → L2.Bx (L2.PA X (e :: es) t) → x ≠ PySem.Str.ofString "__name__" → (x == PySem.Str.ofString "__debug__") = Bool.false → PySem.starEach (e :: es) X.env = (Bool.false, PySem.eval e X.env) :: PySem.starEach es X.env → ((PySem.backTo pos (PySem.starEach es X.env)).any fun (x : Bool × PySem.Sem PySem.Value) => x.fst) = Bool.false → L2.Bx (L2.PE X ((PySem.Expr.Name x p).Call (e :: es) [] pos) (L2.tCB r t)) := by
  intro X x p pos e es t T r hc hg hm hv ha hn hdb he hpl
  exact ⟨@zwj X x p pos e es t T r hc hg hm hv ha.out hn hdb he hpl⟩
theorem zdt : ∀ {X : L2.Cx} {x : PySem.Str} {v : L2.V} {u : PySem.Value} {pos : PySem.Pos}, L2.Gl X x → X.mg x = Option.none → PySem.bootBuiltins x = Option.some u → L2.RelV v u → x ≠ PySem.Str.ofString "__name__" → (x == PySem.Str.ofString "__debug__") = Bool.false → L2.Bx (L2.PE X (PySem.Expr.Name x pos) (L2.tC v)) := by
  intro X x v u pos hg hm hv r hn hd
  exact ⟨@zady X x v u pos hg hm hv r hn hd⟩
theorem zee : ∀ {X : L2.Cx} {a : PySem.Expr} {pos : PySem.Pos} {tA : L2.TT}, L2.Bx (L2.PT X a tA) → L2.Bx (L2.PW X (PySem.Expr.BoolOp PySem.BoolOp.Or [a] pos) tA) := by
  intro X a pos tA ha
  exact ⟨@zahk X a pos tA ha.out⟩
theorem zfk : ∀ {X : L2.Cx} {a b : PySem.Expr} {pos : PySem.Pos} {tA tB' : L2.TT} {rest : List PySem.Expr}, L2.Bx (L2.PT X a tA) → L2.Bx (L2.PW X (PySem.Expr.BoolOp PySem.BoolOp.Or (b :: rest) pos) tB') → L2.Bx (L2.PW X (PySem.Expr.BoolOp PySem.BoolOp.Or (a :: b :: rest) pos) (L2.tOr tA tB')) := by
  intro X a b pos tA tB' rest ha hb
  exact ⟨@zakk X a b pos tA tB' rest ha.out hb.out⟩
theorem zdk : ∀ {X : L2.Cx} {e : PySem.Expr} {te : L2.TE}, L2.Bx (L2.PE X e te) → L2.Bx (L2.PO X (Option.some e) (L2.tPart te)) := by
  intro X e te h
  exact ⟨@zwl X e te h.out⟩
theorem zef : ∀ {X : L2.Cx}, L2.Bx (L2.PO X Option.none L2.tNoPart) := by
  intro X
  exact ⟨@zwk X⟩
theorem zcu : ∀ {X : L2.Cx} {e : PySem.Expr} {te : L2.TE} {lo hi : Option PySem.Expr} {tl th : L2.TO} {pos p2 : PySem.Pos} {r : L2.V → Option Int → Option Int → L2.Hp → L2.VK → Prop}, L2.SlR X r → L2.Bx (L2.PE X e te) → L2.Bx (L2.PO X lo tl) → L2.Bx (L2.PO X hi th) → L2.Bx (L2.PE X (e.Subscript (PySem.Expr.Slice lo hi Option.none p2) pos) (L2.tSl r te tl th)) := by
  intro X e te lo hi tl th pos p2 r hr he hl hu
  exact ⟨@ztw X e te lo hi tl th pos p2 r hr he.out hl.out hu.out⟩
theorem zjq : ∀ {X : L2.Cx} {scope : PySem.Scope} {N' own : List PySem.Str} {fr : List Nat} {elt target iter : PySem.Expr} {ifs : List PySem.Expr} {cpos : PySem.Pos} {wi : L2.TI} {g : L2.TG} {tt : L2.TT} {te : L2.TE}, L2.CompOk X scope N' own fr → X.calm = Bool.true → L2.Bx (L2.PI X target iter wi) → (∀ (cl : List (PySem.Str × PySem.Addr)) (C : PySem.Addr) (s : PySem.Shared) (H : L2.Hp) (fp : List PySem.Addr), L2.PG (L2.cxComp X scope N' own cl C s H fp) target g ∧ L2.PF (L2.cxComp X scope N' own cl C s H fp) ifs tt ∧ L2.PE (L2.cxComp X scope N' own cl C s H fp) elt te) → (∀ (x : PySem.Value), PySem.foldedSetIterable iter X.env x = Pure.pure x) → L2.Bx (L2.PE X (elt.ListComp [{ target := target, iter := iter, ifs := ifs, is_async := 0 }] scope cpos) (L2.tComp1 wi g tt te own fr)) := by
  intro X scope N' own fr elt target iter ifs cpos wi g tt te c hc hi hb hs
  exact ⟨@zaat X scope N' own fr elt target iter ifs cpos wi g tt te c hc hi.out hb hs⟩
theorem zfu : ∀ {X : L2.Cx} {K : PySem.W.Frag}, X.K = K → ∀ {T : String} {name : PySem.Str} {id : String} {r : L2.V → List L2.V → L2.Hp → L2.VK → Prop} {o e : PySem.Expr} {es : List PySem.Expr} {to : L2.TE} {t : L2.TA} {apos cpos : PySem.Pos}, PySem.PlainAttrs T → PySem.Slot T name id → PySem.typeOf (PySem.Value.builtin id) = Pure.pure (PySem.Value.type "method_descriptor") → L2.MtR X id r → L2.Bx (L2.PE X o to) → L2.Bx (L2.PA X (e :: es) t) → PySem.attributeBase o name X.env (PySem.eval o X.env) = PySem.eval o X.env → ((((PySem.backTo cpos (PySem.starEach (e :: es) X.env)).all fun (x : Bool × PySem.Sem PySem.Value) => !x.fst) && (PySem.backToKw cpos (PySem.keywordEach [] X.env)).all fun (x : Option PySem.Str × PySem.Sem PySem.Value) => x.fst.isSome) && Decidable.decide (((e :: es).length + ([] : List Keyword).length + if ([] : List Keyword).isEmpty = Bool.true then 0 else 1) < 30)) = Bool.true → (apos.endLine == cpos.line) = Bool.true → PySem.starEach (e :: es) X.env = (Bool.false, PySem.eval e X.env) :: PySem.starEach es X.env → ((PySem.backTo cpos (PySem.starEach es X.env)).any fun (x : Bool × PySem.Sem PySem.Value) => x.fst) = Bool.false → L2.Bx (L2.PE X ((o.Attribute name apos).Call (e :: es) [] cpos) (L2.tBM K T r to t)) := by
  intro X K hK T name id r o e es to t apos cpos pa slot hty hm ho ha hbase hfew hline hs hplain
  exact ⟨@zwx X K hK T name id r o e es to t apos cpos pa slot hty hm ho.out ha.out hbase hfew hline hs hplain⟩
theorem zyc : ∀ {X : L2.Cx} {tg l : PySem.Expr} {tl : L2.TE}, L2.Bx (L2.PE X l tl) → L2.Bx (L2.PI X tg l (L2.iStr tl)) := by
  intro X tg l tl hl
  exact ⟨@zaja X tg l tl hl.out⟩
theorem zlj : ∀ {X : L2.Cx} {K : PySem.W.Frag}, X.K = K → ∀ {tg l : PySem.Expr} {tl : L2.TE}, L2.Bx (L2.PE X l tl) → L2.Bx (L2.PI X tg l (L2.iSeq K tl)) := by
  intro X K hK tg l tl hl
  exact ⟨@zafc X K hK tg l tl hl.out⟩
theorem zkj : ∀ {X : L2.Cx} {tg a : PySem.Expr} {ta : L2.TA} {p pos : PySem.Pos}, L2.Gl X (PySem.Str.ofString "range") → X.mg (PySem.Str.ofString "range") = Option.none → L2.Bx (L2.PA X [a] ta) → PySem.starEach [a] X.env = [(Bool.false, PySem.eval a X.env)] → L2.Bx (L2.PI X tg ((PySem.Expr.Name (PySem.Str.ofString "range") p).Call [a] [] pos) (L2.iRng1 ta)) := by
  intro X tg a ta p pos hg hm ha hs
  exact ⟨@zpq X tg a ta p pos hg hm ha.out hs⟩
theorem zox : ∀ {X : L2.Cx}, L2.Bx (L2.PF X [] L2.tAll) := by
  intro X
  exact ⟨@zaid X⟩
theorem zmg : ∀ {X : L2.Cx} {j : Nat} {pos : PySem.Pos}, L2.Bx (L2.PE X (PySem.Expr.Constant PySem.Const.none j pos) (L2.tC L2.V.non)) := by
  intro X j pos
  exact ⟨@zahi X j pos⟩
theorem zmh : ∀ {X : L2.Cx} {x : PySem.Str} {i : Int} {pos : PySem.Pos}, L2.Gl X x → (∃ (t : PySem.Tok), X.mg x = Option.some (PySem.Value.int i t)) → (x == PySem.Str.ofString "__debug__") = Bool.false → L2.Bx (L2.PE X (PySem.Expr.Name x pos) (L2.tC (L2.V.int i))) := by
  intro X x i pos hg hm hd
  exact ⟨@zabs X x i pos hg hm hd⟩
theorem zqv : ∀ {X : L2.Cx} {pos : PySem.Pos}, L2.Bx (L2.PE X (PySem.Expr.Dict [] [] pos) L2.tDNewK) := by
  intro X pos
  exact ⟨@zaao X pos⟩
theorem zafu : ∀ {X : L2.Cx} {c : PySem.Expr} {t : L2.TT}, L2.Bx (L2.PT X c t) → L2.Bx (L2.PF X [c] t) := by
  intro X c t h
  exact ⟨@zaie X c t h.out⟩
theorem zyd : ∀ {X : L2.Cx} {a b c : PySem.Expr} {ta tb tc : L2.TE} {pos : PySem.Pos} {op op' : PySem.CmpOp} {r r' : L2.R2}, L2.OpR X (PySem.compareOp op) r → L2.OpR X (PySem.compareOp op') r' → L2.Bx (L2.PE X a ta) → L2.Bx (L2.PE X b tb) → L2.Bx (L2.PE X c tc) → PySem.lastMarks [op, op'] [b, c] = Bool.false → L2.Bx (L2.PE X (a.Compare [op, op'] [b, c] pos) (L2.tChain r r' ta tb tc)) := by
  intro X a b c ta tb tc pos op op' r r' ho ho' ha hb hc hm
  exact ⟨@zaag X a b c ta tb tc pos op op' r r' ho ho' ha.out hb.out hc.out hm⟩
theorem zabu : ∀ {X : L2.Cx} {a : PySem.Expr} {pos : PySem.Pos} {tA : L2.TT}, L2.Bx (L2.PT X a tA) → L2.Bx (L2.PW X (PySem.Expr.BoolOp PySem.BoolOp.And [a] pos) tA) := by
  intro X a pos tA ha
  exact ⟨@zadz X a pos tA ha.out⟩
theorem zye : ∀ {X : L2.Cx} {a b : PySem.Expr} {pos : PySem.Pos} {tA tB' : L2.TT} {rest : List PySem.Expr}, L2.Bx (L2.PT X a tA) → L2.Bx (L2.PW X (PySem.Expr.BoolOp PySem.BoolOp.And (b :: rest) pos) tB') → L2.Bx (L2.PW X (PySem.Expr.BoolOp PySem.BoolOp.And (a :: b :: rest) pos) (L2.tAnd tA tB')) := by
  intro X a b pos tA tB' rest ha hb
  exact ⟨@zahl X a b pos tA tB' rest ha.out hb.out⟩
theorem zqw : ∀ {X : L2.Cx} {a b c : PySem.Expr} {ta tb tc : L2.TE} {pos : PySem.Pos} {op op' : PySem.CmpOp} {r r' : L2.R2}, L2.OpR X (PySem.compareOp op) r → L2.OpR X (PySem.compareOp op') r' → L2.Bx (L2.PE X a ta) → L2.Bx (L2.PE X b tb) → L2.Bx (L2.PE X c tc) → PySem.lastMarks [op, op'] [b, c] = Bool.false → L2.Bx (L2.PT X (a.Compare [op, op'] [b, c] pos) (L2.tTest (L2.tChain r r' ta tb tc))) := by
  intro X a b c ta tb tc pos op op' r r' ho ho' ha hb hc hm
  exact ⟨@zaah X a b c ta tb tc pos op op' r r' ho ho' ha.out hb.out hc.out hm⟩
theorem zyf : ∀ {X : L2.Cx} {scope : PySem.Scope} {N' own : List PySem.Str} {fr : List Nat} {elt target iter : PySem.Expr} {ifs : List PySem.Expr} {cpos : PySem.Pos} {wi : L2.TI} {g : L2.TG} {tt : L2.TT} {te : L2.TE} {spos py : PySem.Pos} {i : Nat} {y : PySem.Str}, L2.CompOk X scope N' own fr → X.calm = Bool.true → L2.Bx (L2.PI X target iter wi) → (∀ (cl : List (PySem.Str × PySem.Addr)) (C : PySem.Addr) (s : PySem.Shared) (H : L2.Hp) (fp : List PySem.Addr), L2.PG (L2.cxComp X scope N' own cl C s H fp) target g ∧ L2.PF (L2.cxComp X scope N' own cl C s H fp) ifs tt ∧ L2.PE (L2.cxComp X scope N' own cl C s H fp) elt te) → PySem.swapsWith (elt.ListComp [{ target := target, iter := iter, ifs := ifs, is_async := 0 }] scope cpos) (Option.some (PySem.Expr.Name y py)) spos.line X.env = Pure.pure Bool.true → X.N.Nodup → X.N[i]? = Option.some y → List.lookup y X.env.scope.names = Option.some PySem.NameKind.local → (∀ (x : PySem.Value), PySem.foldedSetIterable iter X.env x = Pure.pure x) → L2.Bx (L2.PS X (PySem.Stmt.Assign [PySem.Expr.Name y py] (elt.ListComp [{ target := target, iter := iter, ifs := ifs, is_async := 0 }] scope cpos) spos) (L2.tAsgC1 wi g tt te own fr i)) := by
  intro X scope N' own fr elt target iter ifs cpos wi g tt te spos py i y c hc hi hb hsw hN hy hl hs
  exact ⟨@zaau X scope N' own fr elt target iter ifs cpos wi g tt te spos py i y c hc hi.out hb hsw hN hy hl hs⟩
theorem zafv : ∀ {X : L2.Cx} {pos : PySem.Pos} {tg e : PySem.Expr} {te : L2.TE} {g : L2.TG}, L2.Bx (L2.PE X e te) → L2.Bx (L2.PG X tg g) → PySem.swapsWithSole [tg] e pos.line X.env = Pure.pure Bool.false → PySem.swappedStores [tg] e X.env = Pure.pure Option.none → List.map (fun (x : Bool × (PySem.Value → PySem.Sem Unit)) => x.snd) (PySem.assignEach [tg] X.env) = [PySem.assign tg X.env] → L2.Bx (L2.PS X (PySem.Stmt.Assign [tg] e pos) (L2.tAsg te g)) := by
  intro X pos tg e te g he hg hs hw h1
  exact ⟨@zacq X pos tg e te g he.out hg.out hs hw h1⟩
theorem zjr : ∀ {X : L2.Cx} {K : PySem.W.Frag}, X.K = K → ∀ {a : PySem.Expr} {ta : L2.TA} {p pos : PySem.Pos} {elts : List PySem.Expr} {x1 : Nat} {tpos : PySem.Pos}, L2.Gl X (PySem.Str.ofString "enumerate") → X.mg (PySem.Str.ofString "enumerate") = Option.none → L2.Bx (L2.PA X [a] ta) → PySem.starEach [a] X.env = [(Bool.false, PySem.eval a X.env)] → L2.Bx (L2.PI X (PySem.Expr.Tuple elts x1 tpos) ((PySem.Expr.Name (PySem.Str.ofString "enumerate") p).Call [a] [] pos) (L2.iEnumX K ta)) := by
  intro X K hK a ta p pos elts x1 tpos hg hm ha hs
  exact ⟨@zabp X K hK a ta p pos elts x1 tpos hg hm ha.out hs⟩
theorem zgd : ∀ {X : L2.Cx}, L2.Bx (L2.PGs X [] L2.gNil) := by
  intro X
  exact ⟨@zaeb X⟩
theorem zbu : ∀ {X : L2.Cx} {e : PySem.Expr} {es : List PySem.Expr} {t : L2.TG} {u : L2.TGs}, L2.Bx (L2.PG X e t) → L2.Bx (L2.PGs X es u) → List.map (fun (x : Bool × (PySem.Value → PySem.Sem Unit)) => x.snd) (PySem.assignEach (e :: es) X.env) = PySem.assign e X.env :: List.map (fun (x : Bool × (PySem.Value → PySem.Sem Unit)) => x.snd) (PySem.assignEach es X.env) → L2.Bx (L2.PGs X (e :: es) (L2.gCons t u)) := by
  intro X e es t u h1 h2 hs
  exact ⟨@zaab X e es t u h1.out h2.out hs⟩
theorem zge : ∀ {X : L2.Cx} {K : PySem.W.Frag}, X.K = K → ∀ {es : List PySem.Expr} {k : Nat} {t : L2.TGs} {n : Nat} {pos : PySem.Pos}, X.calm = Bool.true → L2.Bx (L2.PGs X es t) → (PySem.assignEach es X.env).length = n → List.findIdx? (fun (x : Bool × (PySem.Value → PySem.Sem Unit)) => x.fst) (PySem.assignEach es X.env) = Option.none → L2.Bx (L2.PG X (PySem.Expr.Tuple es k pos) (L2.gTup K n t)) := by
  intro X K hK es k t n pos hc h hn hst
  exact ⟨@zaet X K hK es k t n pos hc h.out hn hst⟩
theorem zvk : ∀ {X : L2.Cx} {e : PySem.Expr} {te : L2.TE} {p1 p2 pos1 pos2 : PySem.Pos}, X.calm = Bool.true → L2.Gl X (PySem.Str.ofString "len") → X.mg (PySem.Str.ofString "len") = Option.none → L2.Gl X (PySem.Str.ofString "set") → X.mg (PySem.Str.ofString "set") = Option.none → L2.Bx (L2.PE X e te) → PySem.starEach [e] X.env = (Bool.false, PySem.eval e X.env) :: PySem.starEach [] X.env → L2.Bx (L2.PE X ((PySem.Expr.Name (PySem.Str.ofString "len") p1).Call [(PySem.Expr.Name (PySem.Str.ofString "set") p2).Call [e] [] pos2] [] pos1) (L2.tLenSet te)) := by
  intro X e te p1 p2 pos1 pos2 hc hgl hml hgs hms he hs
  exact ⟨@zxm X e te p1 p2 pos1 pos2 hc hgl hml hgs hms he.out hs⟩
theorem bv {X : Cx} (i : Nat) {x : Str} {pos : Pos} (hN : X.N[i]? = some x := by rfl) (hv : visB X.env.scope x = true := by rfl) (hd : (x == ("__debug__" : Str)) = false := by decide)
    (hcd : (x == ("__classdict__" : Str)) = false := by decide) : Bx (PE X (.Name x pos) (tVar i)) := ⟨zaco hN (visB.of hv) hd hcd⟩
end L2
namespace L2
open PySem PySem.Spec PyProof.Rows
theorem zui {X : Cx} {i : Nat} {o k e : Expr} {tk tv : TE} {pos pos' : Pos} (ho : Bx (PE X o (tVar i))) (hk : Bx (PE X k tk)) (hv : Bx (PE X e tv))
    (ha : ∀ v, assign (.Subscript o k pos') X.env v = (do
      let ov ← holding [v] (eval o X.env)
      let iv ← holding [v, ov] (eval k X.env)
      standAt pos'
      holding [v, ov, iv] (setItem ov iv v)
      release [v, ov, iv] []))
    (hs : swapsWithSole [.Subscript o k pos'] e pos.line X.env = pure false) (hw : swappedStores [.Subscript o k pos'] e X.env = pure none) (h1 : (assignEach [.Subscript o k pos'] X.env).map (·.2) = [assign (.Subscript o k pos') X.env]) :
    Bx (PS X (.Assign [.Subscript o k pos'] e pos) (tAsg tv (gSub (tVar i) tk zaej))) := ⟨zacq hv.out (zahp ho.out hk.out zaak ha) hs hw h1⟩
end L2
namespace L2
open PySem PySem.Spec PyProof.Rows
noncomputable def SatK (fx : Addr → Prop) (H0 : Hp) (J : Nat → Prop) (σ0 : St) (D : Ends) : Out → Prop
  | .nx env => ∀ σ H, EnvOk fx H0 env σ H → (∀ j, J j → σ[j]? = σ0[j]?) → D.nx σ H
  | .bk env => ∀ σ H, EnvOk fx H0 env σ H → (∀ j, J j → σ[j]? = σ0[j]?) → D.bk σ H
  | .ct env => ∀ σ H, EnvOk fx H0 env σ H → (∀ j, J j → σ[j]? = σ0[j]?) → D.ct σ H
  | .rt d fr => ∀ v H, Same H0 H → zsz fx H0 d fr v H → D.rt v H
noncomputable def SSk (J : Nat → Prop) (ts : TS) (F : SF) : Prop := ∀ (fx : Addr → Prop) (H0 : Hp) (env : DEnv) (σ : St) (H : Hp) (D : Ends), EnvOk fx H0 env σ H → ∀ o, F env = some o → SatK fx H0 J σ D o → ts D σ H
section
variable {J : Nat → Prop}
theorem zafw : SSk J tNext sNil := by
  intro fx H0 env σ H D h o e q
  cases e
  exact q σ H h fun _ _ => rfl
end
end L2
namespace L2
open PySem PySem.Spec PyProof.Rows
section
variable {X : Cx}
end
end L2
namespace HT
open PySem PySem.Spec PyProof.Rows L2
section
variable {prog : Program} {w : World} {A : Around} {E : Value → Shared → Prop} {s : Shared}
end
end HT
namespace L2
open PySem PySem.Spec PyProof.Rows
end L2
namespace L2
open PySem PySem.Spec PyProof.Rows
end L2
namespace L2
open PySem PySem.Spec PyProof.Rows
end L2
namespace L2
open PySem PySem.Spec PyProof.Rows
end L2
namespace L2
open PySem PySem.Spec PyProof.Rows
section
variable {J : Nat → Prop} {f : Nat}
end
section
variable {J : Nat → Prop}
end
end L2
namespace L2
open PySem PySem.Spec PyProof.Rows
end L2
namespace L2
open PySem PySem.Spec PyProof.Rows
section
variable {f : Nat}
end
end L2
namespace L2
open PySem PySem.Spec PyProof.Rows
section
variable {J : Nat → Prop} {f : Nat}
end
end L2
namespace L2
open PySem PySem.Spec PyProof.Rows
section
variable {own : List Str} {fr : List Nat} {f k : Nat} {env : DEnv}
end
end L2
namespace PySem
open Sem (wp)
section
variable {prog : Program} {w : World} {A : Around} {E : Value → Shared → Prop} {s : Shared}
variable {b1 b2 b3 : Bool} {z TI TO i1 i2 i3 l1 l2 l3 : Addr} {k : Nat} {xs ys zs : Array Value}
end
end PySem
namespace L2
open PySem PySem.Spec PyProof.Rows
end L2
namespace PySem
open Sem (wp)
end PySem
namespace L2
open PySem PySem.Spec PyProof.Rows
end L2
namespace L2
open PySem PySem.Spec PyProof.Rows
section
variable {K : PySem.W.Frag} {ns : List Int} {J : Nat → Prop} {f : Nat}
end
end L2
namespace L2
open PySem PySem.Spec PyProof.Rows
section
variable {K : PySem.W.Frag} {ns : List Int} {J : Nat → Prop}
end
end L2
namespace L2
open PySem PySem.Spec PyProof.Rows
end L2
namespace L2
open PySem PySem.Spec PyProof.Rows
noncomputable def DnX (P : Program) (w : World) (K : PySem.W.Frag) (mg : Str → Option Value) (base : Heap) (x : Str) (ps : List Str) (k : Nat) (sp : Sp) : Prop :=
  ∃ f fd, FnOk P w K mg base (CXE P w) k f fd ps sp ∧ mg x = some (.ref f) ∧ PySem.W.keepIn K (.ref f) = true ∧ zla K fd ps []
section
variable {X : Cx}
noncomputable def XcOk (P : Program) (w : World) (K : PySem.W.Frag) (mg : Str → Option Value) (base : Heap) (x : Str) (C : Addr) : Prop :=
  ∃ f fd, XMk K C f ∧ FnOk P w K mg base CX0 1 f fd ["self", "at"] (spI C) ∧ zla K fd ["self", "at"] [] ∧ mg x = some (.ref C) ∧ PySem.W.findIn K (.ref C) "__class__" = some (some (.builtin "object.__class__")) ∧ PySem.W.exmOne K (.ref C) (.ref C) = some true
theorem zqx {E : XK} {C : Addr} {x : Str} {np cpos pos : Pos} {a : Expr} {te : TE} (M : XcOk X.prog X.w X.K X.mg X.base x C) (hr : Room 2 X.A) (hex : X.ex = []) (hc : X.calm = true) (hx : Lvs X E) (hg : Gl X x) (ha : Bx (PE X a te))
    (hdb : (x == ("__debug__" : Str)) = false) (he : starEach [a] X.env = [(false, eval a X.env)]) : Bx (PS X (.Raise (some (.Call (.Name x np) [a] [] cpos)) none pos) (zxs C E te)) := by
  obtain ⟨f, fd, M, F, hb, hm, _⟩ := M
  exact ⟨zabi M F hr hb hex hc hx hg hm ha.out hdb he⟩
end
theorem zadg {P : Program} {w : World} {K : PySem.W.Frag} {mg : Str → Option Value} {base : Heap} {N : List Str} {qual : Str} {scope : Scope} {f : Addr} {cd : Value} {A : Around} {outer : List Env} {s : Shared} {H : Hp} {E : XK} (h0k : HOk P w H s.heap) :
    Lvs (cxOf (CXE P w) P w K mg base N qual scope f cd A outer s H E) (StX H E) := fun pins σ H1 s1 e C dx I F q => zait I h0k F q
end L2
namespace L2
open PySem PySem.Spec PyProof.Rows
end L2
namespace L2
open PySem PySem.Spec PyProof.Rows
structure ErrAt (H : Hp) (e C dx : Addr) (d : PyData) : Prop where
  ex : ∃ tv, H e = some (.ext (xeD e C dx tv))
  at_ : ∃ v, H dx = some (.xd [("at", v)]) ∧ ∀ H', Rp H' d v
theorem ErrAt.up {H H' : Hp} {e C dx : Addr} {d : PyData} (h : ErrAt H e C dx d) (s : Same H H') : ErrAt H' e C dx d :=
  ⟨let ⟨tv, z⟩ := h.ex; ⟨tv, s _ _ z⟩, let ⟨v, z, r⟩ := h.at_; ⟨v, s _ _ z, r⟩⟩
noncomputable def SEe (j : Nat) (C : Addr) (d : PyData) (te : TE) (f : EF) : Prop := ∀ (fx : Addr → Prop) (H0 : Hp) (env : DEnv) (σ : St) (H : Hp) (e dx : Addr), EnvOk fx H0 env σ H → σ[j]? = some (some (.ref e)) → ErrAt H e C dx d → ∀ r, f env = some r → ∀ Q : VK, (∀ v H', Same H H' → ValOk (lim fx env σ r.bs) H H' r v → Q v H') → te σ H Q
noncomputable def SAe (j : Nat) (C : Addr) (d : PyData) (ta : TA) (f : AF) : Prop := ∀ (fx : Addr → Prop) (H0 : Hp) (env : DEnv) (σ : St) (H : Hp) (e dx : Addr), EnvOk fx H0 env σ H → σ[j]? = some (some (.ref e)) → ErrAt H e C dx d → ∀ rs, f env = some rs → ∀ Q : List V → Hp → Prop,
  (∀ vs H', Same H H' → Paired (fun r v => ValOk (lim fx env σ r.bs) H H' r v) rs vs → Q vs H') → ta σ H Q
noncomputable def STe (j : Nat) (C : Addr) (d : PyData) (tt : TT) (f : TF) : Prop := ∀ (fx : Addr → Prop) (H0 : Hp) (env : DEnv) (σ : St) (H : Hp) (e dx : Addr), EnvOk fx H0 env σ H → σ[j]? = some (some (.ref e)) → ErrAt H e C dx d → ∀ b, f env = some b → ∀ Q : Bool → Hp → Prop, (∀ H', Same H H' → Q b H') → tt σ H Q
noncomputable def SSe (j : Nat) (C : Addr) (d : PyData) (ts : TS) (F : SF) : Prop := ∀ (fx : Addr → Prop) (H0 : Hp) (env : DEnv) (σ : St) (H : Hp) (D : Ends) (e dx : Addr), EnvOk fx H0 env σ H → σ[j]? = some (some (.ref e)) → ErrAt H0 e C dx d → ∀ o, F env = some o → SatK fx H0 (fun k => k = j) σ D o → ts D σ H
section
variable {j : Nat} {C : Addr} {d : PyData}
theorem zajc {te : TE} {f : EF} (h : SE te f) : SEe j C d te f := fun fx H0 env σ H e dx hE _ _ => h fx H0 env σ H hE
theorem zajd {ta : TA} {f : AF} (h : SA ta f) : SAe j C d ta f := fun fx H0 env σ H e dx hE _ _ => h fx H0 env σ H hE
theorem zaje {ts : TS} {F : SF} (h : SSk (fun k => k = j) ts F) : SSe j C d ts F := fun fx H0 env σ H D e dx hE _ _ => h fx H0 env σ H D hE
theorem zajf : SEe j C d (tXat C (tVar j)) (eC d) := by
  intro fx H0 env σ H e dx h hj he r hr Q q
  cases hr
  obtain ⟨tv, he1⟩ := he.ex
  obtain ⟨v, hd, rv⟩ := he.at_
  exact ⟨_, hj, e, dx, tv, v, rfl, he1, hd, q v H (Same.refl _) ⟨rv _, fun z => by cases z⟩⟩
theorem zafx {K : PySem.W.Frag} {c : Addr} {b : Bool} (hk : PySem.W.kitOne K (.ref C) (.ref c) = some b) : SEe j C d (tCB (rIsX K C) (tCons (tVar j) (tCons (tC (.ref c)) tNil))) (eC (.bool b)) := by
  intro fx H0 env σ H e dx h hj he r hr Q q
  cases hr
  obtain ⟨tv, he1⟩ := he.ex
  exact ⟨_, hj, e, dx, tv, b, he1, q _ H (Same.refl _) ⟨zam, fun z => by cases z⟩, .inl ⟨c, rfl, hk⟩⟩
theorem zafy {K : PySem.W.Frag} {n : String} {b : Bool} (hk : PySem.W.kitOne K (.ref C) (.type n) = some b) : SEe j C d (tCB (rIsX K C) (tCons (tVar j) (tCons (tC (.ty n)) tNil))) (eC (.bool b)) := by
  intro fx H0 env σ H e dx h hj he r hr Q q
  cases hr
  obtain ⟨tv, he1⟩ := he.ex
  exact ⟨_, hj, e, dx, tv, b, he1, q _ H (Same.refl _) ⟨zam, fun z => by cases z⟩, .inr (.inl ⟨n, rfl, hk⟩)⟩
theorem zafz : SAe j C d tNil aNil := zajd zao
theorem zuj {te : TE} {ta : TA} {f : EF} {g : AF} (h1 : SEe j C d te f) (h2 : SAe j C d ta g) : SAe j C d (tCons te ta) (zac f g) := by
  intro fx H0 env σ H e dx h hj he rs hr Q q
  unfold zac at hr
  obtain ⟨x, ex, hr⟩ := Option.bind_eq_some_iff.mp hr
  obtain ⟨xs, exs, rfl⟩ := Option.map_eq_some_iff.mp hr
  exact h1 fx H0 env σ H e dx h hj he x ex _ fun v H1 s1 v1 => h2 fx H0 env σ H1 e dx (h.up s1) hj (he.up s1) xs exs _ fun vs H2 s2 vs2 => q (v :: vs) H2 (s1.trans s2)
    (.cons (v1.later (Same.refl _) s2 fun _ z => z) (Paired.mapP vs2 fun _ _ z => z.later s1 (Same.refl _) fun _ y => y))
theorem zaga {ta : TA} {f : AF} (ha : SAe j C d ta f) : SEe j C d (tTup ta) (eTup f) := by
  intro fx H0 env σ H e dx h hj he rr hr Q q
  unfold eTup at hr
  obtain ⟨rs, er, hr⟩ := Option.bind_eq_some_iff.mp hr
  split at hr
  · rename_i hl
    cases hr
    refine ha fx H0 env σ H e dx h hj he rs er _ fun vs H1 s1 v1 => ?_
    have r := zfz (fun i hi => hi) v1
    have hA := (h.up s1).lims (bss rs)
    refine ⟨zfq (by rw [← r.length, zgj]; exact hl), fun p hp => q _ _ (s1.trans (Same.new hp)) ⟨zkd hp (zfe hA hp) r, fun z => by cases z⟩⟩
  · cases hr
theorem zagb {te : TE} {f : EF} {i : Nat} (h1 : SEe j C d te f) (hJ : ¬ i = j) : SSe j C d (tAsg te (gName i)) (sSet i f) := by
  intro fx H0 env σ H D e dx h hj he o er q
  unfold sSet at er
  obtain ⟨r, er', rfl⟩ := Option.map_eq_some_iff.mp er
  exact h1 fx H0 env σ H e dx h hj (he.up h.base) r er' _ fun v H' s hv => q _ H' (h.put s hv i) fun k hk => List.getElem?_set_ne fun z => hJ (by rw [z]; exact hk)
theorem zajg {tc : TT} {t u : TS} {c : TF} {f g : SF} (hc : STe j C d tc c) (h1 : SSe j C d t f) (h2 : SSe j C d u g) : SSe j C d (tIfS tc t u) (sIf c f g) := by
  intro fx H0 env σ H D e dx h hj he o er q
  unfold sIf at er
  obtain ⟨b, eb, er⟩ := Option.bind_eq_some_iff.mp er
  refine hc fx H0 env σ H e dx h hj (he.up h.base) b eb _ fun H' s => ?_
  cases b with
  | true => exact iteT (h1 fx H0 env σ H' D e dx (h.up s) hj he o er q)
  | false => exact iteF (h2 fx H0 env σ H' D e dx (h.up s) hj he o er q)
end
noncomputable def zyg (CS : List Str) (i j : Nat) (w : Str) (n : Nat) (g : GFX) (f : AF) (hd : Str → PyData → SF) : SF := fun env => (f env).bind fun rs => if rs.length = n then (g (zhf rs)).bind fun r => match r with
  | .ok d fr => some (.nx (putV env i ⟨.tuple [.str w, d], false, bss rs⟩))
  | .rx c d => if c ∈ CS then (hd c d (env.set j .no)).bind fun o => match o with
    | .nx e => some (.nx (e.set j .no))
    | _ => none else none else none
theorem EnvOk.setNo {fx : Addr → Prop} {H0 : Hp} {env : DEnv} {σ : St} {H : Hp} (h : EnvOk fx H0 env σ H) (i : Nat) (v : Option V) : EnvOk fx H0 (env.set i .no) (σ.set i v) H := by
  have oN : ∀ b, own (env.set i .no) (σ.set i v) b → own env σ b := fun b ⟨k, d, h1, h2⟩ => by
    rcases zcd h1 with ⟨_, z⟩ | ⟨n, z⟩
    · cases z
    · exact ⟨k, d, z, by rw [List.getElem?_set_ne (fun y => n y.symm)] at h2; exact h2⟩
  refine ⟨by rw [List.length_set, List.length_set]; exact h.len, fun k d e => ?_, fun k d e => ?_, fun k l d d' a e1 e2 z1 z2 => ?_, h.base, h.fxs⟩
  · rcases zcd e with ⟨_, z⟩ | ⟨n, z⟩
    · cases z
    · obtain ⟨u, g1, g2⟩ := h.pl k d z
      exact ⟨u, by rw [List.getElem?_set_ne (fun y => n y.symm)]; exact g1, Rp.same (Offs.sub fun b y => y.imp id (oN b)) _ g2⟩
  · rcases zcd e with ⟨_, z⟩ | ⟨n, z⟩
    · cases z
    · obtain ⟨a, g1, g2, g3, g4⟩ := h.ac k d z
      exact ⟨a, by rw [List.getElem?_set_ne (fun y => n y.symm)]; exact g1, g2, g3, g4.same (Offs.sub fun b y => y.imp id (oN b)) fun o z => z⟩
  · rcases zcd e1 with ⟨_, z⟩ | ⟨n1, y1⟩
    · cases z
    · rcases zcd e2 with ⟨_, z⟩ | ⟨n2, y2⟩
      · cases z
      · rw [List.getElem?_set_ne (fun y => n1 y.symm)] at z1
        rw [List.getElem?_set_ne (fun y => n2 y.symm)] at z2
        exact h.inj k l d d' a y1 y2 z1 z2
theorem zajh {cl : Str → Addr} {CS : List Str} {fx : Addr → Prop} {H0 : Hp} {env : DEnv} {σ : St} {H1 : Hp} {D : Ends} {j : Nat} {hd : Str → PyData → SF} {ts : Addr → TS} {c : Str} {d : PyData} {o : Out}
    (h1 : EnvOk fx H0 env σ H1) (hj : j < env.length) (hc : c ∈ CS) (hs : ∀ c ∈ CS, ∀ d, SSe j (cl c) d (ts (cl c)) (hd c d)) (e : ((hd c d (env.set j .no)).bind fun o => match o with | .nx e => some (Out.nx (e.set j .no)) | _ => none) = some o) (q : Sat fx H0 D o) :
    ∀ k od H', RX H1 (cl c) d k od H' → tErr (fun C => ∃ c ∈ CS, C = cl c) ts j D σ H1 k od H' := by
  rintro k od H2 ⟨rfl, s2, fl, dx, v, rfl, hdx, rp⟩
  obtain ⟨o1, e1, e⟩ := Option.bind_eq_some_iff.mp e
  refine ⟨cl c, dx, rfl, ⟨c, hc, rfl⟩, rfl, fun ea H3 q1 q2 ⟨tv, hea⟩ => ?_⟩
  have s3 : Same H1 H3 := fun b o z => q1 b o z (s2 b o z)
  have hd3 : H3 dx = some (.xd [("at", v)]) := q2 _ _ hdx (fun φ z => by cases z)
  have h3 : EnvOk fx H0 (env.set j .no) (σ.set j (some (.ref ea))) H3 := (h1.up s3).setNo j _
  have noown : ∀ b u, H3 b = some u → (∀ xs, u ≠ .lst xs) → (∀ xs, u ≠ .dK xs) → ¬ own (env.set j .no) (σ.set j (some (.ref ea))) b := fun b u hb n1 n2 ⟨k, d', y1, y2⟩ => by
    obtain ⟨a, g1, g2, g3, g4⟩ := h3.ac k d' y1
    rw [y2] at g1
    cases g1
    cases d' with
    | list ds => obtain ⟨ys, z1, _⟩ := g4; rw [hb] at z1; cases z1; exact n1 _ rfl
    | dict ds => obtain ⟨ys, z1, _⟩ := g4; rw [hb] at z1; cases z1; exact n2 _ rfl
    | _ => exact g4.elim
  refine hs c hc d fx _ _ _ H3 _ ea dx h3.rebase (List.getElem?_set_self (by rw [← h1.len]; exact hj)) ⟨⟨tv, by rw [Offs.get (noown _ _ hea (fun _ z => by cases z) (fun _ z => by cases z))]; exact hea⟩, v, by rw [Offs.get (noown _ _ hd3 (fun _ z => by cases z) (fun _ z => by cases z))]; exact hd3, fun H' => zkc fl rp⟩ o1 e1 ?_
  cases o1 with
  | nx e2 =>
    cases e
    exact fun σ' H' h' k => q _ _ ((h'.unbase h3.floor).setNo j none)
  | bk e2 => cases e
  | ct e2 => cases e
  | rt d2 fr => cases e
theorem zagc {cl : Str → Addr} {CS : List Str} {i j n : Nat} {w : Str} {g : GFX} {f : AF} {hd : Str → PyData → SF} {ta : TA} {ts : Addr → TS} (N : Nat) (hj : j < N) (ha : SA ta f) (hs : ∀ c ∈ CS, ∀ d, SSe j (cl c) d (ts (cl c)) (hd c d)) :
    SS (zafp (fun C => ∃ c ∈ CS, C = cl c) w (spX cl n g) ta ts i j) (fun env => if env.length = N then zyg CS i j w n g f hd env else none) := by
  intro fx H0 env σ H D h o e q
  dsimp only at e
  split at e
  · rename_i hN
    unfold zyg at e
    obtain ⟨rs, er, e⟩ := Option.bind_eq_some_iff.mp e
    split at e
    · rename_i hn
      obtain ⟨r, ez, e⟩ := Option.bind_eq_some_iff.mp e
      refine ha fx H0 env σ H h rs er _ fun vs H1 s1 v1 => ?_
      refine ⟨lim fx env σ (bss rs), zhf rs, r, by rw [zgj]; exact hn, (h.up s1).lims _, zfz (fun i hi => hi) v1, ez, ?_⟩
      cases r with
      | ok d fr =>
        cases e
        intro v H2 s2 rt p hp
        have hA := ((h.up s1).up s2).lims (bss rs)
        refine q _ _ (h.put (r := ⟨.tuple [.str w, d], false, bss rs⟩) ((s1.trans s2).trans (Same.new hp)) ⟨?_, fun z => by cases z⟩ i)
        exact zkd hp (zfe hA hp) (zcr zbf (zcr rt.1 zdo))
      | rx c d =>
        dsimp only at e
        split at e
        · rename_i hc
          exact zajh (h.up s1) (by rw [hN]; exact hj) hc hs e q
        · cases e
    · cases e
  · cases e
end L2
namespace L2
open PySem PySem.Spec PyProof.Rows
end L2
namespace L2
open PySem PySem.Spec PyProof.Rows
section
variable {X : Cx}
end
end L2
namespace L2
open PySem PySem.Spec PyProof.Rows
noncomputable def xcB (C : Addr) (cd : ClassData) (sl : Array (Option Value)) : Bool := match cd.mro, sl.toList with
  | .ref C' :: bm, [_, _, _, _, some (.builtin n), _] => C' == C && !cd.hasDel && cd.hasDict && n == "ValueError.__new__" && bm.contains (.type "ValueError") && bm.contains (.type "BaseException") && !bm.contains (.type "AttributeError") && !bm.contains (.type "NameError") && zdj bm
  | _, _ => false
theorem zaji {K : PySem.W.Frag} {C : Addr} {dd : Option Addr} {cd : ClassData} {sl : Array (Option Value)} (l : K.lookup C = some ⟨.type "type", dd, .cls cd, sl⟩) (h : xcB C cd sl = true) : xcIn K C = true ∧ xcR K C = true := by
  unfold xcB at h
  unfold xcIn xcR
  rw [l]
  split at h
  · rename_i C' bm a0 a1 a2 a3 n a5 hm hs
    obtain ⟨nm, bs, mro, ns, qn, hd, sn, sub, ab, col, del⟩ := cd
    obtain ⟨sl⟩ := sl
    dsimp only at hm hs
    subst hm
    have hs : sl = [a0, a1, a2, a3, some (.builtin n), a5] := hs
    subst hs
    rw [Bool.and_eq_true] at h
    exact h
  · cases h
section
variable {K : PySem.W.Frag} {C c : Addr}
theorem zoy {b : Bool} (h1 : PySem.W.isClsIn K c = true) (h2 : PySem.W.typeIn K (.ref c) = some (.type "type")) (h3 : PySem.W.subIn K (.ref C) (.ref c) = some b) : PySem.W.kitCls K (.ref C) (.ref c) = some b := by
  unfold PySem.W.kitCls
  dsimp only
  have h1 : (PySem.W.clsIn K c).isSome = true := h1
  rw [if_pos (by rw [h1, h2]; rfl)]
  exact h3
theorem zajj (h1 : PySem.W.isClsIn K c = true) (h2 : PySem.W.typeIn K (.ref c) = some (.type "type")) (h3 : PySem.W.subIn K (.ref C) (.ref c) = some true) : PySem.W.kitOne K (.ref C) (.ref c) = some true := by
  unfold PySem.W.kitOne
  split
  · rfl
  · exact zoy h1 h2 h3
theorem zyh (h0 : PySem.W.subIn K (.ref C) (.ref C) = some true) (h1 : PySem.W.isClsIn K c = true) (h2 : PySem.W.typeIn K (.ref c) = some (.type "type")) (h3 : PySem.W.subIn K (.ref C) (.ref c) = some false) : PySem.W.kitOne K (.ref C) (.ref c) = some false := by
  unfold PySem.W.kitOne
  split
  · rename_i e
    have e : C = c := Value.ref.inj (beq_iff_eq.mp e)
    rw [← e, h0] at h3
    cases h3
  · exact zoy h1 h2 h3
theorem zajk (h3 : PySem.W.subIn K (.ref C) (.type "ValueError") = some true) : PySem.W.kitOne K (.ref C) (.type "ValueError") = some true := by
  unfold PySem.W.kitOne
  rw [if_neg (by intro e; cases beq_iff_eq.mp e)]
  unfold PySem.W.kitCls
  dsimp only
  rw [if_pos (show PySem.W.kitMeta "ValueError" = true by decide +kernel)]
  exact h3
theorem zajl (hb : PySem.W.subIn K (.ref C) (.type "BaseException") = some true) (h1 : PySem.W.isClsIn K C = true) (h2 : PySem.W.typeIn K (.ref C) = some (.type "type")) (h3 : PySem.W.subIn K (.ref C) (.ref C) = some true) : PySem.W.exmOne K (.ref C) (.ref C) = some true := by
  unfold PySem.W.exmOne
  rw [hb, if_pos (by rfl)]
  exact zoy h1 h2 h3
end
end L2
namespace L2
open PySem PySem.Spec PyProof.Rows
structure XKit (P : Program) (w : World) (K : PySem.W.Frag) (mg : Str → Option Value) (base : Heap) (cl : Str → Addr) (CS KS : List Str) (B : Str) : Prop where
  ok : ∀ c ∈ CS, XcOk P w K mg base c (cl c)
  ex : ∀ c ∈ CS, PySem.W.exmOne K (.ref (cl c)) (.ref (cl B)) = some true
  kit : ∀ c ∈ CS, ∀ k ∈ KS, PySem.W.kitOne K (.ref (cl c)) (.ref (cl k)) = some (decide (c = k))
  val : ∀ c ∈ CS, PySem.W.kitOne K (.ref (cl c)) (.type "ValueError") = some true
  mgk : ∀ k ∈ KS, mg k = some (.ref (cl k))
  mgB : mg B = some (.ref (cl B))
  mgV : mg "ValueError" = none
theorem znl {p : Str → Prop} : ∀ c ∈ ([] : List Str), p c := fun c h => absurd h (by simp)
theorem zff {p : Str → Prop} {a : Str} {l : List Str} (h : p a) (t : ∀ c ∈ l, p c) : ∀ c ∈ a :: l, p c := fun c hc => (List.mem_cons.mp hc).elim (fun e => e ▸ h) (t c)
section
variable {K : PySem.W.Frag} {C c B : Addr} {a b : Str}
theorem kd_t (h : PySem.W.kitOne K (.ref C) (.ref c) = some true) (e : a = b) : PySem.W.kitOne K (.ref C) (.ref c) = some (decide (a = b)) := by rw [h, decide_eq_true e]
theorem kd_f (h : PySem.W.kitOne K (.ref C) (.ref c) = some false) (e : a ≠ b) : PySem.W.kitOne K (.ref C) (.ref c) = some (decide (a = b)) := by rw [h, decide_eq_false e]
theorem zajm (hb : PySem.W.subIn K (.ref B) (.type "BaseException") = some true) (h1 : PySem.W.isClsIn K B = true) (h2 : PySem.W.typeIn K (.ref B) = some (.type "type")) (h3 : PySem.W.subIn K (.ref C) (.ref B) = some true) : PySem.W.exmOne K (.ref C) (.ref B) = some true := by
  unfold PySem.W.exmOne
  rw [hb, if_pos (by rfl)]
  exact zoy h1 h2 h3
end
section
variable {X : Cx}
theorem zlk {x : Str} {C : Addr} {pos : Pos} (hg : Gl X x) (hm : X.mg x = some (.ref C)) (hd : (x == ("__debug__" : Str)) = false) : Bx (PE X (.Name x pos) (tC (.ref C))) := ⟨zafr hg hm hd⟩
theorem zagd {C f : Addr} {o : Expr} {pos : Pos} {te : TE} (M : XMk X.K C f) (ho : Bx (PE X o te)) (hb : attributeBase o "at" X.env (eval o X.env) = eval o X.env) : Bx (PE X (.Attribute o "at" pos) (tXat C te)) := ⟨zaix M ho.out hb⟩
theorem zmi {K : PySem.W.Frag} {C f : Addr} (hK : X.K = K) (M : XMk K C f) (ha : PySem.W.findIn K (.ref C) "__class__" = some (some (.builtin "object.__class__"))) : CallR X (.builtin "isinstance") (rIsX K C) := by
  subst hK; exact zabm M ha
theorem zabv {K : PySem.W.Frag} {C f : Addr} {o : Expr} {pos : Pos} {te : TE} (hK : X.K = K) (M : XMk K C f) (ho : Bx (PE X o te)) (hb : attributeBase o "at" X.env (eval o X.env) = eval o X.env) : Bx (PE X (.Attribute o "at" pos) (tXat C te)) := by
  subst hK; exact zagd M ho hb
theorem zabw {cl : Str → Addr} {CS KS : List Str} {k : Nat} {ps : List Str} {sp : Sp} {wd fn x n cn : Str} {x1 x2 : Nat} {p cpos wpos tpos pos pos' apos hpos cp : Pos} {a : Expr} {as : List Expr} {st0 : Stmt} {suite : List Stmt} {t : TA} {ts : Addr → TS} {i j : Nat}
    (D : DnX X.prog X.w X.K X.mg X.base fn ps k sp) (XK : XKit X.prog X.w X.K X.mg X.base cl CS KS cn) (hr : Room k X.A) (hg : Gl X fn) (ha : Bx (PA X.nox (a :: as) t))
    (hN : X.N.Nodup) (hi : X.N[i]? = some x) (hx : X.env.scope.names.lookup x = some .local) (hj : X.N[j]? = some n) (hn : X.env.scope.names.lookup n = some .local)
    (hst : X.stack = X.env :: X.outer) (hfr : X.env.frame = some X.env.locals) (hgc : Gl X cn)
    (hs : ∀ C e f, XMk X.K C f → PySem.W.findIn X.K (.ref C) "__class__" = some (some (.builtin "object.__class__")) → Bx (PSs (X.hold e) (st0 :: suite) (ts C)))
    (hdb : (fn == ("__debug__" : Str)) = false) (hdc : (cn == ("__debug__" : Str)) = false) (he : starEach (a :: as) X.env = (false, eval a X.env) :: starEach as X.env) (hpl : (backTo cpos (starEach as X.env)).any (·.1) = false)
    (hsw : swapsWith (.Tuple [.Constant (.str wd) x2 wpos, .Call (.Name fn p) (a :: as) [] cpos] x1 tpos) (some (.Name x pos')) apos.line X.env = pure false) :
    Bx (PS X (.Try [.Assign [.Name x pos'] (.Tuple [.Constant (.str wd) x2 wpos, .Call (.Name fn p) (a :: as) [] cpos] x1 tpos) apos] [.ExceptHandler (some (.Name cn cp)) (some n) (st0 :: suite) hpos] [] [] pos) (zafp (fun C => ∃ c ∈ CS, C = cl c) wd sp t ts i j)) := by
  obtain ⟨f, fd, F, hm, hk, hb⟩ := D
  refine ⟨zafq F hr hg hm hk hb ha.out hN hi hx hj hn hst hfr hgc XK.mgB (fun C ⟨c, hc, e⟩ => by subst e; exact XK.ex c hc) (fun C ⟨c, hc, e⟩ ea => ?_) hdb hdc he hpl hsw⟩
  subst e
  obtain ⟨f2, _, M, _, _, _, hcl, _⟩ := XK.ok c hc
  exact (hs _ ea f2 M hcl).out
end
end L2
namespace L2
open PySem PySem.Spec PyProof.Rows
noncomputable def insL {α : Type} (xs : List α) (k : Nat) (y : α) : List α := xs.take k ++ y :: xs.drop k
theorem zuk {α : Type} {xs : List α} {k : Nat} {y : α} : (insL xs k y).length = xs.length + 1 := by
  unfold insL
  rw [List.length_append, List.length_cons, List.length_take, List.length_drop]
  omega
noncomputable def zyi : V → List V → Hp → VK → Prop := fun x vs H Q => ∃ l xs, ∃ (k : Nat), ∃ y, x = .ref l ∧ vs = [.int (k : Int), y] ∧ H l = some (.lst xs) ∧ k ≤ xs.length ∧ xs.length < sizeLine ∧ k < 2 ^ 62 ∧ Q .non (upd H l (.lst (insL xs k y)))
theorem zmj {X : Cx} : MtM X "list.insert" zyi := by
  intro pins s σ H x vs v us Q I rx rv h
  obtain ⟨l, xs, k, y, rfl, rfl, hH, hk, hz, hk2, q⟩ := h
  cases rx
  obtain ⟨u1, u2, rfl, r1, r2⟩ := zsq rv
  obtain ⟨t, rfl⟩ := r1
  obtain ⟨z, its, n, r, hl, e⟩ := I.lstM hH
  have k1 : (-(2 ^ 63) : Int) ≤ (k : Int) := Int.le_trans (by decide) (Int.natCast_nonneg k)
  have k2 : (k : Int) < 2 ^ 63 := Int.lt_trans (Int.ofNat_lt.mpr hk2) (by decide)
  have hsz : its.toArray.size ≤ sizeLine := by rw [List.size_toArray, ← hl]; exact Nat.le_of_lt hz
  obtain ⟨x, hx⟩ : ∃ x : Int, x = (k : Int) := ⟨_, rfl⟩
  rw [← hx] at k1 k2
  have hfit : ¬ (!Builtin.List.listFitsIndex x) = true := by rw [fitsIndex_both k1 k2]; exact Bool.false_ne_true
  have M := PySem.AutoSeq1.list_insert_list_int_val_1 l its.toArray n x t u2 hfit hsz
  rw [show (Value.int (k : Int) t) = Value.int x t by rw [hx]]
  refine call_meets F.slot_list_insert ⟨_, e, rfl⟩ F.entry_list_insert (F.args_list_insert_3 _ _ _) M ⟨e, ?_⟩
  refine ⟨.non, _, I.lset (its' := insL its k u2) hH e ?_ ((r.take k).append (.cons r2 (r.drop k))) ?_, rfl, q⟩
  · have e0 : (if x < 0 then (x + ((its.toArray.size : Nat) : Int)).toNat else min x.toNat its.toArray.size) = k := by
      rw [if_neg (by omega), List.size_toArray]; omega
    show (its.toArray.extract 0 (if x < 0 then (x + ((its.toArray.size : Nat) : Int)).toNat else min x.toNat its.toArray.size)).push u2 ++ its.toArray.extract (if x < 0 then (x + ((its.toArray.size : Nat) : Int)).toNat else min x.toNat its.toArray.size) = (insL its k u2).toArray
    rw [e0]
    apply Array.ext'
    unfold insL
    simp
    exact List.take_of_length_le (by rw [List.length_drop]; exact Nat.le_refl _)
  · show (insL xs k y).length ≤ sizeLine
    rw [zuk]; omega
theorem Rps.ins {H : Hp} {ds : List PyData} {vs : List V} {d : PyData} {v : V} (h : Rps H ds vs) (k : Nat) (r : Rp H d v) : Rps H (insL ds k d) (insL vs k v) := (h.take k).append (zcr r (h.drop k))
end L2
namespace L2
open PySem PySem.Spec PyProof.Rows
noncomputable def sIns (i : Nat) (a : AF) : SF := fun env => match env[i]? with
  | some (.ac (.list ds)) => (a env).bind fun rs => (match rs with
    | [k, r] => (match k.d with
      | .int z => if 0 ≤ z ∧ z.toNat ≤ ds.length ∧ ds.length < 100000 ∧ i ∉ r.bs then some (.nx ((frzs env r.bs).set i (.ac (.list (insL ds z.toNat r.d))))) else none
      | _ => none)
    | _ => none)
  | _ => none
theorem zyj {K : PySem.W.Frag} {i : Nat} {ta : TA} {g : AF} (h1 : SA ta g) : SS (tDrop (tBM K "list" zyi (tVar i) ta)) (sIns i g) := by
  intro fx H0 env σ H D h o e q
  unfold sIns at e
  split at e
  · rename_i ds ei
    obtain ⟨rs, er, e⟩ := Option.bind_eq_some_iff.mp e
    split at e
    · rename_i k r
      split at e
      · rename_i z hz
        split at e
        · rename_i hl
          cases e
          obtain ⟨a, g1, g2, g3, g4⟩ := h.ac i _ ei
          obtain ⟨xs0, hx0, rx0⟩ := g4
          refine ⟨_, g1, .inl ⟨rfl, _, SqL.of hx0⟩, h1 fx H0 env σ H h _ er _ fun vs H' s hv => ?_⟩
          cases hv with
          | cons hk t =>
            cases t with
            | cons hr t =>
              cases t
              have hk := hk.rp
              rw [hz] at hk
              cases zct hk
              have h' := (h.up s).frzs r.bs
              have ei' := zli hl.2.2.2 ei
              obtain ⟨a', z1, _, _, z4⟩ := h'.ac i _ ei'
              rw [g1] at z1
              cases z1
              obtain ⟨xs, hx', rx'⟩ := z4
              refine ⟨a, xs, z.toNat, _, rfl, by rw [Int.toNat_of_nonneg hl.1], hx', by rw [← rx'.length]; exact hl.2.1, zok (by rw [← rx'.length]; exact hl.2.2.1), by omega, ?_⟩
              exact q σ _ (h'.mut ei' g1 ⟨_, zau, rx'.ins z.toNat (Rp.same (Offs.sub zgb) _ hr.rp)⟩)
        · cases e
      · cases e
    · cases e
  · cases e
section
variable {X : Cx}
theorem zabx {cl : Str → Addr} {k : Nat} {ps : List Str} {sp : Sp} {fn cn : Str} {p cpos pos epos hpos cp : Pos} {a : Expr} {as : List Expr} {st0 : Stmt} {suite : List Stmt} {t : TA} {ts : TS}
    (D : DnX X.prog X.w X.K X.mg X.base fn ps k sp) (XO : XcOk X.prog X.w X.K X.mg X.base cn (cl cn)) (hr : Room k X.A) (hg : Gl X fn) (ha : Bx (PA X.nox (a :: as) t))
    (hst : X.stack = X.env :: X.outer) (hfr : X.env.frame = some X.env.locals) (hgc : Gl X cn) (hs : ∀ e, Bx (PSs (X.hold e) (st0 :: suite) ts))
    (hdb : (fn == ("__debug__" : Str)) = false) (hdc : (cn == ("__debug__" : Str)) = false) (he : starEach (a :: as) X.env = (false, eval a X.env) :: starEach as X.env) (hpl : (backTo cpos (starEach as X.env)).any (·.1) = false)
    (hsw : swapsWith (.Call (.Name fn p) (a :: as) [] cpos) none epos.line X.env = pure false) :
    Bx (PS X (.Try [.Expr (.Call (.Name fn p) (a :: as) [] cpos) epos] [.ExceptHandler (some (.Name cn cp)) none (st0 :: suite) hpos] [] [] pos) (zafn (cl cn) sp t ts)) := by
  obtain ⟨f, fd, F, hm, hk, hb⟩ := D
  obtain ⟨f2, fd2, M2, F2, hb2, hm2, hc2, he2⟩ := XO
  exact ⟨zafo F hr hg hm hk hb ha.out hst hfr hgc hm2 he2 (fun e => (hs e).out) hdb hdc he hpl hsw⟩
end
noncomputable def zyk (c : Str) (n : Nat) (g : GFX) (f : AF) (hd : SF) : SF := fun env => (f env).bind fun rs => if rs.length = n then (g (zhf rs)).bind fun r => match r with
  | .ok _ _ => some (.nx env)
  | .rx c' _ => if c' = c then hd env else none else none
theorem zage {cl : Str → Addr} {c : Str} {n : Nat} {g : GFX} {f : AF} {hd : SF} {ta : TA} {ts : TS} (ha : SA ta f) (hs : SS ts hd) : SS (zafn (cl c) (spX cl n g) ta ts) (zyk c n g f hd) := by
  intro fx H0 env σ H D h o e q
  unfold zyk at e
  obtain ⟨rs, er, e⟩ := Option.bind_eq_some_iff.mp e
  split at e
  · rename_i hn
    obtain ⟨r, ez, e⟩ := Option.bind_eq_some_iff.mp e
    refine ha fx H0 env σ H h rs er _ fun vs H1 s1 v1 => ?_
    refine ⟨lim fx env σ (bss rs), zhf rs, r, by rw [zgj]; exact hn, (h.up s1).lims _, zfz (fun i hi => hi) v1, ez, ?_⟩
    cases r with
    | ok d fr =>
      cases e
      intro v H2 s2 rt
      exact q _ _ (h.up (s1.trans s2))
    | rx c' d =>
      have e2 : (if c' = c then hd env else none) = some o := e
      by_cases hc : c' = c
      · rw [if_pos hc] at e2
        subst hc
        rintro k od H2 ⟨rfl, s2, fl, dx, v, rfl, hdx, rp⟩
        refine ⟨rfl, dx, rfl, fun ea H3 q1 q2 _ => ?_⟩
        exact hs fx H0 env σ H3 D ((h.up s1).up fun b o z => q1 b o z (s2 b o z)) o e2 q
      · rw [if_neg hc] at e2; cases e2
  · cases e
section
variable {j : Nat} {C : Addr} {d : PyData}
theorem ztj {K : PySem.W.Frag} {te : TE} {f : EF} (h : SEe j C d te f) : STe j C d (fun σ H Q => te σ H fun x H1 => ∃ k, TruV K x H1 k ∧ Q k H1) (tTru f) := by
  intro fx H0 env σ H e dx hE hj he b hb Q q
  unfold tTru at hb
  obtain ⟨r, er, hb⟩ := Option.bind_eq_some_iff.mp hb
  exact h fx H0 env σ H e dx hE hj he r er _ fun v H' s hv => ⟨b, zaik (Rp.same (Offs.same _ _) _ hv.rp) hb, q H' s⟩
theorem zyl {t u : TT} {f g : TF} (h : STe j C d t f) (k : STe j C d u g) : STe j C d (tAnd t u) (zabc f g) := by
  intro fx H0 env σ H e dx hE hj he b hb Q q
  unfold zabc at hb
  obtain ⟨c, ec, hb⟩ := Option.bind_eq_some_iff.mp hb
  refine h fx H0 env σ H e dx hE hj he c ec _ fun H' s => ?_
  cases c with
  | true => exact iteT (k fx H0 env σ H' e dx (hE.up s) hj (he.up s) b hb _ fun H'' s' => q H'' (s.trans s'))
  | false => cases hb; exact iteF (q H' s)
theorem zagf {t : TT} {f : TF} (h : STe j C d t f) : STe j C d (tNot t) (zbs f) := by
  intro fx H0 env σ H e dx hE hj he b hb Q q
  unfold zbs at hb
  obtain ⟨c, ec, rfl⟩ := Option.map_eq_some_iff.mp hb
  exact h fx H0 env σ H e dx hE hj he c ec _ fun H' s => q H' s
theorem zagg {K : PySem.W.Frag} {c1 c2 c3 : Addr} {b1 b2 b3 : Bool} (h1 : PySem.W.kitOne K (.ref C) (.ref c1) = some b1) (h2 : PySem.W.kitOne K (.ref C) (.ref c2) = some b2) (h3 : PySem.W.kitOne K (.ref C) (.ref c3) = some b3) : PySem.W.kitAny K (.ref C) [.ref c1, .ref c2, .ref c3] = some (b1 || (b2 || b3)) := by
  unfold PySem.W.kitAny
  rw [h1]
  cases b1 with
  | true => rfl
  | false =>
    dsimp only
    unfold PySem.W.kitAny
    rw [h2]
    cases b2 with
    | true => rfl
    | false =>
      dsimp only
      unfold PySem.W.kitAny
      rw [h3]
      cases b3 <;> rfl
theorem zaby {K : PySem.W.Frag} {c1 c2 c3 : Addr} {b : Bool} (hk : PySem.W.kitAny K (.ref C) [.ref c1, .ref c2, .ref c3] = some b) : SEe j C d (tCB (rIsX K C) (tCons (tVar j) (tCons (tTup (tCons (tC (.ref c1)) (tCons (tC (.ref c2)) (tCons (tC (.ref c3)) tNil)))) tNil))) (eC (.bool b)) := by
  intro fx H0 env σ H e dx h hj he r hr Q q
  cases hr
  obtain ⟨tv, he1⟩ := he.ex
  refine ⟨_, hj, by show 3 ≤ _; exact zfq (by decide), fun p hp => ?_⟩
  have sn : Same H (upd H p (.tup [.ref c1, .ref c2, .ref c3])) := Same.new hp
  refine ⟨e, dx, tv, b, sn _ _ he1, q _ _ sn ⟨zam, fun z => by cases z⟩, .inr (.inr ⟨p, _, [.ref c1, .ref c2, .ref c3], rfl, zau, fun its v => ?_, hk⟩)⟩
  cases v with
  | cons r1 v =>
    cases v with
    | cons r2 v =>
      cases v with
      | cons r3 v => cases v; cases r1; cases r2; cases r3; rfl
end
end L2
namespace L2
open PySem PySem.Spec PyProof.Rows
noncomputable def rEqE (K : PySem.W.Frag) : R2 := fun x y H Q => ∃ a b xs, x = .ref a ∧ y = .ref b ∧ SqL K H a xs ∧ SqL K H b [] ∧ Q (.bl xs.isEmpty) H
theorem zajn {X : Cx} {K : PySem.W.Frag} (hK : X.K = K) (hu : X.A.units + 64 < cLine) : OpR X (compareOp .Eq) (rEqE K) := by
  subst hK
  intro pins s σ H x y v w Q I rx ry h
  obtain ⟨a, b, xs, rfl, rfl, ha, hb, q⟩ := h
  cases rx
  cases ry
  obtain ⟨its, rv, p, _⟩ := I.list ha
  obtain ⟨jts, rw', p2, _⟩ := I.list hb
  cases rw'
  have q : EP X pins σ Q (.bool xs.isEmpty) s := ⟨.bl xs.isEmpty, H, I, rfl, q⟩
  cases rv with
  | nil => exact SeqAt.eq_listAt (e := fun _ => true) p.isList p2.isList rfl (by omega) (fun j h1 h2 => absurd h1 (by simp)) q
  | cons r rs => exact SeqAt.eq_list_lengthsAt p.isList p2.isList (by simp) (by omega) q
noncomputable def eqE : OF
  | .list ds, .list [] => some (.bool ds.isEmpty, false)
  | _, _ => none
theorem zajo {K : PySem.W.Frag} : SO (rEqE K) eqE := by
  intro A H x y dx dy hA rx ry d fr e Q q
  unfold eqE at e
  split at e
  · rename_i ds
    cases e
    obtain ⟨a, xs, rfl, ha, r⟩ := zcy rx
    obtain ⟨b, ys, rfl, hb, r2⟩ := zcy ry
    have : ys = [] := by unfold Rps at r2; exact r2
    subst this
    have hx : xs.isEmpty = ds.isEmpty := (zgu r.length).symm
    exact ⟨a, b, xs, rfl, rfl, SqL.of (Offs.of ha).2, SqL.of (Offs.of hb).2, by rw [hx]; exact q _ H (Same.refl _) zam (fun z => by cases z)⟩
  · cases e
theorem ztk {X : Cx} : OpR X (compareOp .NotIn) (fun x y H Q => ∃ i j, x = .str i ∧ y = .str j ∧ Q (.bl (!(!(Builtin.Str.occurrences j i 0 j.length 1).isEmpty))) H) := by
  intro pins s σ H x y v u Q I rx ry h
  obtain ⟨i, j, rfl, rfl, q⟩ := h
  obtain ⟨t, rfl⟩ := rx
  obtain ⟨t', rfl⟩ := ry
  exact PyProof.Rows.notIn_str (zbw I q rfl)
noncomputable def zqy : OF
  | .str i, .str j => some (.bool (!(!(Builtin.Str.occurrences j i 0 j.length 1).isEmpty)), false)
  | _, _ => none
theorem zym : SO (fun x y H Q => ∃ i j, x = .str i ∧ y = .str j ∧ Q (.bl (!(!(Builtin.Str.occurrences j i 0 j.length 1).isEmpty))) H) zqy := by
  intro A H x y dx dy hA rx ry d fr e Q q
  unfold zqy at e
  split at e
  · cases e
    cases zdv rx; cases zdv ry
    exact ⟨_, _, rfl, rfl, q _ H (Same.refl _) zam (fun z => by cases z)⟩
  · cases e
end L2
namespace Bc
open PySem L2
noncomputable def zmk : SF := (sSeq (sSet 2 (eC (.str "abcdefghijklmnopqrstuvwxyz")))
    (sSeq (sSet 3 (eOp ixD (eTup (zac (eC (.int 1)) (zac (eC (.int 3)) (zac (eC (.int 5)) (zac (eC (.int 7)) (zac (eC (.int 9)) (zac (eC (.int 11)) (zac (eC (.int 15)) (zac (eC (.int 17)) aNil))))))))) (eOp modD (eOp zci (eVar 1) (eC (.int 3))) (eC (.int 8)))))
    (sSeq (sSet 4 (eOp modD (eOp zci (eVar 1) (eC (.int 24))) (eC (.int 26))))
    (sSeq (sSet 5 (eOp mulD (eIxV 2 (eOp modD (eOp zci (eVar 1) (eC (.int 624))) (eC (.int 26)))) (eOp modD (eOp zci (eVar 1) (eC (.int 16224))) (eC (.int 8)))))
    (sSeq (sSet 6 (eOp modD (eOp zci (eVar 1) (eC (.int 129792))) (eOp addD (eCB lenD (zac (eVar 5) aNil)) (eC (.int 1)))))
    (sSeq (sSet 7 (eLst aNil))
    (sSeq (sFor (zgv (zac (eVar 0) aNil)) (gN 8)
    (sSeq (sSet 9 (eIxV 2 (eOp modD (eOp addD (eVar 4) (eOp mulD (eVar 3) (eVar 8))) (eC (.int 26)))))
    (sIf (zas (eOp eqD (eOp modD (eVar 1) (eC (.int 3))) (eC (.int 0)))) (sApp 7 (eOp addD (eOp addD (eSl (eVar 5) zdd (zcc (eVar 6))) (eVar 9)) (eSl (eVar 5) (zcc (eVar 6)) zdd))) (sIf (zas (eOp eqD (eOp modD (eVar 1) (eC (.int 3))) (eC (.int 1)))) (sApp 7 (eOp addD (eSl (eVar 5) zdd (zcc (eOp modD (eOp mulD (eVar 8) (eVar 3)) (eOp addD (eCB lenD (zac (eVar 5) aNil)) (eC (.int 1)))))) (eVar 9))) (sApp 7 (eOp mulD (eIxV 2 (eOp modD (eOp addD (eVar 4) (eOp zci (eVar 8) (eC (.int 8)))) (eC (.int 26)))) (eOp addD (eC (.int 1)) (eOp modD (eOp mulD (eVar 8) (eVar 3)) (eC (.int 8))))))))))
    (zqj 7))))))))
noncomputable def zeq : GF := fnD 10 zmk
noncomputable def zqz : SF := (sSeq (sSet 2 (eLst aNil))
    (sSeq (sFor (ziu (zac (eVar 1) aNil)) (gT 2 (zbe 3 (zbe 4 zfs)))
    (sSeq (sSet 5 (eSl (eVar 1) zdd (zcc (eVar 3))))
    (sSeq (sSet 6 (eOp zci (eIxV 0 (eVar 3)) (eC (.int 5))))
    (sSeq (sSet 7 (eLst aNil))
    (sSeq (sFor (zgv (zac (eCB minD (zac (eOp modD (eIxV 0 (eVar 3)) (eC (.int 5))) (zac (eVar 3) aNil))) aNil)) (gN 8)
    (sSeq (sSet 9 (eOp modD (eVar 6) (eCB lenD (zac (eVar 5) aNil))))
    (sSeq (sSet 6 (eOp zci (eVar 6) (eCB lenD (zac (eVar 5) aNil))))
    (zjg 7 5 (eVar 9)))))
    (sApp 2 (eTup (zac (eVar 4) (zac (eVar 7) aNil)))))))))
    (zqj 2)))
noncomputable def zhw : GF := fnD 10 zqz
end Bc
namespace Bc
open PySem L2
theorem zhx {α : Type} {enc out : α → PyData} {g : GT} {t : TF} {e : EF} {env : DEnv} (p : α → Bool) : ∀ {l : List α}, (∀ x ∈ l, ∃ e1, g (enc x) env = some e1 ∧ t e1 = some (p x) ∧ (p x = true → ∃ r, e e1 = some r ∧ r.d = out x)) →
    zjf g t e env (l.map enc) = some ((l.filter p).map out)
  | [], _ => rfl
  | x :: l, h => by
    obtain ⟨e1, h1, h2, h3⟩ := h x List.mem_cons_self
    have ih := zhx (l := l) p fun y hy => h y (List.mem_cons_of_mem _ hy)
    rw [List.map_cons]
    unfold zjf
    rw [h1, Option.bind_some, h2, Option.bind_some]
    cases hp : p x with
    | false =>
      rw [if_neg Bool.false_ne_true, ih, List.filter_cons, hp]; rfl
    | true =>
      obtain ⟨r, h4, h5⟩ := h3 hp
      rw [if_pos rfl, h4, Option.bind_some, ih, List.filter_cons, hp]
      simp [h5]
theorem zjs {α : Type} {enc out : α → PyData} {g : GT} {t : TF} {e : EF} {env : DEnv} {l : List α} (h : ∀ x ∈ l, ∃ e1, g (enc x) env = some e1 ∧ t e1 = some true ∧ ∃ r, e e1 = some r ∧ r.d = out x) : zjf g t e env (l.map enc) = some (l.map out) := by
  have q := zhx (enc := enc) (out := out) (g := g) (t := t) (e := e) (env := env) (fun _ => true) (l := l) fun x hx => let ⟨e1, h1, h2, h3⟩ := h x hx; ⟨e1, h1, h2, fun _ => h3⟩
  rw [q]
  congr 2
  exact List.filter_eq_self.mpr fun _ _ => rfl
theorem zul {α : Type} {enc : α → PyData} {g : GT} {body : SF} (I : List α → DEnv → Prop) (all : List α) : ∀ (l pre : List α) (env : DEnv), pre ++ l = all → I pre env →
    (∀ pre x post env, pre ++ x :: post = all → I pre env → ∃ e1 e2, g (enc x) env = some e1 ∧ (body e1 = some (.nx e2) ∨ body e1 = some (.ct e2)) ∧ I (pre ++ [x]) e2) → ∃ env', forL g body (l.map enc) env = some (.nx env') ∧ I all env'
  | [], pre, env, hall, h0, hs => by
    rw [List.append_nil] at hall
    subst hall
    exact ⟨env, rfl, h0⟩
  | x :: l, pre, env, hall, h0, hs => by
    obtain ⟨e1, e2, h1, h2, h3⟩ := hs pre x l env hall h0
    obtain ⟨env', h4, h5⟩ := zul I all l (pre ++ [x]) e2 (by rw [← hall]; simp) h3 hs
    refine ⟨env', ?_, h5⟩
    rw [List.map_cons]
    unfold forL
    rw [h1, Option.bind_some]
    rcases h2 with h2 | h2 <;> rw [h2, Option.bind_some] <;> exact h4
theorem zml {α : Type} {enc : α → PyData} {g : GT} {body : SF} {l : List α} {env : DEnv} (I : List α → DEnv → Prop) (h0 : I [] env) (hs : ∀ pre x post env, pre ++ x :: post = l → I pre env → ∃ e1 e2, g (enc x) env = some e1 ∧ (body e1 = some (.nx e2) ∨ body e1 = some (.ct e2)) ∧ I (pre ++ [x]) e2) :
    ∃ env', forL g body (l.map enc) env = some (.nx env') ∧ I l env' := zul I l l [] env rfl h0 hs
theorem zmm {α : Type} {enc : α → PyData} {g : GT} {body : SF} (p : α → Bool) (d : PyData) (fr : Bool) (I : DEnv → Prop) : ∀ (l : List α) (env : DEnv), I env →
    (∀ x ∈ l, ∀ env, I env → ∃ e1, g (enc x) env = some e1 ∧ (p x = true → ∃ e2, body e1 = some (.nx e2) ∧ I e2) ∧ (p x = false → body e1 = some (.rt d fr))) →
    (l.all p = true → ∃ env', forL g body (l.map enc) env = some (.nx env') ∧ I env') ∧ (l.all p = false → forL g body (l.map enc) env = some (.rt d fr))
  | [], env, h0, hs => ⟨fun _ => ⟨env, rfl, h0⟩, fun h => by simp at h⟩
  | x :: l, env, h0, hs => by
    obtain ⟨e1, h1, h2, h3⟩ := hs x List.mem_cons_self env h0
    rw [List.map_cons, List.all_cons]
    unfold forL
    rw [h1, Option.bind_some]
    cases hp : p x with
    | false =>
      rw [h3 hp, Option.bind_some]
      exact ⟨fun h => by simp at h, fun _ => rfl⟩
    | true =>
      obtain ⟨e2, h4, h5⟩ := h2 hp
      rw [h4, Option.bind_some]
      exact zmm p d fr I l e2 h5 fun y hy => hs y (List.mem_cons_of_mem _ hy)
theorem zagh {t : TS} {F : SF} (hs : SS t F) {env : DEnv} {σ : St} {H1 : Hp} {Q : VK} {nx : St → Hp → Prop} (hE : EnvOk (fun _ => False) H1 env σ H1) (e : F env = some (.rt (.bool true) false)) (k : ∀ H', Q (.bl true) H') : t { nx := nx, rt := Q } σ H1 := by
  refine hs _ H1 env σ H1 _ hE _ e fun v H s rt => ?_
  rw [show v = .bl true from zhn rt.1]
  exact k H
noncomputable def zdq (cs : List Int) : PyData := .list (cs.map .int)
theorem zum {H : Hp} : ∀ (cs : List Int), Rps H (cs.map .int) (cs.map .int)
  | [] => zdo
  | c :: cs => zcr zab (zum cs)
noncomputable def envL (n : Nat) (cs : List Int) : DEnv := .no :: .pl (zdq cs) :: List.replicate n .no
theorem zagi {H1 : Hp} {a pc : Addr} {cs : List Int} {n : Nat} (e : H1 pc = some (.lst (cs.map .int))) : EnvOk (fun _ => False) H1 (envL n cs) (some (.ref a) :: some (.ref pc) :: List.replicate n none) H1 := by
  have no : ∀ (i : Nat) (d : PyData), (envL n cs)[i]? ≠ some (Sl.ac d) := fun i d => by
    unfold envL
    cases i with
    | zero => simp
    | succ i => cases i with
      | zero => simp
      | succ i => simp [List.getElem?_replicate]
  refine ⟨by unfold envL; simp, fun i d h => ?_, fun i d h => absurd h (no i d), fun i j d e a h => absurd h (no i d), Same.refl _, fun b z => z.elim⟩
  unfold envL at h
  cases i with
  | zero => simp at h
  | succ i => cases i with
    | zero =>
      simp at h
      subst h
      refine ⟨.ref pc, rfl, zii ?_ (zum cs)⟩
      rw [Offs.get]
      · exact e
      · rintro (z | ⟨j, d', z, _⟩)
        · exact z
        · exact no j d' z
    | succ i => simp [List.getElem?_replicate] at h
theorem zan {f g : SF} {env e1 : DEnv} {o : Option Out} (h : f env = some (.nx e1)) (k : g e1 = o) : sSeq f g env = o := by unfold sSeq; rw [h]; exact k
theorem zdc {f g : SF} {env : DEnv} {d : PyData} {fr : Bool} (h : f env = some (.rt d fr)) : sSeq f g env = some (.rt d fr) := by unfold sSeq; rw [h]; rfl
theorem zgl {f : IF'} {g : GT} {b : SF} {env : DEnv} {ds : List PyData} {bs : List Nat} {o : Option Out} (h : f env = some (ds, bs)) (k : forL g b ds (frzs env bs) = o) : sFor f g b env = o := by
  unfold sFor; rw [h]; exact k
theorem if_t {c : TF} {f g : SF} {env : DEnv} {o : Option Out} (h : c env = some true) (k : f env = o) : sIf c f g env = o := by unfold sIf; rw [h]; exact k
theorem if_f {c : TF} {f g : SF} {env : DEnv} {o : Option Out} (h : c env = some false) (k : g env = o) : sIf c f g env = o := by unfold sIf; rw [h]; exact k
theorem zcf {i : Nat} {f : EF} {env : DEnv} {r : Val} (h : f env = some r) : sSet i f env = some (.nx (putV env i r)) := by unfold sSet; rw [h]; rfl
theorem zgz {f : EF} {env : DEnv} {d : PyData} {fr : Bool} {bs : List Nat} (h : f env = some ⟨d, fr, bs⟩) : sRet f env = some (.rt d fr) := by unfold sRet; rw [h]; rfl
theorem zdh {n : Nat} {g : GF} {f : AF} {env : DEnv} {rs : List Val} {d : PyData} {fr : Bool} (h : f env = some rs) (hn : rs.length = n) (k : g (zhf rs) = some (d, fr)) : zbr n g f env = some ⟨d, fr, bsOf d (bss rs)⟩ := by
  unfold zbr; rw [h, Option.bind_some, if_pos hn, k]; rfl
theorem zmn {own : List Str} {fr : List Nat} {fi : IF'} {g : GT} {t : TF} {e : EF} {env : DEnv} {ds : List PyData} {bs : List Nat} {rs : List PyData} (h : fi env = some (ds, bs)) (hl : ds.length < 100000) (k : zjf g t e (envB own fr env) ds = some rs) :
    zkh own fr fi g t e env = some ⟨.list rs, true, if zey rs = true then [] else bs ++ capA fr env⟩ := by
  unfold zkh; rw [h, Option.bind_some, if_pos hl, k]; rfl
theorem zde {n : Nat} {f : SF} {ds : List PyData} {env : DEnv} {d : PyData} {fr : Bool} (h : ziv n ds = env) (e : f env = some (.rt d fr)) : fnD n f ds = some (d, fr) := by
  unfold fnD; rw [h, e]
theorem zyn (n : Int) : neD (.int n) (.int n) = some (.bool false, false) := by
  have e : PyData.eqv (.int n) (.int n) = true := by unfold PyData.eqv; exact beq_self_eq_true n
  show some (PyData.bool (!PyData.eqv (.int n) (.int n)), false) = _
  rw [e]; rfl
end Bc
namespace Bc
open PySem L2
noncomputable def zak (xs : List Str) : PyData := .list (xs.map .str)
noncomputable def rowD (p : Str × List Str) : PyData := .tuple [.str p.1, zak p.2]
noncomputable def webD (W : Web) : PyData := .list (W.map rowD)
theorem znm (xs : List Str) : zey (xs.map .str) = true := by
  unfold zey
  rw [List.all_map]
  exact List.all_eq_true.mpr fun _ _ => rfl
theorem zoz (xs : List Str) (x : Str) : ((xs.map PyData.str).any fun e => PyData.eqv e (.str x)) = decide (x ∈ xs) := by
  rw [List.any_map, Bool.eq_iff_iff, List.any_eq_true, decide_eq_true_iff]
  constructor
  · rintro ⟨y, hy, h⟩
    have : y = x := by simpa [PyData.eqv] using h
    rw [← this]; exact hy
  · exact fun h => ⟨x, h, by simp [PyData.eqv]⟩
theorem zagj (b : Bool) (xs : List Str) (x : Str) : inD b (.str x) (zak xs) = some (.bool (if b then !decide (x ∈ xs) else decide (x ∈ xs)), false) := by
  unfold inD zak
  simp only [zit]
  rw [if_pos ⟨rfl, znm xs⟩, zoz]
end Bc
namespace Bc
open PySem L2
noncomputable def upL (acc : List (Str × List Str)) (e : Str) : List Str := (acc.lookup e).getD []
theorem zyo (W : Web) (p : Str × List Str) : nm (W ++ [p]) = nm W ++ [p.1] := by unfold nm; rw [List.map_append]; rfl
end Bc
namespace Bc
open PySem L2
noncomputable def ltr (i : Int) : Str := ⟨#[97 + i.toNat]⟩
noncomputable def Low (x : Str) : Prop := ∀ c ∈ x.cps.toList, c < 128
theorem zra {x : Str} (h : Low x) : PyData.strOk x = true := by
  unfold PyData.strOk
  rw [← Array.all_toList, List.all_eq_true]
  intro c hc
  have := h c hc
  exact decide_eq_true (by omega)
theorem zll (a b : Str) : (a ++ b).cps.toList = a.cps.toList ++ b.cps.toList := by
  show (a.cps ++ b.cps).toList = _
  simp
theorem Low.app {a b : Str} (h1 : Low a) (h2 : Low b) : Low (a ++ b) := fun c hc => by
  rw [zll] at hc
  exact (List.mem_append.mp hc).elim (h1 c) (h2 c)
theorem Low.slice {x : Str} (h : Low x) (l u : Option Int) : Low (Txt.slice x l u) := fun c hc => by
  unfold Txt.slice at hc
  split at hc
  · exact h c hc
  · have hc : c ∈ (List.filterMap (x.cps[·]?) (Builtin.Str.strSliceIndices l u 1 x.length)) := by simpa using hc
    obtain ⟨i, _, e⟩ := List.mem_filterMap.mp hc
    exact h c (by
      have := Array.mem_of_getElem? e
      simpa using this)
theorem Low.ltr {i : Int} (h0 : 0 ≤ i) (h1 : i < 26) : Low (ltr i) := fun c hc => by
  have : c = 97 + i.toNat := by simpa [Bc.ltr] using hc
  omega
theorem zrb (c : Nat) : ∀ (n : Nat) (acc : Array Nat), ((List.replicate n #[c]).foldl (· ++ ·) acc).toList = acc.toList ++ List.replicate n c
  | 0, acc => by simp
  | n + 1, acc => by
    rw [List.replicate_succ, List.foldl_cons, zrb c n, List.replicate_succ]
    simp
theorem zpa {c : Nat} {n : Int} (h : 0 ≤ n) : (Txt.mul ⟨#[c]⟩ n).cps.toList = List.replicate n.toNat c := by
  unfold Txt.mul
  split
  · have : n.toNat = 0 := by omega
    rw [this]; rfl
  · split
    · rename_i h1 h2
      have : n = 1 := by
        rcases Bool.or_eq_true_iff.mp h2 with z | z
        · exact eq_of_beq z
        · exact absurd z (by simp [Str.length])
      subst this
      rfl
    · rw [zrb]; rfl
theorem Low.mul {c : Nat} (hc : c < 128) {n : Int} (h : 0 ≤ n) : Low (Txt.mul ⟨#[c]⟩ n) := fun d hd => by
  rw [zpa h] at hd
  rw [List.eq_of_mem_replicate hd]; exact hc
theorem zyp {c : Nat} {n : Int} (h : 0 ≤ n) : (Txt.mul ⟨#[c]⟩ n).length = n.toNat := by
  have := congrArg List.length (zpa (c := c) h)
  rw [List.length_replicate] at this
  simpa [Str.length] using this
noncomputable def zhy (md o st : Int) (stem : Str) (at_ : Int) (k : Nat) : Str :=
  if md = 0 then Txt.slice stem none (some at_) ++ ltr ((o + st * k) % 26) ++ Txt.slice stem (some at_) none
  else if md = 1 then Txt.slice stem none (some (k * st % (stem.length + 1))) ++ ltr ((o + st * k) % 26)
  else Txt.mul (ltr ((o + k / 8) % 26)) (1 + k * st % 8)
theorem zyq {i j : Int} (h0 : 0 ≤ i) (h1 : 0 ≤ j) (h : ltr i = ltr j) : i = j := by
  unfold ltr at h
  have : #[97 + i.toNat] = #[97 + j.toNat] := by injection h
  have : 97 + i.toNat = 97 + j.toNat := by simpa using this
  omega
theorem zrc : ∀ st ∈ ([1, 3, 5, 7, 9, 11, 15, 17] : List Nat), ∀ a < 16, ∀ b < 16, st * a % 26 = st * b % 26 → a = b := by decide +kernel
theorem zun {o st : Int} (hs : st ∈ ([1, 3, 5, 7, 9, 11, 15, 17] : List Int)) {a b : Nat} (ha : a < 16) (hb : b < 16) (h : (o + st * a) % 26 = (o + st * b) % 26) : a = b := by
  have h2 := Int.emod_add_cancel_left.mp h
  simp only [List.mem_cons, List.mem_nil_iff, or_false] at hs
  rcases hs with rfl | rfl | rfl | rfl | rfl | rfl | rfl | rfl
  · exact zrc 1 (by decide) a ha b hb (by exact_mod_cast h2)
  · exact zrc 3 (by decide) a ha b hb (by exact_mod_cast h2)
  · exact zrc 5 (by decide) a ha b hb (by exact_mod_cast h2)
  · exact zrc 7 (by decide) a ha b hb (by exact_mod_cast h2)
  · exact zrc 9 (by decide) a ha b hb (by exact_mod_cast h2)
  · exact zrc 11 (by decide) a ha b hb (by exact_mod_cast h2)
  · exact zrc 15 (by decide) a ha b hb (by exact_mod_cast h2)
  · exact zrc 17 (by decide) a ha b hb (by exact_mod_cast h2)
theorem zagk {x y : Int} (hx : 0 ≤ x) (hy : 0 ≤ y) (h : 97 + x.toNat = 97 + y.toNat) : x = y := by omega
theorem zajp {x y : Int} (hx : 0 ≤ x) (hy : 0 ≤ y) (h : (1 + x).toNat = (1 + y).toNat) : x = y := by omega
theorem zyr {x : Int} (hx : 0 ≤ x) : (1 + x).toNat = x.toNat + 1 := by omega
theorem tab8 : ∀ st ∈ ([1, 3, 5, 7, 9, 11, 15, 17] : List Nat), ∀ a < 16, ∀ b < 16, a / 8 = b / 8 → a * st % 8 = b * st % 8 → a = b := by decide +kernel
theorem zys {o st : Int} (hs : st ∈ ([1, 3, 5, 7, 9, 11, 15, 17] : List Int)) {a b : Nat} (ha : a < 16) (hb : b < 16) (h : (o + (a : Int) / 8) % 26 = (o + (b : Int) / 8) % 26) (h2 : (a : Int) * st % 8 = b * st % 8) : a = b := by
  have q1 : a / 8 = b / 8 := by omega
  simp only [List.mem_cons, List.mem_nil_iff, or_false] at hs
  rcases hs with rfl | rfl | rfl | rfl | rfl | rfl | rfl | rfl
  · exact tab8 1 (by decide) a ha b hb q1 (by exact_mod_cast h2)
  · exact tab8 3 (by decide) a ha b hb q1 (by exact_mod_cast h2)
  · exact tab8 5 (by decide) a ha b hb q1 (by exact_mod_cast h2)
  · exact tab8 7 (by decide) a ha b hb q1 (by exact_mod_cast h2)
  · exact tab8 9 (by decide) a ha b hb q1 (by exact_mod_cast h2)
  · exact tab8 11 (by decide) a ha b hb q1 (by exact_mod_cast h2)
  · exact tab8 15 (by decide) a ha b hb q1 (by exact_mod_cast h2)
  · exact tab8 17 (by decide) a ha b hb q1 (by exact_mod_cast h2)
theorem zyt {md o st at_ : Int} {stem : Str} (hs : st ∈ ([1, 3, 5, 7, 9, 11, 15, 17] : List Int)) (ho : 0 ≤ o) {a b : Nat} (ha : a < 16) (hb : b < 16) (h : zhy md o st stem at_ a = zhy md o st stem at_ b) : a = b := by
  have st0 : 0 ≤ st := by
    simp only [List.mem_cons, List.mem_nil_iff, or_false] at hs
    rcases hs with rfl | rfl | rfl | rfl | rfl | rfl | rfl | rfl <;> decide
  have n26 : ∀ z : Int, 0 ≤ z % 26 := fun z => Int.emod_nonneg z (by decide)
  unfold zhy at h
  by_cases h0 : md = 0
  · rw [if_pos h0, if_pos h0] at h
    have q := congrArg (fun x : Str => x.cps.toList) h
    simp only [zll] at q
    have q2 := List.append_cancel_right q
    have q3 := List.append_cancel_left q2
    have q4 : ltr ((o + st * a) % 26) = ltr ((o + st * b) % 26) := by
      unfold ltr at q3 ⊢
      congr 1
      exact Array.toList_inj.mp q3
    exact zun hs ha hb (zyq (n26 _) (n26 _) q4)
  · rw [if_neg h0, if_neg h0] at h
    by_cases h1 : md = 1
    · rw [if_pos h1, if_pos h1] at h
      have q := congrArg (fun x : Str => x.cps.toList) h
      simp only [zll] at q
      have q3 := (List.append_inj' q (by simp [ltr])).2
      have q4 : ltr ((o + st * a) % 26) = ltr ((o + st * b) % 26) := by
        unfold ltr at q3 ⊢
        congr 1
        exact Array.toList_inj.mp q3
      exact zun hs ha hb (zyq (n26 _) (n26 _) q4)
    · rw [if_neg h1, if_neg h1] at h
      have m8 : ∀ z : Int, 0 ≤ z % 8 := fun z => Int.emod_nonneg z (by decide)
      have q : (Txt.mul (ltr ((o + (a : Int) / 8) % 26)) (1 + a * st % 8)).cps.toList = (Txt.mul (ltr ((o + (b : Int) / 8) % 26)) (1 + b * st % 8)).cps.toList := by rw [h]
      have ea : ∀ k : Nat, (Txt.mul (ltr ((o + (k : Int) / 8) % 26)) (1 + k * st % 8)).cps.toList = List.replicate (1 + (k : Int) * st % 8).toNat (97 + ((o + (k : Int) / 8) % 26).toNat) := fun k => zpa (by have := m8 (k * st); omega)
      rw [ea a, ea b] at q
      have ql := congrArg List.length q
      rw [List.length_replicate, List.length_replicate] at ql
      have w1 := m8 (a * st)
      have w2 := m8 (b * st)
      have hh : (97 + ((o + (a : Int) / 8) % 26).toNat) = (97 + ((o + (b : Int) / 8) % 26).toNat) := by
        have c1 : (1 + (a : Int) * st % 8).toNat = ((a : Int) * st % 8).toNat + 1 := zyr w1
        have c2 : (1 + (b : Int) * st % 8).toNat = ((b : Int) * st % 8).toNat + 1 := zyr w2
        rw [c1, c2, List.replicate_succ, List.replicate_succ] at q
        exact (List.cons.inj q).1
      have z1 := n26 (o + (a : Int) / 8)
      have z2 := n26 (o + (b : Int) / 8)
      exact zys (o := o) hs ha hb (zagk z1 z2 hh) (zajp w1 w2 ql)
theorem zmo {α : Type} {f : Nat → α} {n : Nat} (h : ∀ a b, a < n → b < n → f a = f b → a = b) : ((List.range n).map f).Nodup := by
  rw [List.nodup_iff_pairwise_ne, List.pairwise_map]
  refine List.Pairwise.imp_of_mem ?_ (List.pairwise_lt_range (n := n))
  intro a b ha hb hab e
  have := h a b (List.mem_range.mp ha) (List.mem_range.mp hb) e
  omega
theorem zyu {md o st at_ : Int} {stem : Str} (hl : Low stem) (ho : 0 ≤ o) (hst : 0 ≤ st) (k : Nat) : Low (zhy md o st stem at_ k) := by
  have n26 : ∀ z : Int, 0 ≤ z % 26 ∧ z % 26 < 26 := fun z => ⟨Int.emod_nonneg z (by decide), Int.emod_lt_of_pos z (by decide)⟩
  unfold zhy
  split
  · exact ((hl.slice _ _).app (Low.ltr (n26 _).1 (n26 _).2)).app (hl.slice _ _)
  · split
    · exact (hl.slice _ _).app (Low.ltr (n26 _).1 (n26 _).2)
    · have := Int.emod_nonneg ((k : Int) * st) (show (8 : Int) ≠ 0 by decide)
      exact Low.mul (by have := n26 (o + (k : Int) / 8); omega) (by omega)
end Bc
namespace Bc
open PySem L2
noncomputable abbrev vi (i : Int) : Val := ⟨.int i, false, []⟩
noncomputable abbrev vs (x : Str) : Val := ⟨.str x, false, []⟩
noncomputable abbrev vb (b : Bool) : Val := ⟨.bool b, false, []⟩
section
variable {a b : EF} {env : DEnv} {i j : Int}
theorem zfc (ha : a env = some (vi i)) (hb : b env = some (vi j)) (h : 0 < j) : eOp modD a b env = some (vi (i % j)) := by
  unfold eOp; rw [ha, hb]; simp [modD, intD, h, bsOf, zen]
theorem zhz (ha : a env = some (vi i)) (hb : b env = some (vi j)) (h : 0 < j) (h2 : j < 1073741824) : eOp zci a b env = some (vi (i / j)) := by
  unfold eOp; rw [ha, hb]; simp [zci, intD, h, h2, bsOf, zen]
theorem zmz (ha : a env = some (vi i)) (hb : b env = some (vi j)) : eOp addD a b env = some (vi (i + j)) := by
  unfold eOp; rw [ha, hb]; simp [addD, bsOf, zen]
theorem zagl (ha : a env = some (vi i)) (hb : b env = some (vi j)) (h : (-(2 ^ 64) < i ∧ i < 2 ^ 64) ∨ (-(2 ^ 64) < j ∧ j < 2 ^ 64)) : eOp mulD a b env = some (vi (i * j)) := by
  unfold eOp; rw [ha, hb]
  simp only [Option.bind_some, mulD]
  rw [if_pos h]; simp [bsOf, zen]
theorem zpb (ha : a env = some (vi i)) (hb : b env = some (vi j)) : eOp eqD a b env = some (vb (i == j)) := by
  unfold eOp; rw [ha, hb]; rfl
theorem zjt {x y : Str} (ha : a env = some (vs x)) (hb : b env = some (vs y)) (h : x.length + y.length ≤ 100000) : eOp addD a b env = some (vs (x ++ y)) := by
  unfold eOp; rw [ha, hb]
  simp only [Option.bind_some, addD]
  rw [if_pos h]; simp [bsOf, zen]
theorem zadh {x : Str} (ha : a env = some (vs x)) (hb : b env = some (vi j)) (h : x.length ≤ 1000 ∧ -1000 ≤ j ∧ j ≤ 1000) : eOp mulD a b env = some (vs (Txt.mul x j)) := by
  unfold eOp; rw [ha, hb]
  simp only [Option.bind_some, mulD]
  rw [if_pos h]; simp [bsOf, zen]
theorem ztl {x : Str} {l h : PF'} {lo hi : Option Int} (ha : a env = some (vs x)) (hl : l env = some lo) (hh : h env = some hi) (hz : x.length ≤ 100000) : eSl a l h env = some (vs (Txt.slice x lo hi)) := by
  unfold eSl; rw [ha, hl, hh]
  simp only [Option.bind_some, slD]
  rw [if_pos hz]; simp [bsOf, zen]
theorem zku (ha : a env = some (vi i)) : zcc a env = some (some i) := by unfold zcc; rw [ha]; rfl
theorem zdn {c : Bool} (ha : a env = some (vb c)) : zas a env = some c := by unfold zas; rw [ha]; rfl
theorem zfx {r : Val} (ha : a env = some r) : zac a aNil env = some [r] := by unfold zac aNil; rw [ha]; rfl
theorem znn {x : Str} (ha : a env = some (vs x)) (hz : x.length ≤ 100000) : eCB lenD (zac a aNil) env = some (vi x.length) := by
  unfold eCB
  rw [zfx ha]
  simp [zhf, lenD, hz, bsOf, zen]
theorem zno {ds : List PyData} {fr : Bool} {bs : List Nat} (ha : a env = some ⟨.list ds, fr, bs⟩) : eCB lenD (zac a aNil) env = some (vi ds.length) := by
  unfold eCB
  rw [zfx ha]
  simp [zhf, lenD, bsOf, zen]
theorem zagm {k n : Nat} {b : EF} {ds : List PyData} {d : PyData} (he : env[k]? = some (.pl (.list ds))) (hb : b env = some (vi (n : Int))) (hd : ds[n]? = some d) : eIxV k b env = some ⟨d, false, []⟩ := by
  unfold eIxV
  rw [he]
  unfold eOp eVar
  rw [he, hb]
  simp only [Option.bind_some, ixD]
  rw [zjd hd]
  simp [bsOf]
theorem zagn {k n : Nat} {b : EF} {ds : List PyData} {d : PyData} (he : env[k]? = some (.ac (.list ds))) (hb : b env = some (vi (n : Int))) (hd : ds[n]? = some d) : eIxV k b env = some ⟨d, false, []⟩ := by
  unfold eIxV
  rw [he]
  simp only
  rw [hb]
  simp only [Option.bind_some]
  rw [zjd hd]; rfl
end
noncomputable def abc : Str := "abcdefghijklmnopqrstuvwxyz"
theorem zago : (List.range 26).all (fun i => abc.cps.toList[i]? == some (97 + i)) = true := by decide +kernel
theorem zagp : abc.length = 26 := by decide +kernel
theorem zajq {i : Int} (h0 : 0 ≤ i) (h1 : i < 26) : atI abc.cps.toList i = some (97 + i.toNat) := by
  have q := List.all_eq_true.mp zago i.toNat (List.mem_range.mpr (by omega))
  have e : ((i.toNat : Nat) : Int) = i := by omega
  rw [← e]
  have z := zjd (eq_of_beq q)
  rw [e] at z ⊢
  exact z
theorem zagq {k : Nat} {b : EF} {env : DEnv} {i : Int} (he : env[k]? = some (.pl (.str abc))) (hb : b env = some (vi i)) (h0 : 0 ≤ i) (h1 : i < 26) : eIxV k b env = some (vs (ltr i)) := by
  unfold eIxV
  rw [he]
  unfold eOp eVar
  rw [he, hb]
  simp only [Option.bind_some, ixD]
  rw [if_pos (by rw [zagp]; decide), zajq h0 h1]
  simp [bsOf, zen, ltr]
theorem zagr {i : Int} (h0 : 0 ≤ i) (h1 : i < 8) : ∃ st : Int, atI [PyData.int 1, .int 3, .int 5, .int 7, .int 9, .int 11, .int 15, .int 17] i = some (.int st) ∧ st ∈ ([1, 3, 5, 7, 9, 11, 15, 17] : List Int) := by
  rcases (show i = 0 ∨ i = 1 ∨ i = 2 ∨ i = 3 ∨ i = 4 ∨ i = 5 ∨ i = 6 ∨ i = 7 by omega) with rfl | rfl | rfl | rfl | rfl | rfl | rfl | rfl
  all_goals exact ⟨_, rfl, by decide⟩
theorem zrd {i : Nat} {f : EF} {env : DEnv} {ds : List PyData} {d : PyData} {fr : Bool} (he : env[i]? = some (.ac (.list ds))) (hf : f env = some ⟨d, fr, []⟩) (hl : ds.length < 100000) : sApp i f env = some (.nx (env.set i (.ac (.list (ds ++ [d]))))) := by
  unfold sApp
  rw [he]
  simp only
  rw [hf]
  simp only [Option.bind_some]
  rw [if_pos ⟨hl, by simp⟩]; rfl
theorem zre (n : Nat) : zlt 0 n = (List.range n).map (fun (k : Nat) => PyData.int (k : Int)) := by
  unfold zlt
  refine List.map_congr_left fun k _ => ?_
  show PyData.int (0 + (k : Int)) = _
  rw [Int.zero_add]
theorem zfg (a b : Str) : (a ++ b).length = a.length + b.length := by
  have := congrArg List.length (zll a b)
  rw [List.length_append] at this
  simpa [Str.length] using this
theorem zrf {m c : Int} (m0 : 0 ≤ m) (m16 : m ≤ 16) (c0 : 0 ≤ c) : ∃ xs : List Str, zeq [.int m, .int c] = some (zak xs, true) ∧ xs.length = m.toNat ∧ xs.Nodup ∧ (∀ x ∈ xs, Low x) ∧ ∀ x ∈ xs, x.length ≤ 30 := by
  have md : ∀ (z j : Int), 0 < j → 0 ≤ z % j ∧ z % j < j := fun z j hj => ⟨Int.emod_nonneg z (by omega), Int.emod_lt_of_pos z hj⟩
  have i8 := md (c / 3) 8 (by decide)
  obtain ⟨st, hst, hmem⟩ := zagr i8.1 i8.2
  have st0 : 0 ≤ st ∧ st < 100 := by
    simp only [List.mem_cons, List.mem_nil_iff, or_false] at hmem
    rcases hmem with rfl | rfl | rfl | rfl | rfl | rfl | rfl | rfl <;> decide
  have o26 := md (c / 24) 26 (by decide)
  have j26 := md (c / 624) 26 (by decide)
  have n8 := md (c / 16224) 8 (by decide)
  have lowS : Low (Txt.mul (ltr (c / 624 % 26)) (c / 16224 % 8)) := Low.mul (by omega) n8.1
  have lenS : (Txt.mul (ltr (c / 624 % 26)) (c / 16224 % 8)).length ≤ 7 := by unfold ltr; rw [zyp n8.1]; omega
  have s3 : sSet 3 (eOp ixD (eTup (zac (eC (.int 1)) (zac (eC (.int 3)) (zac (eC (.int 5)) (zac (eC (.int 7)) (zac (eC (.int 9)) (zac (eC (.int 11)) (zac (eC (.int 15)) (zac (eC (.int 17)) aNil))))))))) (eOp modD (eOp zci (eVar 1) (eC (.int 3))) (eC (.int 8)))) [.pl (.int m), .pl (.int c), .pl (.str abc), .no, .no, .no, .no, .no, .no, .no] = some (.nx [.pl (.int m), .pl (.int c), .pl (.str abc), .pl (.int st), .no, .no, .no, .no, .no, .no]) := by
    refine zcf (r := vi st) ?_
    unfold eOp
    show ((some (⟨.tuple [PyData.int 1, .int 3, .int 5, .int 7, .int 9, .int 11, .int 15, .int 17], false, []⟩ : Val)).bind fun x => ((some (vi (c / 3 % 8))).bind fun y => (ixD x.d y.d).bind fun z => some (⟨z.1, z.2, bsOf z.1 (x.bs ++ y.bs)⟩ : Val))) = _
    simp only [Option.bind_some, ixD]
    rw [hst]; rfl
  have s5 : sSet 5 (eOp mulD (eIxV 2 (eOp modD (eOp zci (eVar 1) (eC (.int 624))) (eC (.int 26)))) (eOp modD (eOp zci (eVar 1) (eC (.int 16224))) (eC (.int 8)))) [.pl (.int m), .pl (.int c), .pl (.str abc), .pl (.int st), .pl (.int (c / 24 % 26)), .no, .no, .no, .no, .no] =
      some (.nx [.pl (.int m), .pl (.int c), .pl (.str abc), .pl (.int st), .pl (.int (c / 24 % 26)), .pl (.str (Txt.mul (ltr (c / 624 % 26)) (c / 16224 % 8))), .no, .no, .no, .no]) :=
    zcf (r := vs _) (zadh (zagq rfl rfl j26.1 j26.2) rfl ⟨by show 1 ≤ 1000; decide, by omega, by omega⟩)
  generalize hO : c / 24 % 26 = o at o26 s5
  generalize Txt.mul (ltr (c / 624 % 26)) (c / 16224 % 8) = stem at lowS lenS s5
  have s6 : ∃ at_ : Int, sSet 6 (eOp modD (eOp zci (eVar 1) (eC (.int 129792))) (eOp addD (eCB lenD (zac (eVar 5) aNil)) (eC (.int 1)))) [.pl (.int m), .pl (.int c), .pl (.str abc), .pl (.int st), .pl (.int o), .pl (.str stem), .no, .no, .no, .no] = some (.nx [.pl (.int m), .pl (.int c), .pl (.str abc), .pl (.int st), .pl (.int o), .pl (.str stem), .pl (.int at_), .no, .no, .no]) :=
    ⟨_, zcf (r := vi _) (zfc rfl (zmz (znn rfl (by omega)) rfl) (by omega))⟩
  obtain ⟨at_, s6⟩ := s6
  have loop : ∃ env', forL (gN 8) (sSeq (sSet 9 (eIxV 2 (eOp modD (eOp addD (eVar 4) (eOp mulD (eVar 3) (eVar 8))) (eC (.int 26)))))
    (sIf (zas (eOp eqD (eOp modD (eVar 1) (eC (.int 3))) (eC (.int 0)))) (sApp 7 (eOp addD (eOp addD (eSl (eVar 5) zdd (zcc (eVar 6))) (eVar 9)) (eSl (eVar 5) (zcc (eVar 6)) zdd))) (sIf (zas (eOp eqD (eOp modD (eVar 1) (eC (.int 3))) (eC (.int 1)))) (sApp 7 (eOp addD (eSl (eVar 5) zdd (zcc (eOp modD (eOp mulD (eVar 8) (eVar 3)) (eOp addD (eCB lenD (zac (eVar 5) aNil)) (eC (.int 1)))))) (eVar 9))) (sApp 7 (eOp mulD (eIxV 2 (eOp modD (eOp addD (eVar 4) (eOp zci (eVar 8) (eC (.int 8)))) (eC (.int 26)))) (eOp addD (eC (.int 1)) (eOp modD (eOp mulD (eVar 8) (eVar 3)) (eC (.int 8)))))))))
      ((List.range m.toNat).map fun (k : Nat) => PyData.int (k : Int)) [.pl (.int m), .pl (.int c), .pl (.str abc), .pl (.int st), .pl (.int o), .pl (.str stem), .pl (.int at_), .ac (.list []), .no, .no] = some (.nx env') ∧
      ∃ s8 s9, env' = [.pl (.int m), .pl (.int c), .pl (.str abc), .pl (.int st), .pl (.int o), .pl (.str stem), .pl (.int at_), .ac (zak ((List.range m.toNat).map (zhy (c % 3) o st stem at_))), s8, s9] := by
    refine zml (fun pre env => ∃ s8 s9, env = [.pl (.int m), .pl (.int c), .pl (.str abc), .pl (.int st), .pl (.int o), .pl (.str stem), .pl (.int at_), .ac (zak (pre.map (zhy (c % 3) o st stem at_))), s8, s9]) ⟨_, _, rfl⟩ ?_
    rintro pre k post env hk ⟨s8, s9, rfl⟩
    have hkm : k < m.toNat := List.mem_range.mp (by rw [← hk]; simp)
    have hpl : pre.length < 100 := by
      have := congrArg List.length hk
      simp at this
      omega
    have b1 : 0 ≤ st * (k : Int) := Int.mul_nonneg st0.1 (by omega)
    have s26 := md (o + st * (k : Int)) 26 (by decide)
    have sl : ∀ a b, (Txt.slice stem a b).length ≤ 7 := fun a b => Nat.le_trans (Txt.slice_le stem a b) lenS
    have lz : stem.length ≤ 100000 := by omega
    have l1 : (ltr ((o + st * (k : Int)) % 26)).length = 1 := rfl
    refine ⟨_, [.pl (.int m), .pl (.int c), .pl (.str abc), .pl (.int st), .pl (.int o), .pl (.str stem), .pl (.int at_), .ac (zak ((pre ++ [k]).map (zhy (c % 3) o st stem at_))), .pl (.int (k : Int)), .pl (.str (ltr ((o + st * (k : Int)) % 26)))], rfl, .inl ?_, _, _, rfl⟩
    refine zan (zcf (r := vs _) (zagq rfl (zfc (zmz rfl (zagl rfl rfl (.inl ⟨by omega, by omega⟩))) rfl (by decide)) s26.1 s26.2)) ?_
    have fin : ∀ x : Str, x = zhy (c % 3) o st stem at_ k → (PyData.list ((pre.map (zhy (c % 3) o st stem at_)).map PyData.str ++ [.str x])) = zak ((pre ++ [k]).map (zhy (c % 3) o st stem at_)) := fun x e => by
      unfold zak
      rw [List.map_append, List.map_append, e]; rfl
    have lp : ((pre.map (zhy (c % 3) o st stem at_)).map PyData.str).length < 100000 := by rw [List.length_map, List.length_map]; omega
    by_cases h0 : c % 3 = 0
    · refine if_t (zdn (by rw [zpb (zfc rfl rfl (by decide)) rfl]; rw [h0]; rfl)) ?_
      have z1 := sl none (some at_)
      have z2 := sl (some at_) none
      refine (zrd rfl (zjt (zjt (ztl rfl rfl (zku rfl) lz) rfl (by omega)) (ztl rfl (zku rfl) rfl lz) (by rw [zfg]; omega)) lp).trans ?_
      rw [fin _ (by unfold zhy; rw [if_pos h0])]; rfl
    · refine if_f (zdn (by rw [zpb (zfc rfl rfl (by decide)) rfl]; rw [beq_eq_false_iff_ne.mpr h0])) ?_
      by_cases h1 : c % 3 = 1
      · refine if_t (zdn (by rw [zpb (zfc rfl rfl (by decide)) rfl]; rw [h1]; rfl)) ?_
        have z1 := sl none (some ((k : Int) * st % ((stem.length : Int) + 1)))
        refine (zrd rfl (zjt (ztl rfl rfl (zku (zfc (zagl rfl rfl (.inr ⟨by omega, by omega⟩)) (zmz (znn rfl lz) rfl) (by omega))) lz) rfl (by omega)) lp).trans ?_
        rw [fin _ (by unfold zhy; rw [if_neg h0, if_pos h1])]; rfl
      · refine if_f (zdn (by rw [zpb (zfc rfl rfl (by decide)) rfl]; rw [beq_eq_false_iff_ne.mpr h1])) ?_
        have t26 := md (o + (k : Int) / 8) 26 (by decide)
        have u8 := md ((k : Int) * st) 8 (by decide)
        refine (zrd rfl (zadh (zagq rfl (zfc (zmz rfl (zhz rfl rfl (by decide) (by decide))) rfl (by decide)) t26.1 t26.2) (zmz rfl (zfc (zagl rfl rfl (.inr ⟨by omega, by omega⟩)) rfl (by decide))) ⟨by show 1 ≤ 1000; decide, by omega, by omega⟩) lp).trans ?_
        rw [fin _ (by unfold zhy; rw [if_neg h0, if_neg h1])]; rfl
  obtain ⟨env', hl, s8, s9, rfl⟩ := loop
  refine ⟨(List.range m.toNat).map (zhy (c % 3) o st stem at_), ?_, by simp, zmo fun a b ha hb e => zyt hmem o26.1 (by omega) (by omega) e, fun x hx => ?_, fun x hx => ?_⟩
  · refine zde (env := [.pl (.int m), .pl (.int c), .no, .no, .no, .no, .no, .no, .no, .no]) rfl (zan rfl (zan s3 (zan (e1 := [.pl (.int m), .pl (.int c), .pl (.str abc), .pl (.int st), .pl (.int o), .no, .no, .no, .no, .no]) (by rw [← hO]; rfl) (zan s5 (zan s6 (zan rfl (zan (zgl (ds := (List.range m.toNat).map fun (k : Nat) => PyData.int (k : Int)) (bs := []) ?_ hl) rfl)))))))
    unfold zgv
    rw [zfx (r := vi m) rfl]
    simp only [Option.bind_some]
    rw [if_pos ⟨by omega, by omega⟩, zre]
  · obtain ⟨j, _, rfl⟩ := List.mem_map.mp hx
    exact zyu lowS o26.1 st0.1 j
  · obtain ⟨j, _, rfl⟩ := List.mem_map.mp hx
    have sl : ∀ a b, (Txt.slice stem a b).length ≤ 7 := fun a b => Nat.le_trans (Txt.slice_le stem a b) lenS
    have l1 : ∀ i, (ltr i).length = 1 := fun _ => rfl
    unfold zhy
    split
    · rw [zfg, zfg, l1]
      have h1 := sl none (some at_); have h2 := sl (some at_) none
      omega
    · split
      · rw [zfg, l1]
        have h1 := sl none (some ((j : Int) * st % ((stem.length : Int) + 1)))
        omega
      · have u8 := md ((j : Int) * st) 8 (by decide)
        unfold ltr
        rw [zyp (by omega)]
        omega
end Bc
namespace Bc
open PySem L2
theorem zyv : WebOk [] := ⟨List.nodup_nil, fun i n es e => by simp at e, fun p hp => by simp at hp, by simp⟩
theorem zyw {W : Web} {p : Str × List Str} (h : WebOk W) (hn : p.1 ∉ nm W) (he : ∀ e ∈ p.2, e ∈ nm W) (hf : p.2.length ≤ 4) (hl : W.length < 12) : WebOk (W ++ [p]) := by
  refine ⟨by rw [zyo]; exact zws h.nd hn, fun i n es e => ?_, fun q hq => ?_, by simp; omega⟩
  · by_cases hi : i < W.length
    · rw [List.getElem?_append_left hi] at e
      rw [List.take_append_of_le_length (by omega)]
      exact h.el i n es e
    · rw [List.getElem?_append_right (by omega)] at e
      have hi2 : i - W.length = 0 := by
        have := (List.getElem?_eq_some_iff.mp e).1
        simp at this; omega
      rw [hi2] at e
      cases e
      have : i = W.length := by omega
      subst this
      rw [List.take_append_of_le_length (Nat.le_refl _), List.take_length]
      exact he
  · rcases List.mem_append.mp hq with hq | hq
    · exact h.few q hq
    · rw [List.mem_singleton.mp hq]; exact hf
theorem ztm (ds : List PyData) (k : Nat) (h : k ≤ ds.length) : cutD ds none (some (k : Int)) = ds.take k := by
  unfold cutD
  have e1 : HT.sIx ds.length 0 none = 0 := rfl
  rw [e1, HT.sIx_nat]
  simp
theorem zabz {α : Type} (enc : α → PyData) (l : List α) : zta (l.map enc) = (l.zipIdx).map fun (p : α × Nat) => PyData.tuple [.int (p.2 : Int), enc p.1] := by
  unfold zta
  rw [List.zipIdx_map, List.map_map]; rfl
theorem zadi {α : Type} {l : List α} (nd : l.Nodup) {i j : Nat} {hi : i < l.length} {hj : j < l.length} (e : l[i] = l[j]) : i = j := by
  rcases Nat.lt_trichotomy i j with h | h | h
  · exact absurd e (List.pairwise_iff_getElem.mp nd i j hi hj h)
  · exact h
  · exact absurd e.symm (List.pairwise_iff_getElem.mp nd j i hj hi h)
theorem znp {α : Type} : ∀ (l : List α) (i : Nat) (h : i < l.length), (l[i] :: l.eraseIdx i).Perm l
  | [], _, h => by simp at h
  | a :: l, 0, _ => List.Perm.refl _
  | a :: l, i + 1, h => by
    have hi : i < l.length := by simpa using h
    have ih := znp l i hi
    show (l[i] :: a :: l.eraseIdx i).Perm (a :: l)
    exact (List.Perm.swap a l[i] _).trans (List.Perm.cons a ih)
theorem zrg {α β : Type} (f : α → β) : ∀ (l : List α) (i : Nat), (l.map f).eraseIdx i = (l.eraseIdx i).map f
  | [], _ => rfl
  | _ :: _, 0 => rfl
  | a :: l, i + 1 => by
    show f a :: (l.map f).eraseIdx i = f a :: (l.eraseIdx i).map f
    rw [zrg f l i]
theorem zrh {A B C : Sl} {kk : Nat} {nn : Sl} {xs : List Str} (hx : xs.length ≤ 12) : ∀ (t : Nat) (ls es : List Str) (rs : Int) (s8 s9 : Sl), (es ++ ls).Perm xs → t + es.length ≤ 4 → t ≤ ls.length →
    ∃ es' s5 s6 s8' s9', forL (gN 8) (sSeq (sSet 9 (eOp modD (eVar 6) (eCB lenD (zac (eVar 5) aNil)))) (sSeq (sSet 6 (eOp zci (eVar 6) (eCB lenD (zac (eVar 5) aNil)))) (zjg 7 5 (eVar 9)))) ((List.range' es.length t).map fun (k : Nat) => PyData.int (k : Int)) [A, B, C, .pl (.int (kk : Int)), nn, .ac (zak ls), .pl (.int rs), .ac (zak es), s8, s9] =
      some (.nx [A, B, C, .pl (.int (kk : Int)), nn, s5, s6, .ac (zak es'), s8', s9']) ∧ es'.Nodup = es'.Nodup ∧ (∃ ls', (es' ++ ls').Perm xs) ∧ es'.length = t + es.length
  | 0, ls, es, rs, s8, s9, pm, _, _ => ⟨es, _, _, s8, s9, rfl, rfl, ⟨ls, pm⟩, by simp⟩
  | t + 1, ls, es, rs, s8, s9, pm, h4, hl => by
    have hls : 0 < ls.length := by omega
    have pl := pm.length_eq
    rw [List.length_append] at pl
    have a0 := Int.emod_nonneg rs (show ((ls.length : Nat) : Int) ≠ 0 by omega)
    have a1 := Int.emod_lt_of_pos rs (show (0 : Int) < ((ls.length : Nat) : Int) by omega)
    have hk : (rs % ((ls.length : Nat) : Int)).toNat < ls.length := by omega
    have e9 : ((rs % ((ls.length : Nat) : Int)).toNat : Int) = rs % ((ls.length : Nat) : Int) := by omega
    generalize eA : (rs % ((ls.length : Nat) : Int)).toNat = at_ at hk e9
    have pm2 : ((es ++ [ls[at_]]) ++ ls.eraseIdx at_).Perm xs := by
      refine List.Perm.trans ?_ pm
      rw [List.append_assoc]
      exact List.Perm.append_left es (znp ls at_ hk)
    obtain ⟨es', s5, s6, s8', s9', q, _, hp, hlen⟩ := zrh (A := A) (B := B) (C := C) (kk := kk) (nn := nn) hx t (ls.eraseIdx at_) (es ++ [ls[at_]]) (rs / ((ls.length : Nat) : Int)) (.pl (.int (es.length : Int))) (.pl (.int (at_ : Int))) pm2 (by simp; omega) (by rw [List.length_eraseIdx_of_lt hk]; omega)
    refine ⟨es', s5, s6, s8', s9', ?_, rfl, hp, by rw [hlen]; simp; omega⟩
    rw [List.range'_succ, List.map_cons]
    unfold forL
    simp only [gN, Option.bind_some, List.set_cons_succ, List.set_cons_zero]
    have st1 : sSet 9 (eOp modD (eVar 6) (eCB lenD (zac (eVar 5) aNil))) [A, B, C, .pl (.int (kk : Int)), nn, .ac (zak ls), .pl (.int rs), .ac (zak es), .pl (.int (es.length : Int)), s9] = some (.nx [A, B, C, .pl (.int (kk : Int)), nn, .ac (zak ls), .pl (.int rs), .ac (zak es), .pl (.int (es.length : Int)), .pl (.int (at_ : Int))]) := by
      have := zcf (i := 9) (zfc (a := eVar 6) (env := [A, B, C, .pl (.int (kk : Int)), nn, .ac (zak ls), .pl (.int rs), .ac (zak es), .pl (.int (es.length : Int)), s9]) rfl (zno (a := eVar 5) rfl) (by rw [List.length_map]; omega))
      rw [this, List.length_map, ← e9]; rfl
    have st2 : sSet 6 (eOp zci (eVar 6) (eCB lenD (zac (eVar 5) aNil))) [A, B, C, .pl (.int (kk : Int)), nn, .ac (zak ls), .pl (.int rs), .ac (zak es), .pl (.int (es.length : Int)), .pl (.int (at_ : Int))] = some (.nx [A, B, C, .pl (.int (kk : Int)), nn, .ac (zak ls), .pl (.int (rs / ((ls.length : Nat) : Int))), .ac (zak es), .pl (.int (es.length : Int)), .pl (.int (at_ : Int))]) := by
      have := zcf (i := 6) (zhz (a := eVar 6) (env := [A, B, C, .pl (.int (kk : Int)), nn, .ac (zak ls), .pl (.int rs), .ac (zak es), .pl (.int (es.length : Int)), .pl (.int (at_ : Int))]) rfl (zno (a := eVar 5) rfl) (by rw [List.length_map]; omega) (by rw [List.length_map]; omega))
      rw [this, List.length_map]; rfl
    have st3 : zjg 7 5 (eVar 9) [A, B, C, .pl (.int (kk : Int)), nn, .ac (zak ls), .pl (.int (rs / ((ls.length : Nat) : Int))), .ac (zak es), .pl (.int (es.length : Int)), .pl (.int (at_ : Int))] = some (.nx [A, B, C, .pl (.int (kk : Int)), nn, .ac (zak (ls.eraseIdx at_)), .pl (.int (rs / ((ls.length : Nat) : Int))), .ac (zak (es ++ [ls[at_]])), .pl (.int (es.length : Int)), .pl (.int (at_ : Int))]) := by
      simp only [zjg, zak, eVar, List.getElem?_cons_succ, List.getElem?_cons_zero, Option.bind_some]
      rw [if_pos ⟨by omega, by omega, by rw [List.length_map]; omega, by decide⟩, Int.toNat_natCast, List.getElem?_map, List.getElem?_eq_getElem hk]
      simp [zrg]
    rw [zan st1 (zan st2 st3), Option.bind_some]
    rw [show (es ++ [ls[at_]]).length = es.length + 1 by simp] at q
    exact q
theorem zyx {cs : List Int} {xs : List Str} (hle : xs.length ≤ cs.length) (h12 : xs.length ≤ 12) (nd : xs.Nodup) : ∃ W, zhw [zdq cs, zak xs] = some (webD W, true) ∧ nm W = xs ∧ WebOk W := by
  have loop : ∃ env', forL (gT 2 (zbe 3 (zbe 4 zfs))) (sSeq (sSet 5 (eSl (eVar 1) zdd (zcc (eVar 3))))
    (sSeq (sSet 6 (eOp zci (eIxV 0 (eVar 3)) (eC (.int 5))))
    (sSeq (sSet 7 (eLst aNil))
    (sSeq (sFor (zgv (zac (eCB minD (zac (eOp modD (eIxV 0 (eVar 3)) (eC (.int 5))) (zac (eVar 3) aNil))) aNil)) (gN 8)
    (sSeq (sSet 9 (eOp modD (eVar 6) (eCB lenD (zac (eVar 5) aNil))))
    (sSeq (sSet 6 (eOp zci (eVar 6) (eCB lenD (zac (eVar 5) aNil))))
    (zjg 7 5 (eVar 9)))))
    (sApp 2 (eTup (zac (eVar 4) (zac (eVar 7) aNil)))))))) ((xs.zipIdx).map fun (p : Str × Nat) => PyData.tuple [.int (p.2 : Int), .str p.1]) [.pl (zdq cs), .pl (zak xs), .ac (webD []), .no, .no, .no, .no, .no, .no, .no] = some (.nx env') ∧
      ∃ W s3 s4 s5 s6 s7 s8 s9, env' = [.pl (zdq cs), .pl (zak xs), .ac (webD W), s3, s4, s5, s6, s7, s8, s9] ∧ nm W = (xs.zipIdx).map (fun p : Str × Nat => p.1) ∧ WebOk W := by
    refine zml (fun pre env => ∃ W s3 s4 s5 s6 s7 s8 s9, env = [.pl (zdq cs), .pl (zak xs), .ac (webD W), s3, s4, s5, s6, s7, s8, s9] ∧ nm W = pre.map (fun p : Str × Nat => p.1) ∧ WebOk W) ⟨[], _, _, _, _, _, _, _, rfl, rfl, zyv⟩ ?_
    rintro pre ⟨n, i⟩ post env hp ⟨W, s3, s4, s5, s6, s7, s8, s9, rfl, hnm, ok⟩
    have hz : (xs.zipIdx)[pre.length]? = some (n, i) := by rw [← hp]; simp
    rw [List.getElem?_zipIdx] at hz
    have hi : i = pre.length ∧ xs[pre.length]? = some n := by
      cases e : xs[pre.length]? with
      | none => rw [e] at hz; cases hz
      | some y => rw [e] at hz; simp at hz; exact ⟨by omega, by rw [hz.1]⟩
    obtain ⟨rfl, hn⟩ := hi
    have hix : pre.length < xs.length := (List.getElem?_eq_some_iff.mp hn).1
    have hic : pre.length < cs.length := by omega
    have hpre : pre.map (fun p : Str × Nat => p.1) = xs.take pre.length := by
      have e1 : (xs.zipIdx).map (fun p : Str × Nat => p.1) = xs := List.zipIdx_map_fst 0 xs
      have e2 := congrArg (fun l : List (Str × Nat) => (l.map (fun p : Str × Nat => p.1)).take pre.length) hp
      simp only [e1] at e2
      rw [← e2, List.map_append, List.take_append_of_le_length (by simp), ← List.map_take, List.take_length]
    have hWl : W.length = pre.length := by
      have := congrArg List.length hnm
      unfold nm at this
      simpa using this
    have gc : ∀ {env : DEnv}, env[0]? = some (.pl (zdq cs)) → env[3]? = some (.pl (.int (pre.length : Int))) → eIxV 0 (eVar 3) env = some (vi cs[pre.length]) := fun {env} h0 h3 =>
      zagm (ds := cs.map .int) h0 (by unfold eVar; rw [h3]) (by rw [List.getElem?_map, List.getElem?_eq_getElem hic]; rfl)
    have m5 := Int.emod_nonneg cs[pre.length] (show (5 : Int) ≠ 0 by decide)
    have m5' := Int.emod_lt_of_pos cs[pre.length] (show (0 : Int) < 5 by decide)
    generalize eN : (if ((pre.length : Nat) : Int) < cs[pre.length] % 5 then ((pre.length : Nat) : Int) else cs[pre.length] % 5) = N
    have hN : 0 ≤ N ∧ N ≤ pre.length ∧ N ≤ 4 := by rw [← eN]; split <;> omega
    have tl : (xs.take pre.length).length = pre.length := by rw [List.length_take]; omega
    obtain ⟨es, s5', s6', s8', s9', q, _, ⟨ls, pm⟩, hes⟩ := zrh (A := .pl (zdq cs)) (B := .pl (zak xs)) (C := .ac (webD W)) (kk := pre.length) (nn := .pl (.str n)) (xs := xs.take pre.length) (by omega) N.toNat (xs.take pre.length) [] (cs[pre.length] / 5) s8 s9 (List.Perm.refl _) (by simp; omega) (by omega)
    have ndT : (xs.take pre.length).Nodup := nd.sublist (List.take_sublist _ _)
    have ndE : es.Nodup := (List.nodup_append.mp (pm.nodup_iff.mpr ndT)).1
    have subE : ∀ e ∈ es, e ∈ nm W := fun e he => by rw [hnm, hpre]; exact pm.mem_iff.mp (List.mem_append_left _ he)
    have nW : n ∉ nm W := by
      rw [hnm, hpre]
      intro hm
      obtain ⟨j, hj, ej⟩ := List.getElem_of_mem hm
      rw [List.getElem_take] at ej
      obtain ⟨hh, en⟩ := List.getElem?_eq_some_iff.mp hn
      have := zadi nd (ej.trans en.symm)
      rw [tl] at hj
      omega
    refine ⟨_, [.pl (zdq cs), .pl (zak xs), .ac (webD (W ++ [(n, es)])), .pl (.int (pre.length : Int)), .pl (.str n), s5', s6', .pl (zak es), s8', s9'], rfl, .inl ?_, W ++ [(n, es)], _, _, _, _, _, _, _, rfl, by rw [zyo, hnm]; simp, zyw ok nW subE (by rw [hes]; simp; omega) (by omega)⟩
    have st5 : sSet 5 (eSl (eVar 1) zdd (zcc (eVar 3))) [.pl (zdq cs), .pl (zak xs), .ac (webD W), .pl (.int (pre.length : Int)), .pl (.str n), s5, s6, s7, s8, s9] = some (.nx [.pl (zdq cs), .pl (zak xs), .ac (webD W), .pl (.int (pre.length : Int)), .pl (.str n), .ac (zak (xs.take pre.length)), s6, s7, s8, s9]) := by
      have : eSl (eVar 1) zdd (zcc (eVar 3)) [.pl (zdq cs), .pl (zak xs), .ac (webD W), .pl (.int (pre.length : Int)), .pl (.str n), s5, s6, s7, s8, s9] = some ⟨zak (xs.take pre.length), true, []⟩ := by
        simp only [eSl, eVar, zdd, zcc, List.getElem?_cons_succ, List.getElem?_cons_zero, Option.bind_some, zak, slD]
        rw [ztm _ _ (by rw [List.length_map]; omega), ← List.map_take]
        simp [bsOf, zen]
      exact zcf this
    refine zan st5 (zan (zcf (r := vi _) (zhz (gc rfl rfl) rfl (by decide) (by decide))) (zan rfl (zan (zgl (ds := (List.range' ([] : List Str).length N.toNat).map fun (k : Nat) => PyData.int (k : Int)) (bs := []) ?_ q) ?_)))
    · have : eCB minD (zac (eOp modD (eIxV 0 (eVar 3)) (eC (.int 5))) (zac (eVar 3) aNil)) [.pl (zdq cs), .pl (zak xs), .ac (webD W), .pl (.int (pre.length : Int)), .pl (.str n), .ac (zak (xs.take pre.length)), .pl (.int (cs[pre.length] / 5)), .ac (.list []), s8, s9] = some (vi N) := by
        unfold eCB zac
        rw [zfc (gc rfl rfl) (j := 5) rfl (by decide)]
        show ((minD [.int (cs[pre.length] % 5), .int ((pre.length : Nat) : Int)]).bind fun z => some (⟨z.1, z.2, bsOf z.1 _⟩ : Val)) = _
        unfold minD
        simp only [Option.bind_some]
        rw [eN]; rfl
      show zgv _ [.pl (zdq cs), .pl (zak xs), .ac (webD W), .pl (.int (pre.length : Int)), .pl (.str n), .ac (zak (xs.take pre.length)), .pl (.int (cs[pre.length] / 5)), .ac (.list []), s8, s9] = _
      unfold zgv
      rw [zfx this]
      simp only [Option.bind_some]
      rw [if_pos ⟨by omega, by omega⟩, zre, List.range_eq_range']
      rfl
    · have lz : (W.map rowD).length < 100000 := by rw [List.length_map]; omega
      simp only [sApp, webD, eTup, zac, aNil, eVar, List.getElem?_cons_succ, List.getElem?_cons_zero, Option.bind_some, Option.map_some, zhf, bss]
      rw [if_pos (by simp)]
      simp only [Option.bind_some]
      rw [if_pos ⟨lz, by simp⟩]
      simp [frzs, frz1, rowD, zak]
  obtain ⟨env', hl, W, s3, s4, s5, s6, s7, s8, s9, rfl, hnm, ok⟩ := loop
  refine ⟨W, zde (env := [.pl (zdq cs), .pl (zak xs), .no, .no, .no, .no, .no, .no, .no, .no]) rfl (zan rfl (zan (zgl (ds := (xs.zipIdx).map fun (p : Str × Nat) => PyData.tuple [.int (p.2 : Int), .str p.1]) (bs := []) ?_ hl) rfl)), hnm.trans (List.zipIdx_map_fst 0 xs), ok⟩
  unfold ziu
  rw [zfx (r := ⟨zak xs, false, []⟩) rfl]
  simp only [Option.bind_some, zak]
  rw [zabz]
end Bc
namespace Bc
open PySem L2
section
variable {a b : EF} {env : DEnv} {x y : Str}
theorem zalc (ha : a env = some (vs x)) (hb : b env = some (vs y)) : eOp eqD a b env = some (vb (x == y)) := by
  unfold eOp; rw [ha, hb]; rfl
theorem e_in {neg : Bool} {xs : List Str} {fr : Bool} {bs : List Nat} (ha : a env = some (vs x)) (hb : b env = some ⟨zak xs, fr, bs⟩) : eOp (inD neg) a b env = some (vb (if neg then !decide (x ∈ xs) else decide (x ∈ xs))) := by
  unfold eOp; rw [ha, hb]; simp [zagj, bsOf, zen]
end
end Bc
namespace Bc
open PySem L2
theorem zba {a : EF} {f : AF} {env : DEnv} {r : Val} {rs : List Val} (ha : a env = some r) (hf : f env = some rs) : zac a f env = some (r :: rs) := by unfold zac; rw [ha, hf]; rfl
theorem zri {f : EF} {env : DEnv} {c : Bool} (h : f env = some (vb c)) : zbs (tTru f) env = some (!c) := by unfold zbs tTru; rw [h]; rfl
end Bc
namespace Bc
open PySem L2
theorem zaca (cs : List Int) (a b : Nat) (h : b ≤ cs.length) (hab : a ≤ b) : cutD (cs.map .int) (some (a : Int)) (some (b : Int)) = ((cs.drop a).take (b - a)).map .int := by
  unfold cutD
  have e1 : min a cs.length = a := by omega
  have e2 : min b cs.length = b := by omega
  rw [HT.sIx_nat, HT.sIx_nat, List.length_map, e1, e2, ← List.map_drop, ← List.map_take]
theorem zacb {W : Web} : zjf (gT 2 (zbe 0 (zbe 1 zfs))) zki (eTup (zac (eVar 0) (zac (eCB zjm (zac (eVar 1) aNil)) aNil))) [.no, .no] (W.map rowD) = some (W.map rowD) :=
  zjs fun p _ => ⟨[.pl (.str p.1), .pl (zak p.2)], rfl, rfl, ⟨rowD p, false, []⟩, rfl, rfl⟩
end Bc
namespace Bc
open PySem L2
end Bc
namespace Bc
open PySem L2
theorem zadj : ∀ (ks seen : List Key), unl seen ks ≤ ks.length
  | [], _ => Nat.le_refl _
  | k :: ks, seen => by
    unfold unl
    have := zadj ks (k :: seen)
    rw [List.length_cons]
    split <;> omega
theorem zadk : ∀ (ks seen : List Key), unl seen ks = ks.length ↔ ks.Nodup ∧ ∀ k ∈ ks, k ∉ seen
  | [], _ => by simp [unl]
  | k :: ks, seen => by
    have l := zadj ks (k :: seen)
    have ih := zadk ks (k :: seen)
    unfold unl
    rw [List.length_cons, List.nodup_cons]
    by_cases hk : k ∈ seen
    · rw [if_pos hk]
      constructor
      · intro z; omega
      · intro z; exact absurd hk (z.2 k List.mem_cons_self)
    · rw [if_neg hk]
      constructor
      · intro z
        obtain ⟨n, a⟩ := ih.mp (by omega)
        exact ⟨⟨fun y => a k y List.mem_cons_self, n⟩, fun x hx => by
          rcases List.mem_cons.mp hx with rfl | hx
          · exact hk
          · exact fun y => a x hx (List.mem_cons_of_mem _ y)⟩
      · rintro ⟨⟨n1, n2⟩, a⟩
        have := ih.mpr ⟨n2, fun x hx y => by
          rcases List.mem_cons.mp y with rfl | y
          · exact n1 hx
          · exact a x (List.mem_cons_of_mem _ hx) y⟩
        omega
theorem zrj : ∀ (xs : List Str), ztd (xs.map .str) = some (xs.map Sum.inr)
  | [] => rfl
  | x :: xs => by
    show ((keyD (.str x)).bind fun k => (ztd (xs.map .str)).map fun ks => k :: ks) = _
    rw [zrj xs]; rfl
theorem zyy : ∀ (xs : List Str), (xs.map (Sum.inr : Str → Key)).Nodup ↔ xs.Nodup
  | [] => by simp
  | x :: xs => by
    rw [List.map_cons, List.nodup_cons, List.nodup_cons, zyy xs]
    simp
theorem zrk {α : Type} (f : α → Bool) : ∀ (l : List α), znh (l.map fun x => .bool (f x)) = some (l.map f)
  | [] => rfl
  | x :: l => by
    show (znh (l.map fun x => .bool (f x))).map _ = _
    rw [zrk f l]; rfl
theorem zajr {α : Type} {f : α → Bool} {l : List α} {a : EF} {env : DEnv} {fr : Bool} {bs : List Nat} (ha : a env = some ⟨.list (l.map fun x => .bool (f x)), fr, bs⟩) : eCB (anyD fun bs => bs.all id) (zac a aNil) env = some (vb (l.all f)) := by
  unfold eCB
  rw [zfx ha, Option.bind_some]
  show ((znh (l.map fun x => .bool (f x))).map _).bind _ = _
  rw [zrk]
  simp only [Option.map_some, Option.bind_some, List.all_map]
  rfl
theorem ztn {α : Type} (f : α → Bool) (l : List α) : zey (l.map fun x => .bool (f x)) = true := by
  unfold zey
  rw [List.all_map]
  exact List.all_eq_true.mpr fun _ _ => rfl
end Bc
namespace Bc
open PySem L2
noncomputable def isH (W : Web) (k o : Str) (xs : List Str) : Bool := ((xs.all fun x => decide (x ∈ nm W)) && decide xs.Nodup) && ((decide (k ∈ xs) && !decide (o ∈ xs)) && xs.all fun x => (upL W x).all fun e => decide (e ∈ xs))
end Bc
namespace Bc
open PySem L2
end Bc
namespace Bc
open PySem L2
end Bc
namespace Bc
open PySem L2
end Bc
namespace Bc
open PySem L2
noncomputable def zrl : SF := (sSeq (sIf (tOrF (zbs (tTru (eIsi "str" (eVar 0)))) (zbs (zas (zgk leD leD (eC (.int 1)) (eCB lenD (zac (eVar 0) aNil)) (eC (.int 8)))))) (sRet (eC (.bool false))) sNil)
    (sRet (eCB (anyD fun bs => bs.all id) (zac (zkh ["sign"] [] (zme (eVar 0)) (gN 0) zki (zgk leS leS (eC (.str "a")) (eVar 0) (eC (.str "z")))) aNil))))
noncomputable def zfd : GF := fnD 1 zrl
end Bc
namespace Bc
open PySem L2
noncomputable def zadl (c : Nat) : Bool := !(Builtin.Str.occurrences ("abcdefghijklmnopqrstuvwxyz" : Str) ⟨#[c]⟩ 0 ("abcdefghijklmnopqrstuvwxyz" : Str).length 1).isEmpty
noncomputable def zfv (c : Nat) : Bool := (!decide (([c] : List Nat) < ("a" : Str).cps.toList)) && (!decide (("z" : Str).cps.toList < ([c] : List Nat)))
theorem zyz {c : Nat} (h : c < 128) : zadl c = zfv c := by
  have : (List.range 128).all (fun c => zadl c == zfv c) = true := by decide +kernel
  exact eq_of_beq (List.all_eq_true.mp this c (List.mem_range.mpr h))
theorem zza {α : Type} {l : List α} {i : Int} (h0 : 0 ≤ i) (h1 : i < l.length) : ∃ x, atI l i = some x ∧ x ∈ l := by
  have hn : i.toNat < l.length := by omega
  refine ⟨l[i.toNat], ?_, List.getElem_mem _⟩
  have := zjd (xs := l) (j := i.toNat) (List.getElem?_eq_getElem hn)
  rw [show ((i.toNat : Nat) : Int) = i by omega] at this
  exact this
noncomputable def zhg : Str := " !\"#$&'()*+,-./0123456789:;<=>?@ABCDEFGHIJKLMNOPQRSTUVWXYZ[\\]^_`{|}~\n"
theorem zkk {z : Str} (h : z.cps.toList.all (fun c => decide (c < 128)) = true) : Low z := fun c hc => of_decide_eq_true (List.all_eq_true.mp h c hc)
theorem zzb {b : EF} {env : DEnv} {i lo hi : Int} (h : b env = some (vi i)) : zgk leD leD (eC (.int lo)) b (eC (.int hi)) env = some (vb (decide (lo ≤ i) && decide (i ≤ hi))) := by
  unfold zgk
  rw [h]
  show (if decide (lo ≤ i) = true then _ else _) = _
  cases decide (lo ≤ i) <;> rfl
theorem zzc (t : Str) (hl : t.length ≤ 1000) : zfd [.str t] = some (.bool ((decide (1 ≤ (t.length : Int)) && decide ((t.length : Int) ≤ 8)) && t.cps.toList.all zfv), false) := by
  have e1 : tOrF (zbs (tTru (eIsi "str" (eVar 0)))) (zbs (zas (zgk leD leD (eC (.int 1)) (eCB lenD (zac (eVar 0) aNil)) (eC (.int 8))))) [.pl (.str t)] = some (!(decide (1 ≤ (t.length : Int)) && decide ((t.length : Int) ≤ 8))) := by
    show (zbs (zas (zgk leD leD (eC (.int 1)) (eCB lenD (zac (eVar 0) aNil)) (eC (.int 8))))) [.pl (.str t)] = _
    unfold zbs
    rw [zdn (zzb (znn rfl (by omega)))]
    rfl
  cases hc : (decide (1 ≤ (t.length : Int)) && decide ((t.length : Int) ≤ 8)) with
  | false =>
    rw [hc] at e1
    exact zde rfl (zdc (if_t e1 rfl))
  | true =>
    rw [hc] at e1
    refine zde rfl (zan (if_f e1 rfl) (zgz (bs := []) ?_))
    show eCB (anyD fun bs => bs.all id) (zac (zkh ["sign"] [] (zme (eVar 0)) (gN 0) zki (zgk leS leS (eC (.str "a")) (eVar 0) (eC (.str "z")))) aNil) [.pl (.str t)] = _
    refine zajr (f := zfv) (fr := true) (bs := []) ?_
    have hf : zey (t.cps.toList.map fun c => PyData.bool (zfv c)) = true := ztn zfv _
    have := zmn (own := ["sign"]) (fr := []) (fi := zme (eVar 0)) (g := gN 0) (t := zki) (e := zgk leS leS (eC (.str "a")) (eVar 0) (eC (.str "z"))) (env := [.pl (.str t)]) (ds := zmd t) (bs := []) (rs := t.cps.toList.map fun c => PyData.bool (zfv c)) rfl
      (by unfold zmd; rw [List.length_map]; have : t.cps.toList.length = t.length := by simp [Str.length]
          omega) (zjs (enc := fun c => PyData.str ⟨#[c]⟩) (out := fun c => PyData.bool (zfv c)) fun c _ => ⟨[.pl (.str ⟨#[c]⟩)], rfl, rfl, vb (zfv c), ?_, rfl⟩)
    · rw [this, hf]; rfl
    · show (if (!decide (([c] : List Nat) < ("a" : Str).cps.toList)) = true then _ else _) = _
      unfold zfv
      cases (!decide (([c] : List Nat) < ("a" : Str).cps.toList)) <;> rfl
theorem zrm {d : PyData} (h : isiB "str" d = false) : zfd [d] = some (.bool false, false) := by
  refine zde rfl (zdc (if_t ?_ rfl))
  show (tOrF (zbs (tTru (eIsi "str" (eVar 0)))) _) [.pl d] = _
  unfold tOrF zbs tTru
  rw [show eIsi "str" (eVar 0) [.pl d] = some (vb (isiB "str" d)) from rfl, h]
  rfl
end Bc
namespace Bc
open PySem L2
noncomputable def zfw : SF := (sSeq (sIf (zbs (tTru (eCB (anyD fun bs => bs.all id) (zac (zkh ["thing"] [0] (zgc (eVar 1)) (gN 0) zki (eOp (inTD false) (eVar 0) (eVar 1))) aNil)))) (sRet (eC (.bool false))) sNil)
    (sRet (eOp eqD (zlz (eVar 1)) (eCB lenD (zac (eVar 1) aNil)))))
noncomputable def zcs : GF := fnD 2 zfw
end Bc
namespace Bc
open PySem L2
end Bc
namespace Bc
open PySem L2
end Bc
namespace Bc
open PySem L2
end Bc
namespace Bc
open PySem L2
noncomputable def zha : SF := (sSeq (sIf (tOrF (zbs (tTru (eIsi "tuple" (eVar 1)))) (zas (eOp neD (eCB lenD (zac (eVar 1) aNil)) (eC (.int 2))))) (sRet (eC (.bool false))) sNil)
    (sSeq (sAsg (eVar 1) (gT 2 (zbe 2 (zbe 3 zfs))))
    (sSeq (sIf (tOrF (zbs (tTru (zbr 1 zfd (zac (eVar 2) aNil)))) (zas (eOp (inD false) (eVar 2) (eVar 0)))) (sRet (eC (.bool false))) sNil)
    (sSeq (sIf (tOrF (zbs (tTru (eIsi "list" (eVar 3)))) (zas (eOp gtD (eCB lenD (zac (eVar 3) aNil)) (eC (.int 4))))) (sRet (eC (.bool false))) sNil)
    (sRet (zbr 2 zcs (zac (eVar 0) (zac (eVar 3) aNil))))))))
noncomputable def zbt : GF := fnD 4 zha
noncomputable def zju : SF := (sRet (zkh ["name", "elders"] [] (zgc (eVar 0)) (gT 2 (zbe 0 (zbe 1 zfs))) zki (eTup (zac (eVar 0) (zac (eCB zjm (zac (eVar 1) aNil)) aNil)))))
noncomputable def zfn : GF := fnD 1 zju
noncomputable def zrn : SFX := (xSeq (xIf (tOrF (zbs (tTru (eIsi "list" (eVar 0)))) (zbs (tTru (eVar 0)))) (znk "NoWeb" (eC .none)) (xOf sNil))
    (xSeq (xOf (sSet 1 (eLst aNil)))
    (xSeq (xFor (ziu (zac (eVar 0) aNil)) (gT 2 (zbe 2 (zbe 3 zfs)))
    (xSeq (xIf (tOrF (zas (eOp geD (eVar 2) (eC (.int 10)))) (zbs (tTru (zbr 2 zbt (zac (eVar 1) (zac (eVar 3) aNil)))))) (znk "NoWeb" (eVar 2)) (xOf sNil))
    (xOf (sApp 1 (eIxV 3 (eC (.int 0)))))))
    (xOf (sRet (zbr 1 zfn (zac (eVar 0) aNil)))))))
noncomputable def zeg : GFX := fnX 4 zrn
noncomputable def zuo : SF := (sSeq (zyk "NoWeb" 1 zeg (zac (eVar 0) aNil) (sRet (eC (.bool false))))
    (sRet (eC (.bool true))))
noncomputable def zik : GF := fnD 1 zuo
noncomputable def zmp : SF := (sSeq (sSet 2 (eC (.str " !\"#$&'()*+,-./0123456789:;<=>?@ABCDEFGHIJKLMNOPQRSTUVWXYZ[\\]^_`{|}~\n")))
    (sSeq (sSet 3 (eOp modD (eOp zci (eVar 1) (eC (.int 16))) (eOp addD (eCB lenD (zac (eVar 0) aNil)) (eC (.int 1)))))
    (sSeq (sSet 4 (eIxV 2 (eOp modD (eOp zci (eVar 1) (eC (.int 7))) (eCB lenD (zac (eVar 2) aNil)))))
    (sSeq (sSet 5 (eLst (zac (eC .none) (zac (eC (.bool true)) (zac (eC (.int 3)) (zac (eC (.str "")) (zac (eLst (zac (eVar 0) aNil)) (zac (eTup (zac (eVar 0) aNil)) (zac zsx (zac (eOp addD (eVar 0) (eC (.str "aaaaaaaa"))) (zac (eVar 4) (zac (eOp addD (eVar 4) (eVar 4)) aNil))))))))))))
    (sSeq (sIf (zas (eOp ltD (eOp modD (eVar 1) (eC (.int 16))) (eC (.int 10)))) (sRet (eIxV 5 (eOp modD (eVar 1) (eC (.int 16))))) sNil)
    (sSeq (sIf (zas (eOp ltD (eOp modD (eVar 1) (eC (.int 16))) (eC (.int 13)))) (sRet (eOp addD (eOp addD (eSl (eVar 0) zdd (zcc (eVar 3))) (eVar 4)) (eSl (eVar 0) (zcc (eVar 3)) zdd))) sNil)
    (sRet (eOp addD (eOp addD (eSl (eVar 0) zdd (zcc (eVar 3))) (eVar 4)) (eSl (eVar 0) (zcc (eOp addD (eVar 3) (eC (.int 1)))) zdd)))))))))
noncomputable def zcm : GF := fnD 6 zmp
noncomputable def zkv : SF := (sSeq (sSet 4 (eCB zjm (zac (eOp ixD (eIxV 0 (eVar 1)) (eC (.int 1))) aNil)))
    (sSeq (sSet 5 (eOp modD (eVar 3) (eOp addD (eCB lenD (zac (eVar 4) aNil)) (eC (.int 1)))))
    (sSeq (sSet 6 (eOp ixD (eIxV 0 (eOp modD (eOp zci (eVar 3) (eC (.int 5))) (eCB lenD (zac (eVar 0) aNil)))) (eC (.int 0))))
    (sSeq (sIf (zas (eOp eqD (eVar 2) (eC (.int 0)))) (sIns 4 (zac (eVar 5) (zac (eOp ixD (eIxV 0 (eVar 1)) (eC (.int 0))) aNil))) (sIf (zas (eOp eqD (eVar 2) (eC (.int 1)))) (sIns 4 (zac (eVar 5) (zac (eVar 6) aNil))) (sIf (zas (eOp eqD (eVar 2) (eC (.int 2)))) (sIns 4 (zac (eVar 5) (zac (zbr 2 zcm (zac (eVar 6) (zac (eOp zci (eVar 3) (eC (.int 5))) aNil))) aNil))) (sIf (zas (eOp eqD (eVar 2) (eC (.int 3)))) (sSet 4 (eOp addD (eVar 4) (zkh ["_law_name", "_law_row"] [4] (zgc (eSl (eVar 0) zdd (zcc (eVar 1)))) (gT 2 (zbe 0 (zbe 1 zfs))) (zas (eOp (inD true) (eVar 0) (eVar 2))) (eVar 0)))) (sIf (zas (eOp eqD (eVar 2) (eC (.int 4)))) (sSet 4 (eOp addD (eVar 4) (eSl (eVar 4) (zcc (eVar 5)) zdd))) (sIf (zas (eOp eqD (eVar 2) (eC (.int 5)))) (sRet (eCB zlr (zac (eVar 4) aNil))) (sRet (zbr 2 zcm (zac (eVar 6) (zac (eOp zci (eVar 3) (eC (.int 5))) aNil))))))))))
    (zqj 4)))))
noncomputable def zdx : GF := fnD 7 zkv
noncomputable def zhb : SF := (sSeq (sSet 4 (eOp ixD (eIxV 0 (eVar 1)) (eC (.int 0))))
    (sSeq (sSet 5 (eCB zjm (zac (eOp ixD (eIxV 0 (eVar 1)) (eC (.int 1))) aNil)))
    (sSeq (sIf (zas (eOp ltD (eVar 2) (eC (.int 7)))) (sRet (eTup (zac (eVar 4) (zac (zbr 4 zdx (zac (eVar 0) (zac (eVar 1) (zac (eVar 2) (zac (eVar 3) aNil))))) aNil)))) sNil)
    (sSeq (sIf (zas (eOp eqD (eVar 2) (eC (.int 7)))) (sRet (eTup (zac (zbr 2 zcm (zac (eVar 4) (zac (eVar 3) aNil))) (zac (eVar 5) aNil)))) sNil)
    (sSeq (sIf (zas (eOp eqD (eVar 2) (eC (.int 8)))) (sRet (eTup (zac (eOp ixD (eIxV 0 (eOp modD (eVar 3) (eCB lenD (zac (eVar 0) aNil)))) (eC (.int 0))) (zac (eVar 5) aNil)))) sNil)
    (sSeq (sIf (zas (eOp eqD (eVar 2) (eC (.int 9)))) (sRet (eLst (zac (eVar 4) (zac (eVar 5) aNil)))) sNil)
    (sSeq (sIf (zas (eOp eqD (eVar 2) (eC (.int 10)))) (sRet (eTup (zac (eVar 4) (zac (eVar 5) (zac (eC .none) aNil))))) sNil)
    (sSeq (sIf (zas (eOp eqD (eVar 2) (eC (.int 11)))) (sRet (eTup (zac (eVar 4) aNil))) sNil)
    (sRet (zbr 2 zcm (zac (eVar 4) (zac (eVar 3) aNil))))))))))))
noncomputable def zbh : GF := fnD 6 zhb
noncomputable def zjh : SF := (sSeq (sSet 1 (eOp addD (eC (.int 1)) (eOp modD (eIxV 0 (eC (.int 0))) (eC (.int 10)))))
    (sSeq (sIf (zas (eOp eqD (eOp modD (eIxV 0 (eC (.int 1))) (eC (.int 5))) (eC (.int 4)))) (sSet 1 (eOp addD (eC (.int 11)) (eOp modD (eIxV 0 (eC (.int 0))) (eC (.int 2))))) sNil)
    (sSeq (sSet 2 (zbr 2 zhw (zac (eSl (eVar 0) (zcc (eC (.int 8))) (zcc (eC (.int 20)))) (zac (zbr 2 zeq (zac (eVar 1) (zac (eIxV 0 (eC (.int 7))) aNil))) aNil))))
    (sSeq (sSet 3 (zkh ["_law_name", "_law_elders_here"] [] (zgc (eVar 2)) (gT 2 (zbe 0 (zbe 1 zfs))) zki (eTup (zac (eVar 0) (zac (eCB zjm (zac (eVar 1) aNil)) aNil)))))
    (sSeq (sIf (zas (eOp gtD (eOp modD (eIxV 0 (eC (.int 2))) (eC (.int 8))) (eC (.int 0)))) (sSeq (sSet 4 (eOp modD (eIxV 0 (eC (.int 3))) (eVar 1)))
    (zov 3 (eVar 4) (zbr 4 zbh (zac (eVar 2) (zac (eVar 4) (zac (eOp modD (eOp zci (eIxV 0 (eC (.int 2))) (eC (.int 8))) (eC (.int 13))) (zac (eIxV 0 (eC (.int 4))) aNil))))))) sNil)
    (sSeq (sIf (zas (eOp gtD (eOp modD (eIxV 0 (eC (.int 2))) (eC (.int 8))) (eC (.int 5)))) (sSeq (sSet 4 (eOp modD (eIxV 0 (eC (.int 5))) (eVar 1)))
    (zov 3 (eVar 4) (zbr 4 zbh (zac (eVar 2) (zac (eVar 4) (zac (eOp modD (eOp zci (eIxV 0 (eC (.int 5))) (eC (.int 12))) (eC (.int 13))) (zac (eIxV 0 (eC (.int 6))) aNil))))))) sNil)
    (sSeq (sSet 5 (eLst (zac (eCB zlr (zac (eVar 3) aNil)) (zac (eLst aNil) (zac (eC .none) (zac (eC (.str "ab")) (zac zsx (zac (eC (.int 7)) (zac (eC (.bool true)) (zac (eIxV 3 (eC (.int 0))) aNil))))))))))
    (sSeq (sIf (zas (eOp eqD (eOp modD (eOp zci (eIxV 0 (eC (.int 1))) (eC (.int 5))) (eC (.int 8))) (eC (.int 7)))) (sRet (eIxV 5 (eOp modD (eOp zci (eIxV 0 (eC (.int 1))) (eC (.int 40))) (eC (.int 8))))) sNil)
    (zqj 3)))))))))
noncomputable def zer : GF := fnD 6 zjh
noncomputable def ziz : SF := (sSeq (sIf (tOrF (zbs (tTru (eIsi "tuple" (eVar 0)))) (zas (eOp neD (eCB lenD (zac (eVar 0) aNil)) (eC (.int 2))))) (sRet (eC (.bool false))) sNil)
    (sSeq (sIf (tOrF (zbs (tTru (eIsi "str" (eIxV 0 (eC (.int 0)))))) (tOrF (zbs (zas (zgk leD leD (eC (.int 1)) (eCB lenD (zac (eIxV 0 (eC (.int 0))) aNil)) (eC (.int 8))))) (zas (eOp (inD false) (eIxV 0 (eC (.int 0))) (eVar 1))))) (sRet (eC (.bool false))) sNil)
    (sSeq (sFor (zme (eIxV 0 (eC (.int 0)))) (gN 2)
    (sIf (zas (eOp zqy (eVar 2) (eC (.str "abcdefghijklmnopqrstuvwxyz")))) (sRet (eC (.bool false))) sNil))
    (sSeq (sIf (tOrF (zbs (tTru (eIsi "list" (eIxV 0 (eC (.int 1)))))) (zas (eOp gtD (eCB lenD (zac (eIxV 0 (eC (.int 1))) aNil)) (eC (.int 4))))) (sRet (eC (.bool false))) sNil)
    (sSeq (sFor (ziu (zac (eIxV 0 (eC (.int 1))) aNil)) (gT 2 (zbe 3 (zbe 4 zfs)))
    (sIf (tOrF (zbs (tTru (eIsi "str" (eVar 4)))) (tOrF (zas (eOp (inD true) (eVar 4) (eVar 1))) (zas (eOp (inTD false) (eVar 4) (eSl (eIxV 0 (eC (.int 1))) zdd (zcc (eVar 3))))))) (sRet (eC (.bool false))) sNil))
    (sRet (eC (.bool true))))))))
noncomputable def zcj : GF := fnD 5 ziz
noncomputable def zjv : SF := (sSeq (sIf (tOrF (zbs (tTru (eIsi "list" (eVar 0)))) (zas (eOp eqE (eVar 0) (eLst aNil)))) (sRet (eTup (zac (eC (.str "refused")) (zac (eC .none) aNil)))) sNil)
    (sSeq (sSet 1 (eLst aNil))
    (sSeq (sFor (ziu (zac (eVar 0) aNil)) (gT 2 (zbe 2 (zbe 3 zfs)))
    (sSeq (sIf (tOrF (zas (eOp gtD (eVar 2) (eC (.int 9)))) (zbs (tTru (zbr 2 zcj (zac (eVar 3) (zac (eVar 1) aNil)))))) (sRet (eTup (zac (eC (.str "refused")) (zac (eVar 2) aNil)))) sNil)
    (sApp 1 (eIxV 3 (eC (.int 0))))))
    (sRet (eTup (zac (eC (.str "made")) (zac (eCB zjm (zac (eVar 0) aNil)) aNil)))))))
noncomputable def zeh : GF := fnD 4 zjv
noncomputable def zja : SF := (sSeq (sSet 2 (eTup (zac (eC (.str "refused")) (zac (eC (.str "by none")) aNil))))
    (sSeq (fun env => if env.length = 3 then zyg ["NoWeb"] 2 1 "made" 1 zeg (zac (eVar 0) aNil) (fun xc xd => (sIf (zabc (tTru (eC (.bool (decide (xc = "NoWeb"))))) (zabc (tTru (eC (.bool true))) (zbs (tTru (eC (.bool (decide (xc = "NoKind") || (decide (xc = "NoBook") || decide (xc = "NoName"))))))))) (sSet 2 (eTup (zac (eC (.str "refused")) (zac (eC xd) aNil)))) sNil)) env else none)
    (zqj 2)))
noncomputable def zcv : GF := fnD 3 zja
end Bc
namespace Bc
open PySem L2
theorem zup : bootBuiltins "all" = some (.builtin "all") := by decide +kernel
theorem zro : bootBuiltins "bool" = some (.type "bool") := by decide +kernel
theorem zaw : bootBuiltins "isinstance" = some (.builtin "isinstance") := by decide +kernel
theorem zcg : bootBuiltins "len" = some (.builtin "len") := by decide +kernel
theorem zei : bootBuiltins "list" = some (.type "list") := by decide +kernel
theorem zacc : bootBuiltins "min" = some (.builtin "min") := by decide +kernel
theorem zaki : bootBuiltins "set" = some (.type "set") := by decide +kernel
theorem zpc : bootBuiltins "str" = some (.type "str") := by decide +kernel
theorem zil : bootBuiltins "tuple" = some (.type "tuple") := by decide +kernel
noncomputable def top (i : Nat) : Stmt := PySem.Challenge.pw_bestcalls_k05_webs_told.main.body.getD i (.Pass ⟨0, 0, 0, 0⟩)
structure Txt (mg : Str → Option Value) : Prop where
  all : mg "all" = none
  bool : mg "bool" = none
  enumerate : mg "enumerate" = none
  isinstance : mg "isinstance" = none
  len : mg "len" = none
  list : mg "list" = none
  min : mg "min" = none
  range : mg "range" = none
  set : mg "set" = none
  str : mg "str" = none
  tuple : mg "tuple" = none
  MOST_ELDERS : ∃ t, mg "MOST_ELDERS" = some (.int 4 t)
  MOST_KINDS : ∃ t, mg "MOST_KINDS" = some (.int 10 t)
  MOST_LETTERS : ∃ t, mg "MOST_LETTERS" = some (.int 8 t)
noncomputable abbrev zgm : Stmt := top 10
noncomputable abbrev zrp : List Str := ["thing"]
theorem zvl : zrp.Nodup := by decide +kernel
theorem zvm : FnScope zrp ["thing"] (zal zgm) := ⟨rfl, rfl, rfl, zvl, rfl, by decide +kernel, by decide +kernel⟩
noncomputable abbrev zcn : Stmt := top 11
noncomputable abbrev zia : List Str := ["known", "things"]
theorem zld : zia.Nodup := by decide +kernel
theorem zle : FnScope zia ["known", "things"] (zal zcn) := ⟨rfl, rfl, rfl, zld, rfl, by decide +kernel, by decide +kernel⟩
noncomputable abbrev zce : Stmt := top 12
noncomputable abbrev zhc : List Str := ["ahead", "thing", "name", "elders"]
theorem zes : zhc.Nodup := by decide +kernel
theorem zkl : FnScope zhc ["ahead", "thing"] (zal zce) := ⟨rfl, rfl, rfl, zes, rfl, by decide +kernel, by decide +kernel⟩
noncomputable abbrev zdl : Stmt := top 13
noncomputable abbrev zjw : List Str := ["web"]
theorem zna : zjw.Nodup := by decide +kernel
theorem znb : FnScope zjw ["web"] (zal zdl) := ⟨rfl, rfl, rfl, zna, rfl, by decide +kernel, by decide +kernel⟩
noncomputable abbrev zim : Stmt := top 14
noncomputable abbrev zuq : List Str := ["thing", "ahead", "number", "entry"]
theorem zjx : zuq.Nodup := by decide +kernel
theorem zzd : FnScope zuq ["thing"] (zal zim) := ⟨rfl, rfl, rfl, zjx, rfl, by decide +kernel, by decide +kernel⟩
noncomputable abbrev zin : Stmt := top 15
noncomputable abbrev zur : List Str := ["thing"]
theorem zze : zur.Nodup := by decide +kernel
theorem zzf : FnScope zur ["thing"] (zal zin) := ⟨rfl, rfl, rfl, zze, rfl, by decide +kernel, by decide +kernel⟩
noncomputable abbrev zet : Stmt := top 17
noncomputable abbrev zmq : List Str := ["_law_script", "_law_many", "_law_seed", "_law_cell", "_law_found", "_law_k"]
theorem zdy : zmq.Nodup := by decide +kernel
theorem zrq : FnScope zmq ["_law_script", "_law_many"] (zal zet) := ⟨rfl, rfl, rfl, zdy, rfl, by decide +kernel, by decide +kernel⟩
noncomputable abbrev zeu : Stmt := top 18
noncomputable abbrev zmr : List Str := ["_law_many", "_law_cell", "_law_letters", "_law_step", "_law_origin", "_law_stem", "_law_at", "_law_names_here", "_law_k", "_law_sign"]
theorem zch : zmr.Nodup := by decide +kernel
theorem zrr : FnScope zmr ["_law_many", "_law_cell"] (zal zeu) := ⟨rfl, rfl, rfl, zch, rfl, by decide +kernel, by decide +kernel⟩
noncomputable abbrev zgn : Stmt := top 19
noncomputable abbrev zrs : List Str := ["_law_cells", "_law_names_here", "_law_web_here", "_law_k", "_law_name", "_law_left", "_law_rest", "_law_elders_here", "_law_turn", "_law_at"]
theorem zcw : zrs.Nodup := by decide +kernel
theorem zvn : FnScope zrs ["_law_cells", "_law_names_here"] (zal zgn) := ⟨rfl, rfl, rfl, zcw, rfl, by decide +kernel, by decide +kernel⟩
noncomputable abbrev zgo : Stmt := top 20
noncomputable abbrev zrt : List Str := ["_law_name", "_law_cell", "_law_some", "_law_at", "_law_sign", "_law_odd_here"]
theorem zgp : zrt.Nodup := by decide +kernel
theorem zvo : FnScope zrt ["_law_name", "_law_cell"] (zal zgo) := ⟨rfl, rfl, rfl, zgp, rfl, by decide +kernel, by decide +kernel⟩
noncomputable abbrev zdz : Stmt := top 21
noncomputable abbrev zkw : List Str := ["_law_web_here", "_law_place", "_law_choice", "_law_cell", "_law_elders_here", "_law_at", "_law_other"]
theorem zdm : zkw.Nodup := by decide +kernel
theorem zpd : FnScope zkw ["_law_web_here", "_law_place", "_law_choice", "_law_cell"] (zal zdz) := ⟨rfl, rfl, rfl, zdm, rfl, by decide +kernel, by decide +kernel⟩
noncomputable abbrev zea : Stmt := top 22
noncomputable abbrev zkx : List Str := ["_law_web_here", "_law_place", "_law_choice", "_law_cell", "_law_name", "_law_elders_here"]
theorem zgw : zkx.Nodup := by decide +kernel
theorem zpe : FnScope zkx ["_law_web_here", "_law_place", "_law_choice", "_law_cell"] (zal zea) := ⟨rfl, rfl, rfl, zgw, rfl, by decide +kernel, by decide +kernel⟩
noncomputable abbrev zev : Stmt := top 23
noncomputable abbrev zms : List Str := ["_law_cells", "_law_many", "_law_web_here", "_law_thing_here", "_law_place", "_law_odd_here"]
theorem zcp : zms.Nodup := by decide +kernel
theorem zru : FnScope zms ["_law_cells"] (zal zev) := ⟨rfl, rfl, rfl, zcp, rfl, by decide +kernel, by decide +kernel⟩
noncomputable abbrev zfo : Stmt := top 24
noncomputable abbrev znq : List Str := ["_law_row", "_law_ahead", "_law_sign", "_law_k", "_law_elder"]
theorem zgx : znq.Nodup := by decide +kernel
theorem zto : FnScope znq ["_law_row", "_law_ahead"] (zal zfo) := ⟨rfl, rfl, rfl, zgx, rfl, by decide +kernel, by decide +kernel⟩
noncomputable abbrev zgq : Stmt := top 25
noncomputable abbrev zrv : List Str := ["_law_thing_here", "_law_ahead", "_law_number", "_law_row"]
theorem zio : zrv.Nodup := by decide +kernel
theorem zvp : FnScope zrv ["_law_thing_here"] (zal zgq) := ⟨rfl, rfl, rfl, zio, rfl, by decide +kernel, by decide +kernel⟩
noncomputable abbrev zfp : Stmt := top 26
noncomputable abbrev znr : List Str := ["_law_thing_here", "e", "_law_told_here"]
theorem zgy : znr.Nodup := by decide +kernel
theorem ztp : FnScope znr ["_law_thing_here"] (zal zfp) := ⟨rfl, rfl, rfl, zgy, rfl, by decide +kernel, by decide +kernel⟩
noncomputable abbrev zpf : Stmt := top 27
noncomputable abbrev zajs : List Str := ["_law_script", "_law_cells", "_law_thing_here", "_law_due_here", "_law_turn", "_law_found", "_law_told_here"]
theorem zmt : zajs.Nodup := by decide +kernel
theorem zajt : FnScope zajs ["_law_script"] (zal zpf) := ⟨rfl, rfl, rfl, zmt, rfl, by decide +kernel, by decide +kernel⟩
theorem zpg : (["sign"] : List Str).Nodup := by decide +kernel
theorem zji : (["thing", "known"] : List Str).Nodup := by decide +kernel
theorem zgr : (["name", "elders"] : List Str).Nodup := by decide +kernel
theorem zhd : (["_law_name", "_law_row", "_law_elders_here"] : List Str).Nodup := by decide +kernel
theorem zib : (["_law_name", "_law_elders_here"] : List Str).Nodup := by decide +kernel
noncomputable abbrev zrw (P : Program) (w : World) (K : PySem.W.Frag) (mg : Str → Option Value) (base : Heap) : Prop := Dn P w K mg base "is_name" ["thing"] 1 (spD 1 zfd)
noncomputable abbrev zic (P : Program) (w : World) (K : PySem.W.Frag) (mg : Str → Option Value) (base : Heap) : Prop := Dn P w K mg base "are_unlike_of" ["known", "things"] 1 (spD 2 zcs)
noncomputable abbrev zhe (P : Program) (w : World) (K : PySem.W.Frag) (mg : Str → Option Value) (base : Heap) : Prop := Dn P w K mg base "is_kind_behind" ["ahead", "thing"] 2 (spD 2 zbt)
noncomputable abbrev zjy (P : Program) (w : World) (K : PySem.W.Frag) (mg : Str → Option Value) (base : Heap) : Prop := Dn P w K mg base "copy_of_web" ["web"] 1 (spD 1 zfn)
noncomputable abbrev zph (P : Program) (w : World) (K : PySem.W.Frag) (mg : Str → Option Value) (base : Heap) (cl : Str → Addr) : Prop := DnX P w K mg base "web_of" ["thing"] 3 (spX cl 1 zeg)
noncomputable abbrev zus (P : Program) (w : World) (K : PySem.W.Frag) (mg : Str → Option Value) (base : Heap) : Prop := Dn P w K mg base "is_web" ["thing"] 4 (spD 1 zik)
noncomputable abbrev zmu (P : Program) (w : World) (K : PySem.W.Frag) (mg : Str → Option Value) (base : Heap) : Prop := Dn P w K mg base "_law_names" ["_law_many", "_law_cell"] 1 (spD 2 zeq)
noncomputable abbrev zrx (P : Program) (w : World) (K : PySem.W.Frag) (mg : Str → Option Value) (base : Heap) : Prop := Dn P w K mg base "_law_web" ["_law_cells", "_law_names_here"] 1 (spD 2 zhw)
noncomputable abbrev zmv (P : Program) (w : World) (K : PySem.W.Frag) (mg : Str → Option Value) (base : Heap) : Prop := Dn P w K mg base "_law_odd" ["_law_name", "_law_cell"] 1 (spD 2 zcm)
noncomputable abbrev zky (P : Program) (w : World) (K : PySem.W.Frag) (mg : Str → Option Value) (base : Heap) : Prop := Dn P w K mg base "_law_elders" ["_law_web_here", "_law_place", "_law_choice", "_law_cell"] 2 (spD 4 zdx)
noncomputable abbrev zkz (P : Program) (w : World) (K : PySem.W.Frag) (mg : Str → Option Value) (base : Heap) : Prop := Dn P w K mg base "_law_spoilt" ["_law_web_here", "_law_place", "_law_choice", "_law_cell"] 3 (spD 4 zbh)
noncomputable abbrev zmw (P : Program) (w : World) (K : PySem.W.Frag) (mg : Str → Option Value) (base : Heap) : Prop := Dn P w K mg base "_law_thing" ["_law_cells"] 4 (spD 1 zer)
noncomputable abbrev zns (P : Program) (w : World) (K : PySem.W.Frag) (mg : Str → Option Value) (base : Heap) : Prop := Dn P w K mg base "_law_good" ["_law_row", "_law_ahead"] 1 (spD 2 zcj)
noncomputable abbrev zry (P : Program) (w : World) (K : PySem.W.Frag) (mg : Str → Option Value) (base : Heap) : Prop := Dn P w K mg base "_law_due" ["_law_thing_here"] 2 (spD 1 zeh)
noncomputable abbrev znt (P : Program) (w : World) (K : PySem.W.Frag) (mg : Str → Option Value) (base : Heap) : Prop := Dn P w K mg base "_law_told" ["_law_thing_here"] 4 (spD 1 zcv)
section
variable {P : Program} {w : World} {K : PySem.W.Frag} {mg : Str → Option Value} {base : Heap}
theorem zvq {f : Addr} {fd : FuncData} (F : Fun K "is_name" "is_name" zgm f fd) (T : Txt mg)  : FnOk P w K mg base CX0 1 f fd ["thing"] (spD 1 zfd) := by
  refine F.ok zvm (fun vs H Q E h => zec h) (fun cdv A outer s H vs Q E hr h => ?_)
  have hu := zir hr
  apply Exists.intro
  apply And.intro
  · refine' Bx.out (zah (zbn (zfk (zda (zbd (K := K) rfl (zat (zdf (K := K) rfl) (by rfl) T.isinstance zaw (zaa (bv 0) (zaa (zdt (v := .ty "str") (by rfl) T.str zpc rfl (by decide) (by decide)) zai (by rfl)) (by rfl)) (by decide) (by decide) (zag (by rfl)) (by rfl)) (fun _ => rfl))) (zee (zda (zqw zaaf zaaf zaf (zat (zbq (K := K) rfl) (by rfl) T.len zcg (zaa (bv 0) zai (by rfl)) (by decide) (by decide) (zag (by rfl)) (by rfl)) (zmh (by rfl) T.MOST_LETTERS (by decide)) (by with_unfolding_all rfl))))).pt (zaj (zax zek)) zbb)
  (zaj (zax (zat (zqd (K := K) rfl rfl) (by rfl) T.all zup (zaa (zjq (zhm (N' := ["sign"]) (own := ["sign"]) (fr := []) (by kernel_rfl)) rfl (zyc (bv 0)) ?hb1 (by intro _; rfl)) zai (by rfl)) (by decide) (by decide) (zag (by rfl)) (by rfl)))))
    case hb1 => (intro cl C s H fp; refine' ⟨Bx.out (zbk (i := 0) zpg rfl (Or.inl rfl) (by first | exact .inl rfl | exact .inr rfl | assumption)), Bx.out zox, Bx.out (zyd zqu zqu zdu (bv 0) zdu (by with_unfolding_all rfl))⟩)
  exact fn_d (f := zrl) ((zar (zdi (zis (zez (zfi (zhq (zad 0) zsy))) (zez (st_t (zop zaay zaay (se_c fun _ => zab) (zfa zfj (zae (zad 0) zao)) (se_c fun _ => zab))))) (zbm (se_c fun _ => zam)) zck) (zbm (zfa zacx (zae (zlw (zadd (zad 0)) zkf (zxg (by decide)) zud (zop zade zade (se_c fun _ => zbf) (zad 0) (se_c fun _ => zbf))) zao))))) h
theorem zlf {f : Addr} {fd : FuncData} (F : Fun K "are_unlike_of" "are_unlike_of" zcn f fd) (T : Txt mg)  : FnOk P w K mg base CX0 1 f fd ["known", "things"] (spD 2 zcs) := by
  refine F.ok zle (fun vs H Q E h => zec h) (fun cdv A outer s H vs Q E hr h => ?_)
  have hu := zir hr
  apply Exists.intro
  apply And.intro
  · refine' Bx.out (zah (zbn (zda (zbd (K := K) rfl (zat (zqd (K := K) rfl rfl) (by rfl) T.all zup (zaa (zjq (zhm (N' := ["thing", "known"]) (own := ["thing"]) (fr := [0]) (by kernel_rfl)) rfl (zlj (K := K) rfl (bv 1)) ?hb1 (by intro _; rfl)) zai (by rfl)) (by decide) (by decide) (zag (by rfl)) (by rfl)) (fun _ => rfl))) (zaj (zax zek)) zbb)
  (zaj (zax (zow (zfb (K := K) rfl hr.units) (zvk rfl (by rfl) T.len (by rfl) T.set (bv 1) (zag (by rfl))) (zat (zbq (K := K) rfl) (by rfl) T.len zcg (zaa (bv 1) zai (by rfl)) (by decide) (by decide) (zag (by rfl)) (by rfl)) (zbx _)))))
    case hb1 => (intro cl C s H fp; refine' ⟨Bx.out (zbk (i := 0) zji rfl (Or.inl rfl) (by first | exact .inl rfl | exact .inr rfl | assumption)), Bx.out zox, Bx.out (zow (zxw (K := K) rfl hr.units) (bv 0) (bv 1) (by rfl))⟩)
  exact fn_d (f := zfw) ((zar (zdi (zez (zfi (zfa zacx (zae (zlw (zua (zad 1)) zkf (zxg (by decide)) zud (zap zya (zad 0) (zad 1))) zao)))) (zbm (se_c fun _ => zam)) zck) (zbm (zap zho (zxn (zad 1)) (zfa zfj (zae (zad 1) zao)))))) h
theorem zkm {f : Addr} {fd : FuncData} (F : Fun K "is_kind_behind" "is_kind_behind" zce f fd) (T : Txt mg) (D_are_unlike_of : zic P w K mg base) (D_is_name : zrw P w K mg base) : FnOk P w K mg base CX0 2 f fd ["ahead", "thing"] (spD 2 zbt) := by
  refine F.ok zkl (fun vs H Q E h => zec h) (fun cdv A outer s H vs Q E hr h => ?_)
  have hu := zir hr
  apply Exists.intro
  apply And.intro
  · refine' Bx.out (zah (zbn (zfk (zda (zbd (K := K) rfl (zat (zdf (K := K) rfl) (by rfl) T.isinstance zaw (zaa (bv 1) (zaa (zdt (v := .ty "tuple") (by rfl) T.tuple zil rfl (by decide) (by decide)) zai (by rfl)) (by rfl)) (by decide) (by decide) (zag (by rfl)) (by rfl)) (fun _ => rfl))) (zee (zav (zuc (K := K) rfl hr.units) (zat (zbq (K := K) rfl) (by rfl) T.len zcg (zaa (bv 1) zai (by rfl)) (by decide) (by decide) (zag (by rfl)) (by rfl)) zaf (zbx _)))).pt (zaj (zax zek)) zbb)
  (zah (zafv (bv 1) (zge (K := K) (n := 2) rfl rfl (zbu (zbk (i := 2) zes rfl (Or.inl rfl) (.inl rfl)) (zbu (zbk (i := 3) zes rfl (Or.inl rfl) (.inl rfl)) zgd (by rfl)) (by rfl)) (by rfl) (by rfl)) (by rfl) (by rfl) (by rfl))
  (zah (zbn (zfk (zda (zbd (K := K) rfl (zed D_is_name (hr.mono (by decide)) (by rfl) (zaa (bv 2) zai (by rfl)) (by decide) (zag (by rfl)) (by rfl)) (fun _ => rfl))) (zee (zav (zacu (K := K) rfl) (bv 2) (bv 0) (by rfl)))).pt (zaj (zax zek)) zbb)
  (zah (zbn (zfk (zda (zbd (K := K) rfl (zat (zdf (K := K) rfl) (by rfl) T.isinstance zaw (zaa (bv 3) (zaa (zdt (v := .ty "list") (by rfl) T.list zei rfl (by decide) (by decide)) zai (by rfl)) (by rfl)) (by decide) (by decide) (zag (by rfl)) (by rfl)) (fun _ => rfl))) (zee (zav zwc (zat (zbq (K := K) rfl) (by rfl) T.len zcg (zaa (bv 3) zai (by rfl)) (by decide) (by decide) (zag (by rfl)) (by rfl)) (zmh (by rfl) T.MOST_ELDERS (by decide)) (zbx _)))).pt (zaj (zax zek)) zbb)
  (zaj (zax (zed D_are_unlike_of (hr.mono (by decide)) (by rfl) (zaa (bv 0) (zaa (bv 3) zai (by rfl)) (by rfl)) (by decide) (zag (by rfl)) (by rfl))))))))
  exact fn_d (f := zha) ((zar (zdi (zis (zez (zfi (zhq (zad 1) zqi))) (st_t (zap zaba (zfa zfj (zae (zad 1) zao)) (se_c fun _ => zab)))) (zbm (se_c fun _ => zam)) zck) (zar (zaim (zad 1) (zks (zcl (zcl zhr)))) (zar (zdi (zis (zez (zfi (zcz (zae (zad 2) zao)))) (st_t (zap zabb (zad 2) (zad 0)))) (zbm (se_c fun _ => zam)) zck) (zar (zdi (zis (zez (zfi (zhq (zad 3) zlh))) (st_t (zap zwz (zfa zfj (zae (zad 3) zao)) (se_c fun _ => zab)))) (zbm (se_c fun _ => zam)) zck) (zbm (zcz (zae (zad 0) (zae (zad 3) zao))))))))) h
theorem znc {f : Addr} {fd : FuncData} (F : Fun K "copy_of_web" "copy_of_web" zdl f fd) (T : Txt mg)  : FnOk P w K mg base CX0 1 f fd ["web"] (spD 1 zfn) := by
  refine F.ok znb (fun vs H Q E h => zec h) (fun cdv A outer s H vs Q E hr h => ?_)
  have hu := zir hr
  apply Exists.intro
  apply And.intro
  · refine' Bx.out (zaj (zax (zjq (zhm (N' := ["name", "elders"]) (own := ["name", "elders"]) (fr := []) (by kernel_rfl)) rfl (zlj (K := K) rfl (bv 0)) ?hb1 (by intro _; rfl))))
    case hb1 => (intro cl C s H fp; refine' ⟨Bx.out (zge (K := K) (n := 2) rfl rfl (zbu (zbk (i := 0) zgr rfl (Or.inl rfl) (by first | exact .inl rfl | exact .inr rfl | assumption)) (zbu (zbk (i := 1) zgr rfl (Or.inl rfl) (by first | exact .inl rfl | exact .inr rfl | assumption)) zgd (by rfl)) (by rfl)) (by rfl) (by rfl)), Bx.out zox, Bx.out (zdp (zaa (bv 0) (zaa (zep (zgi (K := K) rfl) (by rfl) T.list zei (zaa (bv 1) zai (by rfl)) (by decide) (by decide) (zag (by rfl)) (by rfl)) zai (by rfl)) (by rfl)))⟩)
  exact fn_d (f := zju) ((zbm (zlw (zua (zad 0)) (zks (zcl (zcl zhr))) (zxh (zij (by decide) (zij (by decide) ztb))) zud (zga (zae (zad 0) (zae (zfa zlq (zae (zad 1) zao)) zao)))))) h
theorem zzg {f : Addr} {fd : FuncData} {cl : Str → Addr} (F : Fun K "web_of" "web_of" zim f fd) (T : Txt mg) (D_copy_of_web : zjy P w K mg base) (D_is_kind_behind : zhe P w K mg base) (X_NoWeb : XcOk P w K mg base "NoWeb" (cl "NoWeb")) : FnOk P w K mg base (CXE P w) 3 f fd ["thing"] (spX cl 1 zeg) := by
  refine zaiu F zzd (fun vs H Q E h => zafl h) (fun cdv A outer s H vs Q E hr h0k h => ?_)
  have hu := zir hr
  apply Exists.intro
  apply And.intro
  · refine' Bx.out (zah (zbn (zfk (zda (zbd (K := K) rfl (zat (zdf (K := K) rfl) (by rfl) T.isinstance zaw (zaa (bv 0) (zaa (zdt (v := .ty "list") (by rfl) T.list zei rfl (by decide) (by decide)) zai (by rfl)) (by rfl)) (by decide) (by decide) (zag (by rfl)) (by rfl)) (fun _ => rfl))) (zee (zda (zbd (K := K) rfl (bv 0) (fun _ => rfl))))).pt (zaj (zqx (C := cl "NoWeb") X_NoWeb (hr.mono (by decide)) rfl rfl (zadg h0k) (by rfl) zmg (by decide) (by rfl))) zbb)
  (zah (zaz (i := 1) zjx rfl (Or.inl rfl) (zft zai) (by rfl) (.inl rfl))
  (zah (zhv PassesOwn.leaving rfl (zjr (K := K) rfl rfl T.enumerate (zaa (bv 0) zai (by rfl)) (by rfl)) (zge (K := K) (n := 2) rfl rfl (zbu (zbk (i := 2) zjx rfl (Or.inl rfl) (.inl rfl)) (zbu (zbk (i := 3) zjx rfl (Or.inl rfl) (.inl rfl)) zgd (by rfl)) (by rfl)) (by rfl) (by rfl))
   (zah (zbn (zfk (zav zakn (bv 2) (zmh (by rfl) T.MOST_KINDS (by decide)) (zbx _)) (zee (zda (zbd (K := K) rfl (zed D_is_kind_behind (hr.mono (by decide)) (by rfl) (zaa (bv 1) (zaa (bv 3) zai (by rfl)) (by rfl)) (by decide) (zag (by rfl)) (by rfl)) (fun _ => rfl))))).pt (zaj (zqx (C := cl "NoWeb") X_NoWeb (hr.mono (by decide)) rfl rfl (zadg h0k) (by rfl) (bv 2) (by decide) (by rfl))) zbb)
  (zaj (zex (zfu (K := K) rfl PySem.F.plainAttrs_list PySem.F.slot_list_append PySem.F.type_list_append zdr (bv 1) (zaa (zbc (zbv (K := K) rfl) (bv 3) zaf (fun _ _ => rfl)) zai (by rfl)) (by rfl) (by rfl) (by rfl) (zag (by rfl)) (by rfl)) (by rfl)))) (by intro _; rfl))
  (zaj (zax (zed D_copy_of_web (hr.mono (by decide)) (by rfl) (zaa (bv 0) zai (by rfl)) (by decide) (zag (by rfl)) (by rfl)))))))
  exact fn_x (f := zrn) ((zos (zadb (zis (zez (zfi (zhq (zad 0) zlh))) (zez (zfi (zad 0)))) (zqr (se_c fun _ => zem)) (zqq zck)) (zos (zqq (zbj (zhp zao))) (zos (zafk (zjo (zae (zad 0) zao)) (zks (zcl (zcl zhr))) (zos (zadb (zis (st_t (zap zaku (zad 2) (se_c fun _ => zab))) (zez (zfi (zcz (zae (zad 1) (zae (zad 3) zao)))))) (zqr (zad 2)) (zqq zck)) (zqq (zni (zbi (se_c fun _ => zab)))))) (zqq (zbm (zcz (zae (zad 0) zao)))))))) h
theorem zzh {f : Addr} {fd : FuncData} {cl : Str → Addr} (F : Fun K "is_web" "is_web" zin f fd) (T : Txt mg) (D_web_of : zph P w K mg base cl)  (X_NoWeb : XcOk P w K mg base "NoWeb" (cl "NoWeb")) : FnOk P w K mg base CX0 4 f fd ["thing"] (spD 1 zik) := by
  refine F.ok zzf (fun vs H Q E h => zec h) (fun cdv A outer s H vs Q E hr h => ?_)
  have hu := zir hr
  apply Exists.intro
  apply And.intro
  · refine' Bx.out (zah (zabx D_web_of X_NoWeb (hr.mono (by decide)) (by rfl) (zaa (bv 0) zai (by rfl)) rfl rfl (by rfl) (fun _ => (zaj (zax zek))) (by decide) (by decide) (zag (by rfl)) (by rfl) (by rfl))
  (zaj (zax zek)))
  exact fn_d (f := zuo) ((zar (zage (cl := cl) (zae (zad 0) zao) (zbm (se_c fun _ => zam))) (zbm (se_c fun _ => zam)))) h
theorem zrz {f : Addr} {fd : FuncData} (F : Fun K "_law_names" "_law_names" zeu f fd) (T : Txt mg)  : FnOk P w K mg base CX0 1 f fd ["_law_many", "_law_cell"] (spD 2 zeq) := by
  refine F.ok zrr (fun vs H Q E h => zec h) (fun cdv A outer s H vs Q E hr h => ?_)
  have hu := zir hr
  apply Exists.intro
  apply And.intro
  · refine' Bx.out (zah (zaz (i := 2) zch rfl (Or.inl rfl) zdu (by rfl) (.inl rfl))
  (zah (zaz (i := 3) zch rfl (Or.inl rfl) (zbc (zbv (K := K) rfl) (zdp (zaa zaf (zaa zaf (zaa zaf (zaa zaf (zaa zaf (zaa zaf (zaa zaf (zaa zaf zai (by rfl)) (by rfl)) (by rfl)) (by rfl)) (by rfl)) (by rfl)) (by rfl)) (by rfl))) (zaq zbo (zaq zcx (bv 1) zaf) zaf) (fun _ _ => rfl)) (by rfl) (.inl rfl))
  (zah (zaz (i := 4) zch rfl (Or.inl rfl) (zaq zbo (zaq zcx (bv 1) zaf) zaf) (by rfl) (.inl rfl))
  (zah (zaz (i := 5) zch rfl (Or.inl rfl) (zaq zgs (zbc (zbv (K := K) rfl) (bv 2) (zaq zbo (zaq zcx (bv 1) zaf) zaf) (fun _ _ => rfl)) (zaq zbo (zaq zcx (bv 1) zaf) zaf)) (by rfl) (.inl rfl))
  (zah (zaz (i := 6) zch rfl (Or.inl rfl) (zaq zbo (zaq zcx (bv 1) zaf) (zaq (zbg (K := K) rfl) (zat (zbq (K := K) rfl) (by rfl) T.len zcg (zaa (bv 5) zai (by rfl)) (by decide) (by decide) (zag (by rfl)) (by rfl)) zaf)) (by rfl) (.inl rfl))
  (zah (zaz (i := 7) zch rfl (Or.inl rfl) (zft zai) (by rfl) (.inl rfl))
  (zah (zhv PassesOwn.never rfl (zkj rfl T.range (zaa (bv 0) zai (by rfl)) (by rfl)) (zbk (i := 8) zch rfl (Or.inl rfl) (.inl rfl))
   (zah (zaz (i := 9) zch rfl (Or.inl rfl) (zbc (zbv (K := K) rfl) (bv 2) (zaq zbo (zaq (zbg (K := K) rfl) (bv 4) (zaq zgs (bv 3) (bv 8))) zaf) (fun _ _ => rfl)) (by rfl) (.inl rfl))
  (zaj (zbn (zav (zfb (K := K) rfl hr.units) (zaq zbo (bv 1) zaf) zaf (zbx _)) (zaj (zex (zfu (K := K) rfl PySem.F.plainAttrs_list PySem.F.slot_list_append PySem.F.type_list_append zdr (bv 7) (zaa (zaq (zbg (K := K) rfl) (zaq (zbg (K := K) rfl) (zcu (zkb (K := K) rfl) (bv 5) zef (zdk (bv 6))) (bv 9)) (zcu (zkb (K := K) rfl) (bv 5) (zdk (bv 6)) zef)) zai (by rfl)) (by rfl) (by rfl) (by rfl) (zag (by rfl)) (by rfl)) (by rfl))) (zaj (zbn (zav (zfb (K := K) rfl hr.units) (zaq zbo (bv 1) zaf) zaf (zbx _)) (zaj (zex (zfu (K := K) rfl PySem.F.plainAttrs_list PySem.F.slot_list_append PySem.F.type_list_append zdr (bv 7) (zaa (zaq (zbg (K := K) rfl) (zcu (zkb (K := K) rfl) (bv 5) zef (zdk (zaq zbo (zaq zgs (bv 8) (bv 3)) (zaq (zbg (K := K) rfl) (zat (zbq (K := K) rfl) (by rfl) T.len zcg (zaa (bv 5) zai (by rfl)) (by decide) (by decide) (zag (by rfl)) (by rfl)) zaf)))) (bv 9)) zai (by rfl)) (by rfl) (by rfl) (by rfl) (zag (by rfl)) (by rfl)) (by rfl))) (zaj (zex (zfu (K := K) rfl PySem.F.plainAttrs_list PySem.F.slot_list_append PySem.F.type_list_append zdr (bv 7) (zaa (zaq zgs (zbc (zbv (K := K) rfl) (bv 2) (zaq zbo (zaq (zbg (K := K) rfl) (bv 4) (zaq zcx (bv 8) zaf)) zaf) (fun _ _ => rfl)) (zaq (zbg (K := K) rfl) zaf (zaq zbo (zaq zgs (bv 8) (bv 3)) zaf))) zai (by rfl)) (by rfl) (by rfl) (by rfl) (zag (by rfl)) (by rfl)) (by rfl)))))))) (by intro _; rfl))
  (zaj (zax (bv 7))))))))))
  exact fn_d (f := zmk) ((zar (zbj (se_c fun _ => zbf)) (zar (zbj (zap zqg (zga (zae (se_c fun _ => zab) (zae (se_c fun _ => zab) (zae (se_c fun _ => zab) (zae (se_c fun _ => zab) (zae (se_c fun _ => zab) (zae (se_c fun _ => zab) (zae (se_c fun _ => zab) (zae (se_c fun _ => zab) zao))))))))) (zap zby (zap zdg (zad 1) (se_c fun _ => zab)) (se_c fun _ => zab)))) (zar (zbj (zap zby (zap zdg (zad 1) (se_c fun _ => zab)) (se_c fun _ => zab))) (zar (zbj (zap zqe (zbi (zap zby (zap zdg (zad 1) (se_c fun _ => zab)) (se_c fun _ => zab))) (zap zby (zap zdg (zad 1) (se_c fun _ => zab)) (se_c fun _ => zab)))) (zar (zbj (zap zby (zap zdg (zad 1) (se_c fun _ => zab)) (zap zds (zfa zfj (zae (zad 5) zao)) (se_c fun _ => zab)))) (zar (zbj (zhp zao)) (zar (zlv (zlu (zae (zad 0) zao)) zkf (zar (zbj (zbi (zap zby (zap zds (zad 4) (zap zqe (zad 3) (zad 8))) (se_c fun _ => zab)))) (zdi (st_t (zap zho (zap zby (zad 1) (se_c fun _ => zab)) (se_c fun _ => zab))) (zni (zap zds (zap zds (zlb (zad 5) zfr (zeo (zad 6))) (zad 9)) (zlb (zad 5) (zeo (zad 6)) zfr))) (zdi (st_t (zap zho (zap zby (zad 1) (se_c fun _ => zab)) (se_c fun _ => zab))) (zni (zap zds (zlb (zad 5) zfr (zeo (zap zby (zap zqe (zad 8) (zad 3)) (zap zds (zfa zfj (zae (zad 5) zao)) (se_c fun _ => zab))))) (zad 9))) (zni (zap zqe (zbi (zap zby (zap zds (zad 4) (zap zdg (zad 8) (se_c fun _ => zab))) (se_c fun _ => zab))) (zap zds (se_c fun _ => zab) (zap zby (zap zqe (zad 8) (zad 3)) (se_c fun _ => zab))))))))) zls)))))))) h
theorem zvr {f : Addr} {fd : FuncData} (F : Fun K "_law_web" "_law_web" zgn f fd) (T : Txt mg)  : FnOk P w K mg base CX0 1 f fd ["_law_cells", "_law_names_here"] (spD 2 zhw) := by
  refine F.ok zvn (fun vs H Q E h => zec h) (fun cdv A outer s H vs Q E hr h => ?_)
  have hu := zir hr
  apply Exists.intro
  apply And.intro
  · refine' Bx.out (zah (zaz (i := 2) zcw rfl (Or.inl rfl) (zft zai) (by rfl) (.inl rfl))
  (zah (zhv PassesOwn.never rfl (zjr (K := K) rfl rfl T.enumerate (zaa (bv 1) zai (by rfl)) (by rfl)) (zge (K := K) (n := 2) rfl rfl (zbu (zbk (i := 3) zcw rfl (Or.inl rfl) (.inl rfl)) (zbu (zbk (i := 4) zcw rfl (Or.inl rfl) (.inl rfl)) zgd (by rfl)) (by rfl)) (by rfl) (by rfl))
   (zah (zaz (i := 5) zcw rfl (Or.inl rfl) (zcu (zkb (K := K) rfl) (bv 1) zef (zdk (bv 3))) (by rfl) (.inl rfl))
  (zah (zaz (i := 6) zcw rfl (Or.inl rfl) (zaq zcx (zbc (zbv (K := K) rfl) (bv 0) (bv 3) (fun _ _ => rfl)) zaf) (by rfl) (.inl rfl))
  (zah (zaz (i := 7) zcw rfl (Or.inl rfl) (zft zai) (by rfl) (.inl rfl))
  (zah (zhv PassesOwn.never rfl (zkj rfl T.range (zaa (zat (zwe rfl) (by rfl) T.min zacc (zaa (zaq zbo (zbc (zbv (K := K) rfl) (bv 0) (bv 3) (fun _ _ => rfl)) zaf) (zaa (bv 3) zai (by rfl)) (by rfl)) (by decide) (by decide) (zag (by rfl)) (by rfl)) zai (by rfl)) (by rfl)) (zbk (i := 8) zcw rfl (Or.inl rfl) (.inl rfl))
   (zah (zaz (i := 9) zcw rfl (Or.inl rfl) (zaq zbo (bv 6) (zat (zbq (K := K) rfl) (by rfl) T.len zcg (zaa (bv 5) zai (by rfl)) (by decide) (by decide) (zag (by rfl)) (by rfl))) (by rfl) (.inl rfl))
  (zah (zaz (i := 6) zcw rfl (Or.inl rfl) (zaq zcx (bv 6) (zat (zbq (K := K) rfl) (by rfl) T.len zcg (zaa (bv 5) zai (by rfl)) (by decide) (by decide) (zag (by rfl)) (by rfl))) (by rfl) (.inl rfl))
  (zaj (zex (zfu (K := K) rfl PySem.F.plainAttrs_list PySem.F.slot_list_append PySem.F.type_list_append zdr (bv 7) (zaa (zfu (K := K) rfl PySem.F.plainAttrs_list PySem.F.slot_list_pop PySem.F.type_list_pop zaam (bv 5) (zaa (bv 9) zai (by rfl)) (by rfl) (by rfl) (by rfl) (zag (by rfl)) (by rfl)) zai (by rfl)) (by rfl) (by rfl) (by rfl) (zag (by rfl)) (by rfl)) (by rfl))))) (by intro _; rfl))
  (zaj (zex (zfu (K := K) rfl PySem.F.plainAttrs_list PySem.F.slot_list_append PySem.F.type_list_append zdr (bv 2) (zaa (zdp (zaa (bv 4) (zaa (bv 7) zai (by rfl)) (by rfl))) zai (by rfl)) (by rfl) (by rfl) (by rfl) (zag (by rfl)) (by rfl)) (by rfl))))))) (by intro _; rfl))
  (zaj (zax (bv 2)))))
  exact fn_d (f := zqz) ((zar (zbj (zhp zao)) (zar (zlv (zjo (zae (zad 1) zao)) (zks (zcl (zcl zhr))) (zar (zbj (zlb (zad 1) zfr (zeo (zad 3)))) (zar (zbj (zap zdg (zbi (zad 3)) (se_c fun _ => zab))) (zar (zbj (zhp zao)) (zar (zlv (zlu (zae (zfa zail (zae (zap zby (zbi (zad 3)) (se_c fun _ => zab)) (zae (zad 3) zao))) zao)) zkf (zar (zbj (zap zby (zad 6) (zfa zfj (zae (zad 5) zao)))) (zar (zbj (zap zdg (zad 6) (zfa zfj (zae (zad 5) zao)))) (zxj (zad 9))))) (zni (zga (zae (zad 4) (zae (zad 7) zao))))))))) zls))) h
theorem zvs {f : Addr} {fd : FuncData} (F : Fun K "_law_odd" "_law_odd" zgo f fd) (T : Txt mg)  : FnOk P w K mg base CX0 1 f fd ["_law_name", "_law_cell"] (spD 2 zcm) := by
  refine F.ok zvo (fun vs H Q E h => zec h) (fun cdv A outer s H vs Q E hr h => ?_)
  have hu := zir hr
  apply Exists.intro
  apply And.intro
  · refine' Bx.out (zah (zaz (i := 2) zgp rfl (Or.inl rfl) zdu (by rfl) (.inl rfl))
  (zah (zaz (i := 3) zgp rfl (Or.inl rfl) (zaq zbo (zaq zcx (bv 1) zaf) (zaq (zbg (K := K) rfl) (zat (zbq (K := K) rfl) (by rfl) T.len zcg (zaa (bv 0) zai (by rfl)) (by decide) (by decide) (zag (by rfl)) (by rfl)) zaf)) (by rfl) (.inl rfl))
  (zah (zaz (i := 4) zgp rfl (Or.inl rfl) (zbc (zbv (K := K) rfl) (bv 2) (zaq zbo (zaq zcx (bv 1) zaf) (zat (zbq (K := K) rfl) (by rfl) T.len zcg (zaa (bv 2) zai (by rfl)) (by decide) (by decide) (zag (by rfl)) (by rfl))) (fun _ _ => rfl)) (by rfl) (.inl rfl))
  (zah (zaz (i := 5) zgp rfl (Or.inl rfl) (zft (zaa zmg (zaa zek (zaa zaf (zaa zdu (zaa (zft (zaa (bv 0) zai (by rfl))) (zaa (zdp (zaa (bv 0) zai (by rfl))) (zaa zqv (zaa (zaq (zbg (K := K) rfl) (bv 0) zdu) (zaa (bv 4) (zaa (zaq (zbg (K := K) rfl) (bv 4) (bv 4)) zai (by rfl)) (by rfl)) (by rfl)) (by rfl)) (by rfl)) (by rfl)) (by rfl)) (by rfl)) (by rfl)) (by rfl))) (by rfl) (.inl rfl))
  (zah (zbn (zav zaae (zaq zbo (bv 1) zaf) zaf (zbx _)) (zaj (zax (zbc (zbv (K := K) rfl) (bv 5) (zaq zbo (bv 1) zaf) (fun _ _ => rfl)))) zbb)
  (zah (zbn (zav zaae (zaq zbo (bv 1) zaf) zaf (zbx _)) (zaj (zax (zaq (zbg (K := K) rfl) (zaq (zbg (K := K) rfl) (zcu (zkb (K := K) rfl) (bv 0) zef (zdk (bv 3))) (bv 4)) (zcu (zkb (K := K) rfl) (bv 0) (zdk (bv 3)) zef)))) zbb)
  (zaj (zax (zaq (zbg (K := K) rfl) (zaq (zbg (K := K) rfl) (zcu (zkb (K := K) rfl) (bv 0) zef (zdk (bv 3))) (bv 4)) (zcu (zkb (K := K) rfl) (bv 0) (zdk (zaq (zbg (K := K) rfl) (bv 3) zaf)) zef))))))))))
  exact fn_d (f := zmp) ((zar (zbj (se_c fun _ => zbf)) (zar (zbj (zap zby (zap zdg (zad 1) (se_c fun _ => zab)) (zap zds (zfa zfj (zae (zad 0) zao)) (se_c fun _ => zab)))) (zar (zbj (zbi (zap zby (zap zdg (zad 1) (se_c fun _ => zab)) (zfa zfj (zae (zad 2) zao))))) (zar (zbj (zhp (zae (se_c fun _ => zem) (zae (se_c fun _ => zam) (zae (se_c fun _ => zab) (zae (se_c fun _ => zbf) (zae (zhp (zae (zad 0) zao)) (zae (zga (zae (zad 0) zao)) (zae zxb (zae (zap zds (zad 0) (se_c fun _ => zbf)) (zae (zad 4) (zae (zap zds (zad 4) (zad 4)) zao)))))))))))) (zar (zdi (st_t (zap zaev (zap zby (zad 1) (se_c fun _ => zab)) (se_c fun _ => zab))) (zbm (zbi (zap zby (zad 1) (se_c fun _ => zab)))) zck) (zar (zdi (st_t (zap zaev (zap zby (zad 1) (se_c fun _ => zab)) (se_c fun _ => zab))) (zbm (zap zds (zap zds (zlb (zad 0) zfr (zeo (zad 3))) (zad 4)) (zlb (zad 0) (zeo (zad 3)) zfr))) zck) (zbm (zap zds (zap zds (zlb (zad 0) zfr (zeo (zad 3))) (zad 4)) (zlb (zad 0) (zeo (zap zds (zad 3) (se_c fun _ => zab))) zfr)))))))))) h
theorem zpi {f : Addr} {fd : FuncData} (F : Fun K "_law_elders" "_law_elders" zdz f fd) (T : Txt mg) (D_law_odd : zmv P w K mg base) : FnOk P w K mg base CX0 2 f fd ["_law_web_here", "_law_place", "_law_choice", "_law_cell"] (spD 4 zdx) := by
  refine F.ok zpd (fun vs H Q E h => zec h) (fun cdv A outer s H vs Q E hr h => ?_)
  have hu := zir hr
  apply Exists.intro
  apply And.intro
  · refine' Bx.out (zah (zaz (i := 4) zdm rfl (Or.inr rfl) (zep (zgi (K := K) rfl) (by rfl) T.list zei (zaa (zbc (zbv (K := K) rfl) (zbc (zbv (K := K) rfl) (bv 0) (bv 1) (fun _ _ => rfl)) zaf (fun _ _ => rfl)) zai (by rfl)) (by decide) (by decide) (zag (by rfl)) (by rfl)) (by rfl) (.inl rfl))
  (zah (zaz (i := 5) zdm rfl (Or.inl rfl) (zaq zbo (bv 3) (zaq (zbg (K := K) rfl) (zat (zbq (K := K) rfl) (by rfl) T.len zcg (zaa (bv 4) zai (by rfl)) (by decide) (by decide) (zag (by rfl)) (by rfl)) zaf)) (by rfl) (.inl rfl))
  (zah (zaz (i := 6) zdm rfl (Or.inl rfl) (zbc (zbv (K := K) rfl) (zbc (zbv (K := K) rfl) (bv 0) (zaq zbo (zaq zcx (bv 3) zaf) (zat (zbq (K := K) rfl) (by rfl) T.len zcg (zaa (bv 0) zai (by rfl)) (by decide) (by decide) (zag (by rfl)) (by rfl))) (fun _ _ => rfl)) zaf (fun _ _ => rfl)) (by rfl) (.inl rfl))
  (zah (zbn (zav (zfb (K := K) rfl hr.units) (bv 2) zaf (zbx _)) (zaj (zex (zfu (K := K) rfl PySem.F.plainAttrs_list PySem.F.slot_list_insert PySem.F.type_list_insert zmj (bv 4) (zaa (bv 5) (zaa (zbc (zbv (K := K) rfl) (zbc (zbv (K := K) rfl) (bv 0) (bv 1) (fun _ _ => rfl)) zaf (fun _ _ => rfl)) zai (by rfl)) (by rfl)) (by rfl) (by rfl) (by rfl) (zag (by rfl)) (by rfl)) (by rfl))) (zaj (zbn (zav (zfb (K := K) rfl hr.units) (bv 2) zaf (zbx _)) (zaj (zex (zfu (K := K) rfl PySem.F.plainAttrs_list PySem.F.slot_list_insert PySem.F.type_list_insert zmj (bv 4) (zaa (bv 5) (zaa (bv 6) zai (by rfl)) (by rfl)) (by rfl) (by rfl) (by rfl) (zag (by rfl)) (by rfl)) (by rfl))) (zaj (zbn (zav (zfb (K := K) rfl hr.units) (bv 2) zaf (zbx _)) (zaj (zex (zfu (K := K) rfl PySem.F.plainAttrs_list PySem.F.slot_list_insert PySem.F.type_list_insert zmj (bv 4) (zaa (bv 5) (zaa (zed D_law_odd (hr.mono (by decide)) (by rfl) (zaa (bv 6) (zaa (zaq zcx (bv 3) zaf) zai (by rfl)) (by rfl)) (by decide) (zag (by rfl)) (by rfl)) zai (by rfl)) (by rfl)) (by rfl) (by rfl) (by rfl) (zag (by rfl)) (by rfl)) (by rfl))) (zaj (zbn (zav (zfb (K := K) rfl hr.units) (bv 2) zaf (zbx _)) (zaj (zaz (i := 4) zdm rfl (Or.inr rfl) (zaq (zbg (K := K) rfl) (bv 4) (zjq (zhm (N' := ["_law_name", "_law_row", "_law_elders_here"]) (own := ["_law_name", "_law_row"]) (fr := [4]) (by kernel_rfl)) rfl (zlj (K := K) rfl (zcu (zkb (K := K) rfl) (bv 0) zef (zdk (bv 1)))) ?hb1 (by intro _; rfl))) (by rfl) (.inl rfl))) (zaj (zbn (zav (zfb (K := K) rfl hr.units) (bv 2) zaf (zbx _)) (zaj (zaz (i := 4) zdm rfl (Or.inr rfl) (zaq (zbg (K := K) rfl) (bv 4) (zcu (zkb (K := K) rfl) (bv 4) (zdk (bv 5)) zef)) (by rfl) (.inl rfl))) (zaj (zbn (zav (zfb (K := K) rfl hr.units) (bv 2) zaf (zbx _)) (zaj (zax (zep (zlx (K := K) rfl) (by rfl) T.tuple zil (zaa (bv 4) zai (by rfl)) (by decide) (by decide) (zag (by rfl)) (by rfl)))) (zaj (zax (zed D_law_odd (hr.mono (by decide)) (by rfl) (zaa (bv 6) (zaa (zaq zcx (bv 3) zaf) zai (by rfl)) (by rfl)) (by decide) (zag (by rfl)) (by rfl)))))))))))))))
  (zaj (zax (bv 4)))))))
    case hb1 => (intro cl C s H fp; refine' ⟨Bx.out (zge (K := K) (n := 2) rfl rfl (zbu (zbk (i := 0) zhd rfl (Or.inl rfl) (by first | exact .inl rfl | exact .inr rfl | assumption)) (zbu (zbk (i := 1) zhd rfl (Or.inl rfl) (by first | exact .inl rfl | exact .inr rfl | assumption)) zgd (by rfl)) (by rfl)) (by rfl) (by rfl)), Bx.out (zafu (zav (zqc (K := K) rfl) (bv 0) (bv 2) (by rfl))), Bx.out (bv 0)⟩)
  exact fn_d (f := zkv) ((zar (zbj (zfa zlq (zae (zap zqg (zbi (zad 1)) (se_c fun _ => zab)) zao))) (zar (zbj (zap zby (zad 3) (zap zds (zfa zfj (zae (zad 4) zao)) (se_c fun _ => zab)))) (zar (zbj (zap zqg (zbi (zap zby (zap zdg (zad 3) (se_c fun _ => zab)) (zfa zfj (zae (zad 0) zao)))) (se_c fun _ => zab))) (zar (zdi (st_t (zap zho (zad 2) (se_c fun _ => zab))) (zyj (zae (zad 5) (zae (zap zqg (zbi (zad 1)) (se_c fun _ => zab)) zao))) (zdi (st_t (zap zho (zad 2) (se_c fun _ => zab))) (zyj (zae (zad 5) (zae (zad 6) zao))) (zdi (st_t (zap zho (zad 2) (se_c fun _ => zab))) (zyj (zae (zad 5) (zae (zcz (zae (zad 6) (zae (zap zdg (zad 3) (se_c fun _ => zab)) zao))) zao))) (zdi (st_t (zap zho (zad 2) (se_c fun _ => zab))) (zbj (zap zds (zad 4) (zlw (zua (zlb (zad 0) zfr (zeo (zad 1)))) (zks (zcl (zcl zhr))) (zxh (zij (by decide) (zij (by decide) ztb))) (st_t (zap zabb (zad 0) (zad 2))) (zad 0)))) (zdi (st_t (zap zho (zad 2) (se_c fun _ => zab))) (zbj (zap zds (zad 4) (zlb (zad 4) (zeo (zad 5)) zfr))) (zdi (st_t (zap zho (zad 2) (se_c fun _ => zab))) (zbm (zfa zty (zae (zad 4) zao))) (zbm (zcz (zae (zad 6) (zae (zap zdg (zad 3) (se_c fun _ => zab)) zao)))))))))) zls))))) h
theorem zpj {f : Addr} {fd : FuncData} (F : Fun K "_law_spoilt" "_law_spoilt" zea f fd) (T : Txt mg) (D_law_elders : zky P w K mg base) (D_law_odd : zmv P w K mg base) : FnOk P w K mg base CX0 3 f fd ["_law_web_here", "_law_place", "_law_choice", "_law_cell"] (spD 4 zbh) := by
  refine F.ok zpe (fun vs H Q E h => zec h) (fun cdv A outer s H vs Q E hr h => ?_)
  have hu := zir hr
  apply Exists.intro
  apply And.intro
  · refine' Bx.out (zah (zaz (i := 4) zgw rfl (Or.inl rfl) (zbc (zbv (K := K) rfl) (zbc (zbv (K := K) rfl) (bv 0) (bv 1) (fun _ _ => rfl)) zaf (fun _ _ => rfl)) (by rfl) (.inl rfl))
  (zah (zaz (i := 5) zgw rfl (Or.inl rfl) (zep (zgi (K := K) rfl) (by rfl) T.list zei (zaa (zbc (zbv (K := K) rfl) (zbc (zbv (K := K) rfl) (bv 0) (bv 1) (fun _ _ => rfl)) zaf (fun _ _ => rfl)) zai (by rfl)) (by decide) (by decide) (zag (by rfl)) (by rfl)) (by rfl) (.inl rfl))
  (zah (zbn (zav zaae (bv 2) zaf (zbx _)) (zaj (zax (zdp (zaa (bv 4) (zaa (zed D_law_elders (hr.mono (by decide)) (by rfl) (zaa (bv 0) (zaa (bv 1) (zaa (bv 2) (zaa (bv 3) zai (by rfl)) (by rfl)) (by rfl)) (by rfl)) (by decide) (zag (by rfl)) (by rfl)) zai (by rfl)) (by rfl))))) zbb)
  (zah (zbn (zav (zfb (K := K) rfl hr.units) (bv 2) zaf (zbx _)) (zaj (zax (zdp (zaa (zed D_law_odd (hr.mono (by decide)) (by rfl) (zaa (bv 4) (zaa (bv 3) zai (by rfl)) (by rfl)) (by decide) (zag (by rfl)) (by rfl)) (zaa (bv 5) zai (by rfl)) (by rfl))))) zbb)
  (zah (zbn (zav (zfb (K := K) rfl hr.units) (bv 2) zaf (zbx _)) (zaj (zax (zdp (zaa (zbc (zbv (K := K) rfl) (zbc (zbv (K := K) rfl) (bv 0) (zaq zbo (bv 3) (zat (zbq (K := K) rfl) (by rfl) T.len zcg (zaa (bv 0) zai (by rfl)) (by decide) (by decide) (zag (by rfl)) (by rfl))) (fun _ _ => rfl)) zaf (fun _ _ => rfl)) (zaa (bv 5) zai (by rfl)) (by rfl))))) zbb)
  (zah (zbn (zav (zfb (K := K) rfl hr.units) (bv 2) zaf (zbx _)) (zaj (zax (zft (zaa (bv 4) (zaa (bv 5) zai (by rfl)) (by rfl))))) zbb)
  (zah (zbn (zav (zfb (K := K) rfl hr.units) (bv 2) zaf (zbx _)) (zaj (zax (zdp (zaa (bv 4) (zaa (bv 5) (zaa zmg zai (by rfl)) (by rfl)) (by rfl))))) zbb)
  (zah (zbn (zav (zfb (K := K) rfl hr.units) (bv 2) zaf (zbx _)) (zaj (zax (zdp (zaa (bv 4) zai (by rfl))))) zbb)
  (zaj (zax (zed D_law_odd (hr.mono (by decide)) (by rfl) (zaa (bv 4) (zaa (bv 3) zai (by rfl)) (by rfl)) (by decide) (zag (by rfl)) (by rfl))))))))))))
  exact fn_d (f := zhb) ((zar (zbj (zap zqg (zbi (zad 1)) (se_c fun _ => zab))) (zar (zbj (zfa zlq (zae (zap zqg (zbi (zad 1)) (se_c fun _ => zab)) zao))) (zar (zdi (st_t (zap zaev (zad 2) (se_c fun _ => zab))) (zbm (zga (zae (zad 4) (zae (zcz (zae (zad 0) (zae (zad 1) (zae (zad 2) (zae (zad 3) zao))))) zao)))) zck) (zar (zdi (st_t (zap zho (zad 2) (se_c fun _ => zab))) (zbm (zga (zae (zcz (zae (zad 4) (zae (zad 3) zao))) (zae (zad 5) zao)))) zck) (zar (zdi (st_t (zap zho (zad 2) (se_c fun _ => zab))) (zbm (zga (zae (zap zqg (zbi (zap zby (zad 3) (zfa zfj (zae (zad 0) zao)))) (se_c fun _ => zab)) (zae (zad 5) zao)))) zck) (zar (zdi (st_t (zap zho (zad 2) (se_c fun _ => zab))) (zbm (zhp (zae (zad 4) (zae (zad 5) zao)))) zck) (zar (zdi (st_t (zap zho (zad 2) (se_c fun _ => zab))) (zbm (zga (zae (zad 4) (zae (zad 5) (zae (se_c fun _ => zem) zao))))) zck) (zar (zdi (st_t (zap zho (zad 2) (se_c fun _ => zab))) (zbm (zga (zae (zad 4) zao))) zck) (zbm (zcz (zae (zad 4) (zae (zad 3) zao))))))))))))) h
theorem zsa {f : Addr} {fd : FuncData} (F : Fun K "_law_thing" "_law_thing" zev f fd) (T : Txt mg) (D_law_names : zmu P w K mg base) (D_law_spoilt : zkz P w K mg base) (D_law_web : zrx P w K mg base) : FnOk P w K mg base CX0 4 f fd ["_law_cells"] (spD 1 zer) := by
  refine F.ok zru (fun vs H Q E h => zec h) (fun cdv A outer s H vs Q E hr h => ?_)
  have hu := zir hr
  apply Exists.intro
  apply And.intro
  · refine' Bx.out (zah (zaz (i := 1) zcp rfl (Or.inl rfl) (zaq (zbg (K := K) rfl) zaf (zaq zbo (zbc (zbv (K := K) rfl) (bv 0) zaf (fun _ _ => rfl)) zaf)) (by rfl) (.inl rfl))
  (zah (zbn (zav (zfb (K := K) rfl hr.units) (zaq zbo (zbc (zbv (K := K) rfl) (bv 0) zaf (fun _ _ => rfl)) zaf) zaf (zbx _)) (zaj (zaz (i := 1) zcp rfl (Or.inl rfl) (zaq (zbg (K := K) rfl) zaf (zaq zbo (zbc (zbv (K := K) rfl) (bv 0) zaf (fun _ _ => rfl)) zaf)) (by rfl) (.inl rfl))) zbb)
  (zah (zaz (i := 2) zcp rfl (Or.inl rfl) (zed D_law_web (hr.mono (by decide)) (by rfl) (zaa (zcu (zkb (K := K) rfl) (bv 0) (zdk zaf) (zdk zaf)) (zaa (zed D_law_names (hr.mono (by decide)) (by rfl) (zaa (bv 1) (zaa (zbc (zbv (K := K) rfl) (bv 0) zaf (fun _ _ => rfl)) zai (by rfl)) (by rfl)) (by decide) (zag (by rfl)) (by rfl)) zai (by rfl)) (by rfl)) (by decide) (zag (by rfl)) (by rfl)) (by rfl) (.inl rfl))
  (zah (zyf (i := 3) (zhm (N' := ["_law_name", "_law_elders_here"]) (own := ["_law_name", "_law_elders_here"]) (fr := []) (by kernel_rfl)) rfl (zlj (K := K) rfl (bv 2)) ?hb1 (by rfl) zcp rfl rfl (by intro _; rfl))
  (zah (zbn (zav zwc (zaq zbo (zbc (zbv (K := K) rfl) (bv 0) zaf (fun _ _ => rfl)) zaf) zaf (zbx _)) (zah (zaz (i := 4) zcp rfl (Or.inl rfl) (zaq zbo (zbc (zbv (K := K) rfl) (bv 0) zaf (fun _ _ => rfl)) (bv 1)) (by rfl) (.inl rfl))
  (zaj (zui (bv 3) (bv 4) (zed D_law_spoilt (hr.mono (by decide)) (by rfl) (zaa (bv 2) (zaa (bv 4) (zaa (zaq zbo (zaq zcx (zbc (zbv (K := K) rfl) (bv 0) zaf (fun _ _ => rfl)) zaf) zaf) (zaa (zbc (zbv (K := K) rfl) (bv 0) zaf (fun _ _ => rfl)) zai (by rfl)) (by rfl)) (by rfl)) (by rfl)) (by decide) (zag (by rfl)) (by rfl)) (by intro _; rfl) (by rfl) (by rfl) (by rfl)))) zbb)
  (zah (zbn (zav zwc (zaq zbo (zbc (zbv (K := K) rfl) (bv 0) zaf (fun _ _ => rfl)) zaf) zaf (zbx _)) (zah (zaz (i := 4) zcp rfl (Or.inl rfl) (zaq zbo (zbc (zbv (K := K) rfl) (bv 0) zaf (fun _ _ => rfl)) (bv 1)) (by rfl) (.inl rfl))
  (zaj (zui (bv 3) (bv 4) (zed D_law_spoilt (hr.mono (by decide)) (by rfl) (zaa (bv 2) (zaa (bv 4) (zaa (zaq zbo (zaq zcx (zbc (zbv (K := K) rfl) (bv 0) zaf (fun _ _ => rfl)) zaf) zaf) (zaa (zbc (zbv (K := K) rfl) (bv 0) zaf (fun _ _ => rfl)) zai (by rfl)) (by rfl)) (by rfl)) (by rfl)) (by decide) (zag (by rfl)) (by rfl)) (by intro _; rfl) (by rfl) (by rfl) (by rfl)))) zbb)
  (zah (zaz (i := 5) zcp rfl (Or.inl rfl) (zft (zaa (zep (zlx (K := K) rfl) (by rfl) T.tuple zil (zaa (bv 3) zai (by rfl)) (by decide) (by decide) (zag (by rfl)) (by rfl)) (zaa (zft zai) (zaa zmg (zaa zdu (zaa zqv (zaa zaf (zaa zek (zaa (zbc (zbv (K := K) rfl) (bv 3) zaf (fun _ _ => rfl)) zai (by rfl)) (by rfl)) (by rfl)) (by rfl)) (by rfl)) (by rfl)) (by rfl)) (by rfl))) (by rfl) (.inl rfl))
  (zah (zbn (zav (zfb (K := K) rfl hr.units) (zaq zbo (zaq zcx (zbc (zbv (K := K) rfl) (bv 0) zaf (fun _ _ => rfl)) zaf) zaf) zaf (zbx _)) (zaj (zax (zbc (zbv (K := K) rfl) (bv 5) (zaq zbo (zaq zcx (zbc (zbv (K := K) rfl) (bv 0) zaf (fun _ _ => rfl)) zaf) zaf) (fun _ _ => rfl)))) zbb)
  (zaj (zax (bv 3)))))))))))
    case hb1 => (intro cl C s H fp; refine' ⟨Bx.out (zge (K := K) (n := 2) rfl rfl (zbu (zbk (i := 0) zib rfl (Or.inl rfl) (by first | exact .inl rfl | exact .inr rfl | assumption)) (zbu (zbk (i := 1) zib rfl (Or.inl rfl) (by first | exact .inl rfl | exact .inr rfl | assumption)) zgd (by rfl)) (by rfl)) (by rfl) (by rfl)), Bx.out zox, Bx.out (zdp (zaa (bv 0) (zaa (zep (zgi (K := K) rfl) (by rfl) T.list zei (zaa (bv 1) zai (by rfl)) (by decide) (by decide) (zag (by rfl)) (by rfl)) zai (by rfl)) (by rfl)))⟩)
  exact fn_d (f := zjh) ((zar (zbj (zap zds (se_c fun _ => zab) (zap zby (zbi (se_c fun _ => zab)) (se_c fun _ => zab)))) (zar (zdi (st_t (zap zho (zap zby (zbi (se_c fun _ => zab)) (se_c fun _ => zab)) (se_c fun _ => zab))) (zbj (zap zds (se_c fun _ => zab) (zap zby (zbi (se_c fun _ => zab)) (se_c fun _ => zab)))) zck) (zar (zbj (zcz (zae (zlb (zad 0) (zeo (se_c fun _ => zab)) (zeo (se_c fun _ => zab))) (zae (zcz (zae (zad 1) (zae (zbi (se_c fun _ => zab)) zao))) zao)))) (zar (zbj (zlw (zua (zad 2)) (zks (zcl (zcl zhr))) (zxh (zij (by decide) (zij (by decide) ztb))) zud (zga (zae (zad 0) (zae (zfa zlq (zae (zad 1) zao)) zao))))) (zar (zdi (st_t (zap zwz (zap zby (zbi (se_c fun _ => zab)) (se_c fun _ => zab)) (se_c fun _ => zab))) (zar (zbj (zap zby (zbi (se_c fun _ => zab)) (zad 1))) (zyb (zad 4) (zcz (zae (zad 2) (zae (zad 4) (zae (zap zby (zap zdg (zbi (se_c fun _ => zab)) (se_c fun _ => zab)) (se_c fun _ => zab)) (zae (zbi (se_c fun _ => zab)) zao))))))) zck) (zar (zdi (st_t (zap zwz (zap zby (zbi (se_c fun _ => zab)) (se_c fun _ => zab)) (se_c fun _ => zab))) (zar (zbj (zap zby (zbi (se_c fun _ => zab)) (zad 1))) (zyb (zad 4) (zcz (zae (zad 2) (zae (zad 4) (zae (zap zby (zap zdg (zbi (se_c fun _ => zab)) (se_c fun _ => zab)) (se_c fun _ => zab)) (zae (zbi (se_c fun _ => zab)) zao))))))) zck) (zar (zbj (zhp (zae (zfa zty (zae (zad 3) zao)) (zae (zhp zao) (zae (se_c fun _ => zem) (zae (se_c fun _ => zbf) (zae zxb (zae (se_c fun _ => zab) (zae (se_c fun _ => zam) (zae (zbi (se_c fun _ => zab)) zao)))))))))) (zar (zdi (st_t (zap zho (zap zby (zap zdg (zbi (se_c fun _ => zab)) (se_c fun _ => zab)) (se_c fun _ => zab)) (se_c fun _ => zab))) (zbm (zbi (zap zby (zap zdg (zbi (se_c fun _ => zab)) (se_c fun _ => zab)) (se_c fun _ => zab)))) zck) zls))))))))) h
theorem ztq {f : Addr} {fd : FuncData} (F : Fun K "_law_good" "_law_good" zfo f fd) (T : Txt mg)  : FnOk P w K mg base CX0 1 f fd ["_law_row", "_law_ahead"] (spD 2 zcj) := by
  refine F.ok zto (fun vs H Q E h => zec h) (fun cdv A outer s H vs Q E hr h => ?_)
  have hu := zir hr
  apply Exists.intro
  apply And.intro
  · refine' Bx.out (zah (zbn (zfk (zda (zbd (K := K) rfl (zat (zdf (K := K) rfl) (by rfl) T.isinstance zaw (zaa (bv 0) (zaa (zdt (v := .ty "tuple") (by rfl) T.tuple zil rfl (by decide) (by decide)) zai (by rfl)) (by rfl)) (by decide) (by decide) (zag (by rfl)) (by rfl)) (fun _ => rfl))) (zee (zav (zuc (K := K) rfl hr.units) (zat (zbq (K := K) rfl) (by rfl) T.len zcg (zaa (bv 0) zai (by rfl)) (by decide) (by decide) (zag (by rfl)) (by rfl)) zaf (zbx _)))).pt (zaj (zax zek)) zbb)
  (zah (zbn (zfk (zda (zbd (K := K) rfl (zat (zdf (K := K) rfl) (by rfl) T.isinstance zaw (zaa (zbc (zbv (K := K) rfl) (bv 0) zaf (fun _ _ => rfl)) (zaa (zdt (v := .ty "str") (by rfl) T.str zpc rfl (by decide) (by decide)) zai (by rfl)) (by rfl)) (by decide) (by decide) (zag (by rfl)) (by rfl)) (fun _ => rfl))) (zfk (zda (zqw zaaf zaaf zaf (zat (zbq (K := K) rfl) (by rfl) T.len zcg (zaa (zbc (zbv (K := K) rfl) (bv 0) zaf (fun _ _ => rfl)) zai (by rfl)) (by decide) (by decide) (zag (by rfl)) (by rfl)) zaf (by with_unfolding_all rfl))) (zee (zav (zacu (K := K) rfl) (zbc (zbv (K := K) rfl) (bv 0) zaf (fun _ _ => rfl)) (bv 1) (by rfl))))).pt (zaj (zax zek)) zbb)
  (zah (zhv PassesOwn.never rfl (zyc (zbc (zbv (K := K) rfl) (bv 0) zaf (fun _ _ => rfl))) (zbk (i := 2) zgx rfl (Or.inl rfl) (.inl rfl))
   (zaj (zbn (zav ztk (bv 2) zdu (by rfl)) (zaj (zax zek)) zbb)) (by intro _; rfl))
  (zah (zbn (zfk (zda (zbd (K := K) rfl (zat (zdf (K := K) rfl) (by rfl) T.isinstance zaw (zaa (zbc (zbv (K := K) rfl) (bv 0) zaf (fun _ _ => rfl)) (zaa (zdt (v := .ty "list") (by rfl) T.list zei rfl (by decide) (by decide)) zai (by rfl)) (by rfl)) (by decide) (by decide) (zag (by rfl)) (by rfl)) (fun _ => rfl))) (zee (zav zwc (zat (zbq (K := K) rfl) (by rfl) T.len zcg (zaa (zbc (zbv (K := K) rfl) (bv 0) zaf (fun _ _ => rfl)) zai (by rfl)) (by decide) (by decide) (zag (by rfl)) (by rfl)) zaf (zbx _)))).pt (zaj (zax zek)) zbb)
  (zah (zhv PassesOwn.never rfl (zjr (K := K) rfl rfl T.enumerate (zaa (zbc (zbv (K := K) rfl) (bv 0) zaf (fun _ _ => rfl)) zai (by rfl)) (by rfl)) (zge (K := K) (n := 2) rfl rfl (zbu (zbk (i := 3) zgx rfl (Or.inl rfl) (.inl rfl)) (zbu (zbk (i := 4) zgx rfl (Or.inl rfl) (.inl rfl)) zgd (by rfl)) (by rfl)) (by rfl) (by rfl))
   (zaj (zbn (zfk (zda (zbd (K := K) rfl (zat (zdf (K := K) rfl) (by rfl) T.isinstance zaw (zaa (bv 4) (zaa (zdt (v := .ty "str") (by rfl) T.str zpc rfl (by decide) (by decide)) zai (by rfl)) (by rfl)) (by decide) (by decide) (zag (by rfl)) (by rfl)) (fun _ => rfl))) (zfk (zav (zqc (K := K) rfl) (bv 4) (bv 1) (by rfl)) (zee (zav (zxw (K := K) rfl hr.units) (bv 4) (zcu (zkb (K := K) rfl) (zbc (zbv (K := K) rfl) (bv 0) zaf (fun _ _ => rfl)) zef (zdk (bv 3))) (by rfl))))).pt (zaj (zax zek)) zbb)) (by intro _; rfl))
  (zaj (zax zek)))))))
  exact fn_d (f := ziz) ((zar (zdi (zis (zez (zfi (zhq (zad 0) zqi))) (st_t (zap zaba (zfa zfj (zae (zad 0) zao)) (se_c fun _ => zab)))) (zbm (se_c fun _ => zam)) zck) (zar (zdi (zis (zez (zfi (zhq (zbi (se_c fun _ => zab)) zsy))) (zis (zez (st_t (zop zaay zaay (se_c fun _ => zab) (zfa zfj (zae (zbi (se_c fun _ => zab)) zao)) (se_c fun _ => zab)))) (st_t (zap zabb (zbi (se_c fun _ => zab)) (zad 1))))) (zbm (se_c fun _ => zam)) zck) (zar (zlv (zadd (zbi (se_c fun _ => zab))) zkf (zdi (st_t (zap zym (zad 2) (se_c fun _ => zbf))) (zbm (se_c fun _ => zam)) zck)) (zar (zdi (zis (zez (zfi (zhq (zbi (se_c fun _ => zab)) zlh))) (st_t (zap zwz (zfa zfj (zae (zbi (se_c fun _ => zab)) zao)) (se_c fun _ => zab)))) (zbm (se_c fun _ => zam)) zck) (zar (zlv (zjo (zae (zbi (se_c fun _ => zab)) zao)) (zks (zcl (zcl zhr))) (zdi (zis (zez (zfi (zhq (zad 4) zsy))) (zis (st_t (zap zabb (zad 4) (zad 1))) (st_t (zap zya (zad 4) (zlb (zbi (se_c fun _ => zab)) zfr (zeo (zad 3))))))) (zbm (se_c fun _ => zam)) zck)) (zbm (se_c fun _ => zam)))))))) h
theorem zvt {f : Addr} {fd : FuncData} (F : Fun K "_law_due" "_law_due" zgq f fd) (T : Txt mg) (D_law_good : zns P w K mg base) : FnOk P w K mg base CX0 2 f fd ["_law_thing_here"] (spD 1 zeh) := by
  refine F.ok zvp (fun vs H Q E h => zec h) (fun cdv A outer s H vs Q E hr h => ?_)
  have hu := zir hr
  apply Exists.intro
  apply And.intro
  · refine' Bx.out (zah (zbn (zfk (zda (zbd (K := K) rfl (zat (zdf (K := K) rfl) (by rfl) T.isinstance zaw (zaa (bv 0) (zaa (zdt (v := .ty "list") (by rfl) T.list zei rfl (by decide) (by decide)) zai (by rfl)) (by rfl)) (by decide) (by decide) (zag (by rfl)) (by rfl)) (fun _ => rfl))) (zee (zav (zajn (K := K) rfl hr.units) (bv 0) (zft zai) (zbx _)))).pt (zaj (zax (zdp (zaa zdu (zaa zmg zai (by rfl)) (by rfl))))) zbb)
  (zah (zaz (i := 1) zio rfl (Or.inl rfl) (zft zai) (by rfl) (.inl rfl))
  (zah (zhv PassesOwn.never rfl (zjr (K := K) rfl rfl T.enumerate (zaa (bv 0) zai (by rfl)) (by rfl)) (zge (K := K) (n := 2) rfl rfl (zbu (zbk (i := 2) zio rfl (Or.inl rfl) (.inl rfl)) (zbu (zbk (i := 3) zio rfl (Or.inl rfl) (.inl rfl)) zgd (by rfl)) (by rfl)) (by rfl) (by rfl))
   (zah (zbn (zfk (zav zwc (bv 2) zaf (zbx _)) (zee (zda (zbd (K := K) rfl (zed D_law_good (hr.mono (by decide)) (by rfl) (zaa (bv 3) (zaa (bv 1) zai (by rfl)) (by rfl)) (by decide) (zag (by rfl)) (by rfl)) (fun _ => rfl))))).pt (zaj (zax (zdp (zaa zdu (zaa (bv 2) zai (by rfl)) (by rfl))))) zbb)
  (zaj (zex (zfu (K := K) rfl PySem.F.plainAttrs_list PySem.F.slot_list_append PySem.F.type_list_append zdr (bv 1) (zaa (zbc (zbv (K := K) rfl) (bv 3) zaf (fun _ _ => rfl)) zai (by rfl)) (by rfl) (by rfl) (by rfl) (zag (by rfl)) (by rfl)) (by rfl)))) (by intro _; rfl))
  (zaj (zax (zdp (zaa zdu (zaa (zep (zgi (K := K) rfl) (by rfl) T.list zei (zaa (bv 0) zai (by rfl)) (by decide) (by decide) (zag (by rfl)) (by rfl)) zai (by rfl)) (by rfl))))))))
  exact fn_d (f := zjv) ((zar (zdi (zis (zez (zfi (zhq (zad 0) zlh))) (st_t (zap zajo (zad 0) (zhp zao)))) (zbm (zga (zae (se_c fun _ => zbf) (zae (se_c fun _ => zem) zao)))) zck) (zar (zbj (zhp zao)) (zar (zlv (zjo (zae (zad 0) zao)) (zks (zcl (zcl zhr))) (zar (zdi (zis (st_t (zap zwz (zad 2) (se_c fun _ => zab))) (zez (zfi (zcz (zae (zad 3) (zae (zad 1) zao)))))) (zbm (zga (zae (se_c fun _ => zbf) (zae (zad 2) zao)))) zck) (zni (zbi (se_c fun _ => zab))))) (zbm (zga (zae (se_c fun _ => zbf) (zae (zfa zlq (zae (zad 0) zao)) zao)))))))) h
theorem ztr {f : Addr} {fd : FuncData} {cl : Str → Addr} (F : Fun K "_law_told" "_law_told" zfp f fd) (T : Txt mg) (D_web_of : zph P w K mg base cl) (XK : XKit P w K mg base cl ["NoWeb"] ["NoBook", "NoKind", "NoName", "NoWeb"] "CallError") : FnOk P w K mg base CX0 4 f fd ["_law_thing_here"] (spD 1 zcv) := by
  refine F.ok ztp (fun vs H Q E h => zec h) (fun cdv A outer s H vs Q E hr h => ?_)
  have hu := zir hr
  apply Exists.intro
  apply And.intro
  · refine' Bx.out (zah (zaz (i := 2) zgy rfl (Or.inl rfl) (zdp (zaa zdu (zaa zdu zai (by rfl)) (by rfl))) (by rfl) (.inl rfl))
  (zah (zabw (i := 2) (j := 1) D_web_of XK (hr.mono (by decide)) (by rfl) (zaa (bv 0) zai (by rfl)) zgy rfl rfl rfl rfl rfl rfl (by rfl) (fun _ _ _ hxm hxcl => (zaj (zbn (zye (zbd (K := K) rfl (zat (zmi (K := K) rfl hxm hxcl) (by rfl) T.isinstance zaw (zaa (bv 1) (zaa (zlk (by rfl) (XK.mgk "NoWeb" (by decide)) (by decide)) zai (by rfl)) (by rfl)) (by decide) (by decide) (zag (by rfl)) (by rfl)) (fun _ => rfl)) (zye (zbd (K := K) rfl (zat (zmi (K := K) rfl hxm hxcl) (by rfl) T.isinstance zaw (zaa (bv 1) (zaa (zdt (v := .ty "ValueError") (by rfl) XK.mgV zhu rfl (by decide) (by decide)) zai (by rfl)) (by rfl)) (by decide) (by decide) (zag (by rfl)) (by rfl)) (fun _ => rfl)) (zabu (zda (zbd (K := K) rfl (zat (zmi (K := K) rfl hxm hxcl) (by rfl) T.isinstance zaw (zaa (bv 1) (zaa (zdp (zaa (zlk (by rfl) (XK.mgk "NoKind" (by decide)) (by decide)) (zaa (zlk (by rfl) (XK.mgk "NoBook" (by decide)) (by decide)) (zaa (zlk (by rfl) (XK.mgk "NoName" (by decide)) (by decide)) zai (by rfl)) (by rfl)) (by rfl))) zai (by rfl)) (by rfl)) (by decide) (by decide) (zag (by rfl)) (by rfl)) (fun _ => rfl)))))).pt (zaj (zaz (i := 2) zgy rfl (Or.inl rfl) (zdp (zaa zdu (zaa (zabv (K := K) rfl hxm (bv 1) (by rfl)) zai (by rfl)) (by rfl))) (by rfl) (.inl rfl))) zbb))) (by decide) (by decide) (zag (by rfl)) (by rfl) (by rfl))
  (zaj (zax (bv 2)))))
  exact fn_d (f := zja) ((zar (zbj (zga (zae (se_c fun _ => zbf) (zae (se_c fun _ => zbf) zao)))) (zar (zagc (cl := cl) 3 (by decide) (zae (zad 0) zao) (by intro xc hxc xd; exact (zajg (zyl (ztj (zafx (XK.kit xc hxc "NoWeb" (by decide)))) (zyl (ztj (zafy (XK.val xc hxc))) (zagf (ztj (zaby (zagg (XK.kit xc hxc "NoKind" (by decide)) (XK.kit xc hxc "NoBook" (by decide)) (XK.kit xc hxc "NoName" (by decide)))))))) (zagb (i := 2) (j := 1) (zaga (zuj (zajc (se_c fun _ => zbf)) (zuj zajf zafz))) (by decide)) (zaje zafw)))) zls))) h
end
end Bc
namespace Bc
open PySem L2
noncomputable def knB (N : List Str) : PyData → Bool
  | .str z => decide (z ∈ N)
  | _ => false
noncomputable def memS (ds : List PyData) (k : Str) : Bool := ds.any fun e => PyData.eqv e (.str k)
theorem zsb (xs : List Str) (k : Str) : memS (xs.map .str) k = decide (k ∈ xs) := zoz xs k
theorem zzi (N : List Str) (d : PyData) : ((N.map PyData.str).any fun e => PyData.eqv e d) = knB N d := by
  cases d with
  | str z => exact zoz N z
  | _ =>
    rw [List.any_map]
    exact List.any_eq_false.mpr fun x _ => by simp [PyData.eqv]
section
variable {a b : EF} {env : DEnv}
theorem zaju {neg : Bool} {d c : PyData} {ds : List PyData} {f1 f2 : Bool} {b1 b2 : List Nat} (ha : a env = some ⟨d, f1, b1⟩) (hb : b env = some ⟨c, f2, b2⟩) (hi : zit c = some ds) (h : zmf d = true ∨ ds.all zmf = true) : eOp (inTD neg) a b env = some (vb (if neg then !(ds.any fun e => PyData.eqv e d) else ds.any fun e => PyData.eqv e d)) := by
  unfold eOp; rw [ha, hb]
  simp only [Option.bind_some, inTD]
  rw [hi]
  simp only
  rw [if_pos h]; rfl
end
theorem zzj (xs : List Str) : (xs.map PyData.str).all zmf = true := by
  rw [List.all_map]; exact List.all_eq_true.mpr fun _ _ => rfl
end Bc
namespace Bc
open PySem L2
end Bc
namespace Bc
open PySem L2
noncomputable def unS : List PyData → Option (List Str)
  | [] => some []
  | .str x :: r => (unS r).map fun xs => x :: xs
  | _ :: _ => none
theorem zlm : ∀ {ds : List PyData} {xs : List Str}, unS ds = some xs → ds = xs.map .str
  | [], xs, h => by cases h; rfl
  | d :: r, xs, h => by
    cases d with
    | str x =>
      obtain ⟨ys, hy, rfl⟩ := Option.map_eq_some_iff.mp h
      rw [zlm hy]; rfl
    | _ => cases h
theorem zpk : ∀ {ds : List PyData}, unS ds = none → ∃ d ∈ ds, zmf d = false
  | [], h => by cases h
  | d :: r, h => by
    cases d with
    | str x =>
      have : unS r = none := by
        cases hr : unS r with
        | none => rfl
        | some xs => unfold unS at h; rw [hr] at h; cases h
      obtain ⟨e, he, f⟩ := zpk this
      exact ⟨e, List.mem_cons_of_mem _ he, f⟩
    | _ => exact ⟨_, List.mem_cons_self, rfl⟩
noncomputable def zald (W : Web) (k o : Str) : PyData → Bool
  | .list ds => match unS ds with
    | some xs => isH W k o xs
    | none => false
  | _ => false
theorem zags {α : Type} {l : List α} {x : α} (h : x ∈ l) : ∃ i, (x, i) ∈ l.zipIdx := by
  obtain ⟨i, hi⟩ := List.getElem?_of_mem h
  exact ⟨i, List.mem_zipIdx_iff_getElem?.mpr hi⟩
theorem zsc {N : List Str} {ds : List PyData} (hl : ds.length < 4000) : zcs [zak N, .list ds] = some (.bool (match unS ds with | some xs => (xs.all fun x => decide (x ∈ N)) && decide xs.Nodup | none => false), false) := by
  have c : zjf (gN 0) zki (eOp (inTD false) (eVar 0) (eVar 1)) [.no, .pl (zak N)] (ds.map id) = some (ds.map fun d => PyData.bool (knB N d)) := by
    refine zjs (enc := id) (out := fun d => PyData.bool (knB N d)) fun d _ => ⟨[.pl d, .pl (zak N)], rfl, rfl, vb (knB N d), ?_, rfl⟩
    rw [zaju (neg := false) (c := zak N) (ds := N.map .str) (f1 := false) (f2 := false) (b1 := []) (b2 := []) rfl rfl rfl (.inr (zzj _)), zzi]
    rfl
  rw [List.map_id] at c
  have al := zajr (f := knB N) (zmn (env := [.pl (zak N), .pl (.list ds)]) (own := ["thing"]) (fr := [0]) (fi := zgc (eVar 1)) (ds := ds) (bs := []) rfl (by omega) c)
  have t := zri al
  cases hu : unS ds with
  | none =>
    obtain ⟨d, hd, f⟩ := zpk hu
    have : ds.all (knB N) = false := by
      rw [← Bool.not_eq_true, List.all_eq_true]
      intro h
      have := h d hd
      cases d <;> first | cases this | (exact absurd (show true = false from f) (by decide))
    rw [this] at t
    exact zde rfl (zdc (if_t t rfl))
  | some xs =>
    have e := zlm hu
    subst e
    have ea : (xs.map PyData.str).all (knB N) = xs.all fun x => decide (x ∈ N) := by rw [List.all_map]; rfl
    rw [ea] at t
    show _ = some (PyData.bool ((xs.all fun x => decide (x ∈ N)) && decide xs.Nodup), false)
    cases hx : (xs.all fun x => decide (x ∈ N)) with
    | false =>
      rw [hx] at t
      exact zde rfl (zdc (if_t t rfl))
    | true =>
      rw [hx] at t
      refine zde rfl (zan (if_f t rfl) (zgz (bs := []) ?_))
      rw [List.length_map] at hl
      show eOp eqD (zlz (eVar 1)) (eCB lenD (zac (eVar 1) aNil)) [.pl (zak N), .pl (zak xs)] = _
      have e1 : zlz (eVar 1) [.pl (zak N), .pl (zak xs)] = some (vi (unl [] (xs.map Sum.inr))) := by
        show ((ztd (xs.map .str)).bind fun ks => if (xs.map PyData.str).length < 4000 then some (⟨.int (unl [] ks), false, []⟩ : Val) else none) = _
        rw [zrj, Option.bind_some, if_pos (by rw [List.length_map]; exact hl)]
      have e2 : eCB lenD (zac (eVar 1) aNil) [.pl (zak N), .pl (zak xs)] = some (vi (xs.map PyData.str).length) := zno rfl
      rw [zpb e1 e2, Bool.true_and]
      have : (((unl [] (xs.map Sum.inr) : Nat) : Int) == (((xs.map PyData.str).length : Nat) : Int)) = decide xs.Nodup := by
        rw [Bool.eq_iff_iff, beq_iff_eq, decide_eq_true_iff, List.length_map]
        have q := zadk (xs.map Sum.inr) []
        rw [List.length_map] at q
        constructor
        · intro z; exact (zyy xs).mp (q.mp (by omega)).1
        · intro z
          have := q.mpr ⟨(zyy xs).mpr z, fun _ _ y => by simp at y⟩
          omega
      rw [this]
end Bc
namespace Bc
open PySem L2
end Bc
namespace Bc
open PySem L2
end Bc
namespace Bc
open PySem L2
noncomputable def LowS (ks : List Str) : Prop := ∀ k ∈ ks, PyData.strOk k = true
end Bc
namespace Bc
open PySem L2
end Bc
namespace Bc
open PySem L2
theorem zadm {a b : EF} {env : DEnv} {x y : List Str} {f1 f2 : Bool} {b1 b2 : List Nat} (ha : a env = some ⟨zak x, f1, b1⟩) (hb : b env = some ⟨zak y, f2, b2⟩) (h : x.length + y.length ≤ 100000) : eOp addD a b env = some ⟨zak (x ++ y), true, b1 ++ b2⟩ := by
  unfold eOp
  rw [ha, hb]
  show ((if (x.map PyData.str).length + (y.map PyData.str).length ≤ 100000 then some (PyData.list (x.map .str ++ y.map .str), true) else none).bind fun z => some (⟨z.1, z.2, bsOf z.1 (b1 ++ b2)⟩ : Val)) = _
  rw [if_pos (by rw [List.length_map, List.length_map]; exact h), ← List.map_append]
  rfl
theorem zale {a : EF} {l h : PF'} {env : DEnv} {x y : List Str} {f : Bool} {bs : List Nat} {lo hi : Option Int} (ha : a env = some ⟨zak x, f, bs⟩) (hl : l env = some lo) (hh : h env = some hi) (e : cutD (x.map .str) lo hi = y.map .str) : eSl a l h env = some ⟨zak y, true, bs⟩ := by
  unfold eSl
  rw [ha, hl, hh]
  show (some (PyData.list (cutD (x.map .str) lo hi), true)).bind (fun z => some (⟨z.1, z.2, bsOf z.1 bs⟩ : Val)) = _
  rw [e]
  rfl
theorem zagt (ds : List PyData) (k : Nat) : cutD ds (some (k : Int)) none = ds.drop k := by
  unfold cutD
  have e1 : HT.sIx ds.length ds.length none = ds.length := rfl
  rw [e1, HT.sIx_nat]
  rcases Nat.le_total k ds.length with h | h
  · rw [Nat.min_eq_left h, List.take_of_length_le (by rw [List.length_drop]; exact Nat.le_refl _)]
  · rw [Nat.min_eq_right h, List.drop_length, List.drop_of_length_le h, List.take_nil]
end Bc
namespace Bc
open PySem L2
end Bc
namespace Bc
open PySem L2
theorem zagu {a b : EF} {env : DEnv} {i j : Int} (ha : a env = some (vi i)) (hb : b env = some (vi j)) : eOp gtD a b env = some (vb (decide (j < i))) := by
  unfold eOp; rw [ha, hb]; rfl
end Bc
namespace Bc
open PySem L2
section
variable {A0 A2 A6 s8 s9 : Sl} {ds : List PyData} {xs : List Str} {r : Int} {n at_ : Nat}
end
end Bc
namespace Bc
open PySem L2
noncomputable def Hd (d : PyData) (s : Sl) : Prop := s = .pl d ∨ s = .ac d
end Bc
namespace Bc
open PySem L2
section
variable {A0 A2 A6 s8 s9 : Sl} {ds : List PyData} {xs : List Str} {r : Int} {n at_ : Nat}
end
end Bc
namespace Bc
open PySem L2
end Bc
namespace Bc
open PySem L2
end Bc
namespace Bc
open PySem L2
end Bc
namespace Bc
open PySem L2
end Bc
namespace Bc
open PySem L2
end Bc
namespace Bc
open PySem L2
end Bc
namespace Bc
open PySem L2
theorem zacd {d : PyData} (s : SeqAt.shaped d = true) : neD d d = some (.bool false, false) := by
  unfold neD eqOk
  rw [s, Bool.and_self, Bool.or_true, if_pos rfl, PySem.SeqAt.eqv_refl _ (SeqAt.canLay_of_shaped s)]
  rfl
theorem zajv {a b : EF} {env : DEnv} {d : PyData} {f1 f2 : Bool} {b1 b2 : List Nat} (ha : a env = some ⟨d, f1, b1⟩) (hb : b env = some ⟨d, f2, b2⟩) (s : SeqAt.shaped d = true) : zas (eOp neD a b) env = some false := by
  refine zdn ?_
  unfold eOp; rw [ha, hb]
  simp only [Option.bind_some]
  rw [zacd s]; rfl
end Bc
namespace Bc
open PySem L2
theorem zajw {f g : TF} {env : DEnv} (h1 : f env = some false) (h2 : g env = some false) : tOrF f g env = some false := by unfold tOrF; rw [h1]; exact h2
end Bc
namespace Bc
open PySem L2
end Bc
namespace Bc
open PySem L2
end Bc
namespace Bc
open PySem L2
end Bc
namespace Bc
open PySem L2
end Bc
namespace Bc
open PySem L2
end Bc
namespace Bc
open PySem L2
section
variable {d : PyData} {n : Nat}
end
end Bc
namespace Bc
open PySem L2
end Bc
namespace Bc
open PySem L2
end Bc
namespace Bc
open PySem L2
end Bc
namespace Bc
open PySem L2
section
variable {d : PyData} {n : Nat}
end
end Bc
namespace Bc
open PySem L2
end Bc
namespace Bc
open PySem L2
end Bc
namespace Bc
open PySem L2
end Bc
namespace Bc
open PySem L2
end Bc
namespace Bc
open PySem L2
end Bc
namespace Bc
open PySem L2
end Bc
namespace Bc
open PySem L2
end Bc
namespace Bc
open PySem L2
end Bc
namespace Bc
open PySem L2
end Bc
namespace Bc
open PySem L2
end Bc
namespace Bc
open PySem L2
end Bc
namespace Bc
open PySem L2
theorem zkn {f g : SFX} {env e1 : DEnv} {o : Option OutX} (h : f env = some (.ok (.nx e1))) (k : g e1 = o) : xSeq f g env = o := by unfold xSeq; rw [h]; exact k
theorem zzk {f g : SFX} {env : DEnv} {c : Str} {d : PyData} (h : f env = some (.rx c d)) : xSeq f g env = some (.rx c d) := by unfold xSeq; rw [h]; rfl
theorem zalf {t : TF} {f g : SFX} {env : DEnv} {o : Option OutX} (h : t env = some true) (k : f env = o) : xIf t f g env = o := by unfold xIf; rw [h]; exact k
theorem zalg {t : TF} {f g : SFX} {env : DEnv} {o : Option OutX} (h : t env = some false) (k : g env = o) : xIf t f g env = o := by unfold xIf; rw [h]; exact k
theorem zadn {f : SF} {env : DEnv} {o : Out} (h : f env = some o) : xOf f env = some (.ok o) := by unfold xOf; rw [h]; rfl
theorem zzl {c : Str} {f : EF} {env : DEnv} {r : Val} (h : f env = some r) (ha : atD r.d = true) : znk c f env = some (.rx c r.d) := by unfold znk; rw [h, Option.bind_some, if_pos ha]
theorem zajx {n : Nat} {f : SFX} {ds : List PyData} {env : DEnv} {d : PyData} {fr : Bool} (h : ziv n ds = env) (e : f env = some (.ok (.rt d fr))) : fnX n f ds = some (.ok d fr) := by unfold fnX; rw [h, e]
theorem zajy {n : Nat} {f : SFX} {ds : List PyData} {env : DEnv} {c : Str} {d : PyData} (h : ziv n ds = env) (e : f env = some (.rx c d)) : fnX n f ds = some (.rx c d) := by unfold fnX; rw [h, e]
theorem zagv (a b : Nat) : neD (.int (a : Int)) (.int (b : Int)) = some (.bool (!decide (a = b)), false) := by
  by_cases e : a = b
  · subst e
    rw [zyn, decide_eq_true rfl]; rfl
  · have : (a : Int) ≠ (b : Int) := fun z => e (Int.ofNat.inj z)
    rw [decide_eq_false e]
    show some (PyData.bool (!((a : Int) == (b : Int))), false) = _
    rw [beq_eq_false_iff_ne.mpr this]
end Bc
namespace Bc
open PySem L2
end Bc
namespace Bc
open PySem L2
noncomputable def shN (k : Nat) (d : PyData) : Prop := PyData.canLay0 d = true ∧ PyData.depth d ≤ k
theorem zzm {k : Nat} : ∀ {ds : List PyData}, (∀ d ∈ ds, shN k d) → PyData.canLayAll0 ds = true ∧ PyData.depthAll ds ≤ k
  | [], _ => ⟨by unfold PyData.canLayAll0; rfl, by unfold PyData.depthAll; omega⟩
  | d :: ds, h => by
    obtain ⟨h1, h2⟩ := h d (by simp)
    obtain ⟨h3, h4⟩ := zzm fun x hx => h x (List.mem_cons_of_mem _ hx)
    unfold PyData.canLayAll0 PyData.depthAll
    exact ⟨by rw [h1, h3]; rfl, by omega⟩
theorem zsd {k : Nat} {ds : List PyData} (h : ∀ d ∈ ds, shN k d) : shN (k + 1) (.tuple ds) := by
  obtain ⟨h1, h2⟩ := zzm h
  unfold shN PyData.canLay0 PyData.depth
  exact ⟨h1, by omega⟩
theorem zado {k : Nat} {ds : List PyData} (h : ∀ d ∈ ds, shN k d) : shN (k + 1) (.list ds) := by
  obtain ⟨h1, h2⟩ := zzm h
  unfold shN PyData.canLay0 PyData.depth
  exact ⟨h1, by omega⟩
theorem zagw {k : Nat} {b : Bool} : shN k (.bool b) := by unfold shN PyData.canLay0 PyData.depth; exact ⟨rfl, by omega⟩
theorem zzn {k : Nat} : shN k .none := by unfold shN PyData.canLay0 PyData.depth; exact ⟨rfl, by omega⟩
theorem znu {k : Nat} {x : Str} (h : PyData.strOk x = true) : shN k (.str x) := by unfold shN PyData.canLay0 PyData.depth; exact ⟨h, by omega⟩
theorem zse {k : Nat} : ∀ d ∈ ([] : List PyData), shN k d := fun d h => by cases h
theorem zgg {k : Nat} {d : PyData} {ds : List PyData} (h : shN k d) (t : ∀ x ∈ ds, shN k x) : ∀ x ∈ d :: ds, shN k x := fun x hx => (List.mem_cons.mp hx).elim (fun e => e ▸ h) (t x)
theorem zid {k : Nat} {d : PyData} (h : shN k d) (hk : k ≤ 64) : SeqAt.shaped d = true := by
  unfold SeqAt.shaped
  rw [h.1, decide_eq_true (Nat.le_trans h.2 hk)]; rfl
theorem zagx {k : Nat} {xs : List Str} (h : LowS xs) : ∀ d ∈ xs.map PyData.str, shN k d := fun d hd => by
  obtain ⟨x, hx, rfl⟩ := List.mem_map.mp hd
  exact znu (h x hx)
end Bc
namespace Bc
open PySem L2
theorem znv (d : PyData) : bsOf d [] = [] := by unfold bsOf; split <;> rfl
theorem zzo {k n : Nat} {b : EF} {env : DEnv} {ds : List PyData} {d : PyData} (he : env[k]? = some (.pl (.tuple ds))) (hb : b env = some (vi (n : Int))) (hd : ds[n]? = some d) : eIxV k b env = some ⟨d, false, []⟩ := by
  unfold eIxV
  rw [he]
  unfold eOp eVar
  rw [he]
  simp only [Option.bind_some, hb]
  show ((atI ds (n : Int)).map fun d => (d, false)).bind _ = _
  rw [zjd hd]
  show some (⟨d, false, bsOf d ([] ++ [])⟩ : Val) = _
  rw [List.append_nil, znv]
end Bc
namespace Bc
open PySem L2
noncomputable def zpl (n : Str) : Bool := (decide (1 ≤ (n.length : Int)) && decide ((n.length : Int) ≤ 8)) && n.cps.toList.all zfv
noncomputable def eldB (A : List Str) (es : List PyData) : Bool := match unS es with
  | some xs => (xs.all fun x => decide (x ∈ A)) && decide xs.Nodup
  | none => false
noncomputable def zfh (A : List Str) : PyData → Bool
  | .tuple [.str n, .list es] => (zpl n && !decide (n ∈ A)) && (decide (es.length ≤ 4) && eldB A es)
  | _ => false
noncomputable def zmx (e : PyData) : Prop := ∀ n el, e = .tuple [n, el] → (∀ x, n = .str x → Low x ∧ x.length ≤ 1000) ∧ ∀ es, el = .list es → es.length < 300
theorem zsf {f g : TF} {env : DEnv} (h : f env = some true) : tOrF f g env = some true := by unfold tOrF; rw [h]; rfl
theorem or_2 {f g : TF} {env : DEnv} {b : Bool} (h1 : f env = some false) (h2 : g env = some b) : tOrF f g env = some b := by unfold tOrF; rw [h1]; exact h2
theorem zadp {a b c : PyData} {ds : List PyData} {e : EF} {env : DEnv} (h : e env = some (vi ((a :: b :: c :: ds).length : Nat))) : zas (eOp neD e (eC (.int 2))) env = some true := by
  refine zdn ?_
  unfold eOp
  rw [h]
  show ((neD (.int ((a :: b :: c :: ds).length : Nat)) (.int (2 : Nat))).bind fun z => some (⟨z.1, z.2, bsOf z.1 ([] ++ [])⟩ : Val)) = _
  rw [zagv, decide_eq_false (by simp)]; rfl
theorem gt4 {es : List PyData} {e : EF} {env : DEnv} (h : e env = some (vi (es.length : Nat))) : zas (eOp gtD e (eC (.int 4))) env = some (!decide (es.length ≤ 4)) := by
  refine zdn ?_
  rw [zagu h rfl]
  congr 2
  rw [Bool.eq_iff_iff]
  simp
  omega
theorem zie {A : List Str} {e : PyData} (h : ∀ n es, e ≠ .tuple [.str n, .list es]) : zfh A e = false := by
  unfold zfh
  split
  · exact absurd rfl (h _ _)
  · rfl
theorem zpm {A : List Str} {e : PyData} (h : zmx e) : zbt [zak A, e] = some (.bool (zfh A e), false) := by
  cases e with
  | tuple ds =>
    match ds, h with
    | [], _ => rfl
    | [a], _ =>
      rw [zie (fun n es z => by cases z)]
      rfl
    | a :: b :: c :: ds, _ =>
      rw [zie (fun n es z => by cases z)]
      exact zde (env := [.pl (zak A), .pl (.tuple (a :: b :: c :: ds)), .no, .no]) rfl (zdc (if_t (or_2 rfl (zadp (a := a) (b := b) (c := c) (ds := ds) rfl)) rfl))
    | [n, el], h =>
      obtain ⟨h1, h2⟩ := h n el rfl
      have st : ∀ {o : Option Out} {k : SF}, k [.pl (zak A), .pl (.tuple [n, el]), .pl n, .pl el] = o → sSeq (sIf (tOrF (zbs (tTru (eIsi "tuple" (eVar 1)))) (zas (eOp neD (eCB lenD (zac (eVar 1) aNil)) (eC (.int 2))))) (sRet (eC (.bool false))) sNil) (sSeq (sAsg (eVar 1) (gT 2 (zbe 2 (zbe 3 zfs)))) k) [.pl (zak A), .pl (.tuple [n, el]), .no, .no] = o := fun hk => zan rfl (zan rfl hk)
      by_cases hs : ∃ x, n = .str x
      · obtain ⟨x, rfl⟩ := hs
        obtain ⟨lx, ll⟩ := h1 x rfl
        have gn := zzc x ll
        have t1 : zbs (tTru (zbr 1 zfd (zac (eVar 2) aNil))) [.pl (zak A), .pl (.tuple [.str x, el]), .pl (.str x), .pl el] = some (!zpl x) := zri (zdh (n := 1) (rs := [⟨.str x, false, []⟩]) rfl rfl gn)
        have t2 : zas (eOp (inD false) (eVar 2) (eVar 0)) [.pl (zak A), .pl (.tuple [.str x, el]), .pl (.str x), .pl el] = some (decide (x ∈ A)) := zdn (e_in (neg := false) rfl rfl)
        have t3 : tOrF (zbs (tTru (zbr 1 zfd (zac (eVar 2) aNil)))) (zas (eOp (inD false) (eVar 2) (eVar 0))) [.pl (zak A), .pl (.tuple [.str x, el]), .pl (.str x), .pl el] = some (!(zpl x && !decide (x ∈ A))) := by
          unfold tOrF
          rw [t1, t2]
          cases zpl x <;> cases decide (x ∈ A) <;> rfl
        cases hb : (zpl x && !decide (x ∈ A)) with
        | false =>
          rw [hb] at t3
          have gb : zfh A (.tuple [.str x, el]) = false := by
            unfold zfh
            split
            · rename_i n es e2; cases e2; rw [hb]; rfl
            · rfl
          rw [gb]
          exact zde (env := [.pl (zak A), .pl (.tuple [.str x, el]), .no, .no]) rfl (st (zdc (if_t t3 rfl)))
        | true =>
          rw [hb] at t3
          by_cases hl : ∃ es, el = .list es
          · obtain ⟨es, rfl⟩ := hl
            have le := h2 es rfl
            have gb : zfh A (.tuple [.str x, .list es]) = (decide (es.length ≤ 4) && eldB A es) := by
              show ((zpl x && !decide (x ∈ A)) && _) = _
              rw [hb, Bool.true_and]
            rw [gb]
            have t4 : zas (eOp gtD (eCB lenD (zac (eVar 3) aNil)) (eC (.int 4))) [.pl (zak A), .pl (.tuple [.str x, .list es]), .pl (.str x), .pl (.list es)] = some (!decide (es.length ≤ 4)) := gt4 rfl
            cases h4 : decide (es.length ≤ 4) with
            | false =>
              rw [h4] at t4
              exact zde (env := [.pl (zak A), .pl (.tuple [.str x, .list es]), .no, .no]) rfl (st (zan (if_f t3 rfl) (zdc (if_t (or_2 rfl t4) rfl))))
            | true =>
              rw [h4] at t4
              rw [Bool.true_and]
              have gu := zsc (N := A) (ds := es) (by omega)
              exact zde (env := [.pl (zak A), .pl (.tuple [.str x, .list es]), .no, .no]) rfl (st (zan (if_f t3 rfl) (zan (if_f (or_2 rfl t4) rfl) (zgz (zdh (n := 2) (rs := [⟨zak A, false, []⟩, ⟨.list es, false, []⟩]) rfl rfl gu)))))
          · have gb : zfh A (.tuple [.str x, el]) = false := zie fun n es z => by cases z; exact hl ⟨_, rfl⟩
            rw [gb]
            have t4 : zbs (tTru (eIsi "list" (eVar 3))) [.pl (zak A), .pl (.tuple [.str x, el]), .pl (.str x), .pl el] = some true := by
              cases el <;> first | rfl | exact absurd ⟨_, rfl⟩ hl
            exact zde (env := [.pl (zak A), .pl (.tuple [.str x, el]), .no, .no]) rfl (st (zan (if_f t3 rfl) (zdc (if_t (zsf t4) rfl))))
      · have gb : zfh A (.tuple [n, el]) = false := zie fun n es z => by cases z; exact hs ⟨_, rfl⟩
        rw [gb]
        have hi : isiB "str" n = false := by cases n <;> first | rfl | exact absurd ⟨_, rfl⟩ hs
        have t1 : zbs (tTru (zbr 1 zfd (zac (eVar 2) aNil))) [.pl (zak A), .pl (.tuple [n, el]), .pl n, .pl el] = some true := zri (zdh (n := 1) (rs := [⟨n, false, []⟩]) rfl rfl (zrm hi))
        exact zde (env := [.pl (zak A), .pl (.tuple [n, el]), .no, .no]) rfl (st (zdc (if_t (zsf t1) rfl)))
  | _ => rfl
noncomputable def itA (A : List Str) (es : List PyData) (p : PyData × Nat) : Bool := match p.1 with
  | .str n => decide (n ∈ A) && !memS (es.take p.2) n
  | _ => false
theorem zadq {A : List Str} {es : List PyData} {d : PyData} (h : zmf d = false) (i : Nat) : itA A es (d, i) = false := by
  cases d <;> first
    | rfl
    | exact absurd (show true = false from h) (by decide)
theorem zace (A : List Str) (es : List PyData) : es.zipIdx.all (itA A es) = eldB A es := by
  unfold eldB
  cases hu : unS es with
  | none =>
    obtain ⟨d, hd, f⟩ := zpk hu
    obtain ⟨i, hi⟩ := zags hd
    show _ = false
    rw [← Bool.not_eq_true, List.all_eq_true]
    intro h
    have := h _ hi
    rw [zadq f] at this
    cases this
  | some xs =>
    have e := zlm hu
    subst e
    rw [Bool.eq_iff_iff]
    simp only [Bool.and_eq_true, List.all_eq_true, decide_eq_true_eq]
    constructor
    · intro ha
      have get : ∀ (i : Nat) (hi : i < xs.length), xs[i] ∈ A ∧ xs[i] ∉ xs.take i := fun i hi => by
        have hm : (PyData.str xs[i], i) ∈ (xs.map PyData.str).zipIdx := List.mem_zipIdx_iff_getElem?.mpr (by simp [hi])
        have := ha _ hm
        unfold itA at this
        simp only [Bool.and_eq_true, decide_eq_true_eq, ← List.map_take, zsb, Bool.not_eq_true', decide_eq_false_iff_not] at this
        exact this
      refine ⟨fun x hx => ?_, ?_⟩
      · obtain ⟨i, hi, rfl⟩ := List.getElem_of_mem hx
        exact (get i hi).1
      · refine List.pairwise_iff_getElem.mpr fun i j hi hj hij e => ?_
        refine (get j hj).2 ?_
        rw [← e]
        exact List.mem_take_iff_getElem.mpr ⟨i, by omega, rfl⟩
    · rintro ⟨hn, nd⟩ p hp
      obtain ⟨d, i⟩ := p
      have hp := List.mem_zipIdx_iff_getElem?.mp hp
      rw [List.getElem?_map] at hp
      obtain ⟨x, hx, rfl⟩ := Option.map_eq_some_iff.mp hp
      have hi : i < xs.length := (List.getElem?_eq_some_iff.mp hx).1
      have ex : xs[i] = x := (List.getElem?_eq_some_iff.mp hx).2
      unfold itA
      simp only [Bool.and_eq_true, decide_eq_true_eq, ← List.map_take, zsb, Bool.not_eq_true', decide_eq_false_iff_not]
      refine ⟨hn x (List.mem_of_getElem? hx), fun ht => ?_⟩
      obtain ⟨j, hj, e⟩ := List.mem_take_iff_getElem.mp ht
      have := zadi nd (i := j) (j := i) (hi := by omega) (hj := hi) (by rw [e, ex])
      omega
end Bc
namespace Bc
open PySem L2
noncomputable abbrev gdE (e : PyData) (A : List Str) (s2 s3 s4 : Sl) : DEnv := [.pl e, .pl (zak A), s2, s3, s4]
theorem zagy {A : List Str} {e : PyData} (h : zmx e) : zcj [e, zak A] = some (.bool (zfh A e), false) := by
  cases e with
  | tuple ds =>
    match ds, h with
    | [], _ => rfl
    | [a], _ =>
      rw [zie (fun n es z => by cases z)]
      rfl
    | a :: b :: c :: ds, _ =>
      rw [zie (fun n es z => by cases z)]
      exact zde (env := gdE (.tuple (a :: b :: c :: ds)) A .no .no .no) rfl (zdc (if_t (or_2 rfl (zadp (a := a) (b := b) (c := c) (ds := ds) rfl)) rfl))
    | [n, el], h =>
      obtain ⟨h1, h2⟩ := h n el rfl
      by_cases hs : ∃ x, n = .str x
      · obtain ⟨x, rfl⟩ := hs
        obtain ⟨lx, ll⟩ := h1 x rfl
        have e0 : ∀ s2 s3 s4, eIxV 0 (eC (.int 0)) (gdE (.tuple [.str x, el]) A s2 s3 s4) = some (vs x) := fun _ _ _ => rfl
        have e1 : ∀ s2 s3 s4, eIxV 0 (eC (.int 1)) (gdE (.tuple [.str x, el]) A s2 s3 s4) = some ⟨el, false, []⟩ := fun _ _ _ => zzo (ds := [.str x, el]) (n := 1) rfl rfl rfl
        have c1 : zas (zgk leD leD (eC (.int 1)) (eCB lenD (zac (eIxV 0 (eC (.int 0))) aNil)) (eC (.int 8))) (gdE (.tuple [.str x, el]) A .no .no .no) = some (decide (1 ≤ (x.length : Int)) && decide ((x.length : Int) ≤ 8)) := zdn (zzb (znn (e0 _ _ _) (by omega)))
        have c2 : zas (eOp (inD false) (eIxV 0 (eC (.int 0))) (eVar 1)) (gdE (.tuple [.str x, el]) A .no .no .no) = some (decide (x ∈ A)) := zdn (e_in (neg := false) (e0 _ _ _) rfl)
        generalize hb0 : (decide (1 ≤ (x.length : Int)) && decide ((x.length : Int) ≤ 8)) = b0 at c1
        have c3 : tOrF (zbs (tTru (eIsi "str" (eIxV 0 (eC (.int 0)))))) (tOrF (zbs (zas (zgk leD leD (eC (.int 1)) (eCB lenD (zac (eIxV 0 (eC (.int 0))) aNil)) (eC (.int 8))))) (zas (eOp (inD false) (eIxV 0 (eC (.int 0))) (eVar 1)))) (gdE (.tuple [.str x, el]) A .no .no .no) = some (!(b0 && !decide (x ∈ A))) := by
          refine or_2 rfl ?_
          unfold tOrF zbs
          rw [c1, c2]
          cases b0 <;> cases decide (x ∈ A) <;> rfl
        have nb : zpl x = (b0 && x.cps.toList.all zfv) := by unfold zpl; rw [hb0]
        cases hb : (b0 && !decide (x ∈ A)) with
        | false =>
          rw [hb] at c3
          have gb : zfh A (.tuple [.str x, el]) = false := by
            unfold zfh
            split
            · rename_i n es e2; cases e2; rw [nb]
              cases b0 with
              | false => rfl
              | true => rw [show decide (x ∈ A) = true by cases hd : decide (x ∈ A) <;> rw [hd] at hb <;> first | rfl | cases hb]; simp
            · rfl
          rw [gb]
          exact zde (env := gdE (.tuple [.str x, el]) A .no .no .no) rfl (zan rfl (zdc (if_t c3 rfl)))
        | true =>
          rw [hb] at c3
          obtain ⟨hb1, hb2⟩ := Bool.and_eq_true_iff.mp hb
          have lp := zmm (enc := fun c : Nat => PyData.str ⟨#[c]⟩) (g := gN 2) (body := (sIf (zas (eOp zqy (eVar 2) (eC (.str "abcdefghijklmnopqrstuvwxyz")))) (sRet (eC (.bool false))) sNil)) zfv (.bool false) false (fun env => ∃ s2, env = gdE (.tuple [.str x, el]) A s2 .no .no) x.cps.toList (gdE (.tuple [.str x, el]) A .no .no .no) ⟨_, rfl⟩ (by
            rintro c hc env ⟨s2, rfl⟩
            have t : zas (eOp zqy (eVar 2) (eC (.str "abcdefghijklmnopqrstuvwxyz"))) (gdE (.tuple [.str x, el]) A (.pl (.str ⟨#[c]⟩)) .no .no) = some (!zfv c) := by
              rw [← zyz (lx c (by first | exact hc | exact Array.mem_toList_iff.mp hc | exact Array.mem_toList.mp hc))]
              rfl
            refine ⟨_, rfl, fun hm => ?_, fun hm => ?_⟩
            · rw [hm] at t
              exact ⟨_, if_f t rfl, _, rfl⟩
            · rw [hm] at t
              exact if_t t rfl)
          have it : zme (eIxV 0 (eC (.int 0))) (gdE (.tuple [.str x, el]) A .no .no .no) = some (x.cps.toList.map fun c => PyData.str ⟨#[c]⟩, []) := rfl
          cases ha : x.cps.toList.all zfv with
          | false =>
            have gb : zfh A (.tuple [.str x, el]) = false := by
              unfold zfh
              split
              · rename_i n es e2; cases e2; rw [nb, ha, Bool.and_false]; rfl
              · rfl
            rw [gb]
            exact zde (env := gdE (.tuple [.str x, el]) A .no .no .no) rfl (zan rfl (zan (if_f c3 rfl) (zdc (zgl it (lp.2 ha)))))
          | true =>
            obtain ⟨env', l1, s2, rfl⟩ := lp.1 ha
            by_cases hl : ∃ es, el = .list es
            · obtain ⟨es, rfl⟩ := hl
              have le := h2 es rfl
              have gb : zfh A (.tuple [.str x, .list es]) = (decide (es.length ≤ 4) && eldB A es) := by
                show ((zpl x && !decide (x ∈ A)) && _) = _
                rw [nb, ha, hb1, hb2]; rfl
              rw [gb]
              have t4 : zas (eOp gtD (eCB lenD (zac (eIxV 0 (eC (.int 1))) aNil)) (eC (.int 4))) (gdE (.tuple [.str x, .list es]) A s2 .no .no) = some (!decide (es.length ≤ 4)) := gt4 rfl
              cases h4 : decide (es.length ≤ 4) with
              | false =>
                rw [h4] at t4
                exact zde (env := gdE (.tuple [.str x, .list es]) A .no .no .no) rfl (zan rfl (zan (if_f c3 rfl) (zan (zgl it l1) (zdc (if_t (or_2 rfl t4) rfl)))))
              | true =>
                rw [h4] at t4
                rw [Bool.true_and, ← zace]
                have lp2 := zmm (enc := fun (p : PyData × Nat) => PyData.tuple [.int (p.2 : Int), p.1]) (g := gT 2 (zbe 3 (zbe 4 zfs)))
                  (body := (sIf (tOrF (zbs (tTru (eIsi "str" (eVar 4)))) (tOrF (zas (eOp (inD true) (eVar 4) (eVar 1))) (zas (eOp (inTD false) (eVar 4) (eSl (eIxV 0 (eC (.int 1))) zdd (zcc (eVar 3))))))) (sRet (eC (.bool false))) sNil))
                  (itA A es) (.bool false) false (fun env => ∃ s3 s4, env = gdE (.tuple [.str x, .list es]) A s2 s3 s4) es.zipIdx (gdE (.tuple [.str x, .list es]) A s2 .no .no) ⟨_, _, rfl⟩ (by
                    rintro ⟨d, i⟩ hp env ⟨s3, s4, rfl⟩
                    have hi : i < es.length := (List.getElem?_eq_some_iff.mp (List.mem_zipIdx_iff_getElem?.mp hp)).1
                    refine ⟨gdE (.tuple [.str x, .list es]) A s2 (.pl (.int (i : Int))) (.pl d), rfl, ?_⟩
                    cases hs : zmf d with
                    | false =>
                      rw [zadq hs]
                      refine ⟨fun z => (nomatch z), fun _ => if_t (f := sRet (eC (.bool false))) (zsf ?_) rfl⟩
                      cases d <;> first | rfl | (exact absurd (show true = false from hs) (by decide))
                    | true =>
                      obtain ⟨n, rfl⟩ := zjp hs
                      have sl : eSl (eIxV 0 (eC (.int 1))) zdd (zcc (eVar 3)) (gdE (.tuple [.str x, .list es]) A s2 (.pl (.int (i : Int))) (.pl (.str n))) = some ⟨.list (es.take i), true, []⟩ := by
                        rw [show eSl (eIxV 0 (eC (.int 1))) zdd (zcc (eVar 3)) (gdE (.tuple [.str x, .list es]) A s2 (.pl (.int (i : Int))) (.pl (.str n))) = some ⟨.list (cutD es none (some (i : Int))), true, []⟩ from rfl, ztm es i (by omega)]
                      have g2 : zas (eOp (inTD false) (eVar 4) (eSl (eIxV 0 (eC (.int 1))) zdd (zcc (eVar 3)))) (gdE (.tuple [.str x, .list es]) A s2 (.pl (.int (i : Int))) (.pl (.str n))) = some (memS (es.take i) n) := zdn (zaju (neg := false) (f1 := false) (b1 := []) rfl sl rfl (.inl rfl))
                      have g1 : zas (eOp (inD true) (eVar 4) (eVar 1)) (gdE (.tuple [.str x, .list es]) A s2 (.pl (.int (i : Int))) (.pl (.str n))) = some (!decide (n ∈ A)) := zdn (e_in (neg := true) rfl rfl)
                      have g0 : tOrF (zbs (tTru (eIsi "str" (eVar 4)))) (tOrF (zas (eOp (inD true) (eVar 4) (eVar 1))) (zas (eOp (inTD false) (eVar 4) (eSl (eIxV 0 (eC (.int 1))) zdd (zcc (eVar 3)))))) (gdE (.tuple [.str x, .list es]) A s2 (.pl (.int (i : Int))) (.pl (.str n))) = some (!(decide (n ∈ A) && !memS (es.take i) n)) := by
                        refine or_2 rfl ?_
                        unfold tOrF
                        rw [g1, g2]
                        cases decide (n ∈ A) <;> cases memS (es.take i) n <;> rfl
                      have ib : itA A es (.str n, i) = (decide (n ∈ A) && !memS (es.take i) n) := rfl
                      rw [ib]
                      refine ⟨fun hm => ?_, fun hm => ?_⟩
                      · rw [hm] at g0
                        exact ⟨_, if_f g0 rfl, _, _, rfl⟩
                      · rw [hm] at g0
                        exact if_t g0 rfl)
                have it2 : ziu (zac (eIxV 0 (eC (.int 1))) aNil) (gdE (.tuple [.str x, .list es]) A s2 .no .no) = some (es.zipIdx.map fun (p : PyData × Nat) => PyData.tuple [.int (p.2 : Int), p.1], []) := rfl
                cases hq : es.zipIdx.all (itA A es) with
                | false => exact zde (env := gdE (.tuple [.str x, .list es]) A .no .no .no) rfl (zan rfl (zan (if_f c3 rfl) (zan (zgl it l1) (zan (if_f (or_2 rfl t4) rfl) (zdc (zgl it2 (lp2.2 hq)))))))
                | true =>
                  obtain ⟨env', l2, _⟩ := lp2.1 hq
                  exact zde (env := gdE (.tuple [.str x, .list es]) A .no .no .no) rfl (zan rfl (zan (if_f c3 rfl) (zan (zgl it l1) (zan (if_f (or_2 rfl t4) rfl) (zan (zgl it2 l2) rfl)))))
            · rw [zie fun n es z => by cases z; exact hl ⟨_, rfl⟩]
              have t4 : zbs (tTru (eIsi "list" (eIxV 0 (eC (.int 1))))) (gdE (.tuple [.str x, el]) A s2 .no .no) = some true := by
                unfold zbs tTru
                rw [show eIsi "list" (eIxV 0 (eC (.int 1))) (gdE (.tuple [.str x, el]) A s2 .no .no) = (eIxV 0 (eC (.int 1)) (gdE (.tuple [.str x, el]) A s2 .no .no)).map fun r => vb (isiB "list" r.d) by unfold eIsi; rfl, e1]
                cases el <;> first | rfl | exact absurd ⟨_, rfl⟩ hl
              exact zde (env := gdE (.tuple [.str x, el]) A .no .no .no) rfl (zan rfl (zan (if_f c3 rfl) (zan (zgl it l1) (zdc (if_t (zsf t4) rfl)))))
      · rw [zie fun n es z => by cases z; exact hs ⟨_, rfl⟩]
        have t4 : zbs (tTru (eIsi "str" (eIxV 0 (eC (.int 0))))) (gdE (.tuple [n, el]) A .no .no .no) = some true := by
          have e0 : eIxV 0 (eC (.int 0)) (gdE (.tuple [n, el]) A .no .no .no) = some ⟨n, false, []⟩ := zzo (ds := [n, el]) (n := 0) rfl rfl rfl
          unfold zbs tTru
          rw [show eIsi "str" (eIxV 0 (eC (.int 0))) (gdE (.tuple [n, el]) A .no .no .no) = (eIxV 0 (eC (.int 0)) (gdE (.tuple [n, el]) A .no .no .no)).map fun r => vb (isiB "str" r.d) by unfold eIsi; rfl, e0]
          cases n <;> first | rfl | exact absurd ⟨_, rfl⟩ hs
        exact zde (env := gdE (.tuple [n, el]) A .no .no .no) rfl (zan rfl (zdc (if_t (zsf t4) rfl)))
  | _ => rfl
end Bc
namespace Bc
open PySem L2
noncomputable def zadr : PyData → Str
  | .tuple (.str n :: _) => n
  | _ => ""
noncomputable def zbl : Nat → List Str → List PyData → Option Nat
  | _, _, [] => none
  | i, A, e :: es => if (decide (i < 10) && zfh A e) = true then zbl (i + 1) (A ++ [zadr e]) es else some i
noncomputable def webR : PyData → ResX
  | .list [] => .rx "NoWeb" .none
  | .list (e :: es) => match zbl 0 [] (e :: es) with
    | some i => .rx "NoWeb" (.int (i : Int))
    | none => .ok (.list (e :: es)) true
  | _ => .rx "NoWeb" .none
noncomputable def zgh (d : PyData) : Prop := ∀ es, d = .list es → es.length ≤ 90 ∧ ∀ e ∈ es, zmx e
theorem zts {A : List Str} {e : PyData} (h : zfh A e = true) : ∃ n xs, e = .tuple [.str n, zak xs] ∧ (∀ x ∈ xs, x ∈ A) := by
  unfold zfh at h
  split at h
  · rename_i n es
    simp only [Bool.and_eq_true] at h
    obtain ⟨_, _, h⟩ := h
    unfold eldB at h
    cases hu : unS es with
    | none => rw [hu] at h; cases h
    | some xs =>
      rw [hu] at h
      simp only [Bool.and_eq_true, List.all_eq_true, decide_eq_true_eq] at h
      exact ⟨n, xs, by rw [zlm hu]; rfl, h.1⟩
  · cases h
theorem zalh {a b : EF} {env : DEnv} {i j : Int} (ha : a env = some (vi i)) (hb : b env = some (vi j)) : eOp geD a b env = some (vb (decide (j ≤ i))) := by
  unfold eOp; rw [ha, hb]; rfl
noncomputable abbrev encE (p : PyData × Nat) : PyData := .tuple [.int (p.2 : Int), p.1]
noncomputable abbrev zsg : SFX := (xSeq (xIf (tOrF (zas (eOp geD (eVar 2) (eC (.int 10)))) (zbs (tTru (zbr 2 zbt (zac (eVar 1) (zac (eVar 3) aNil)))))) (znk "NoWeb" (eVar 2)) (xOf sNil))
    (xOf (sApp 1 (eIxV 3 (eC (.int 0))))))
theorem zzp {T : Sl} : ∀ (es : List PyData) (k : Nat) (A : List Str) (s2 s3 : Sl), (∀ e ∈ es, zmx e) → A.length + es.length < 1000 → k + es.length ≤ 95 →
    ∃ e', zvh (gT 2 (zbe 2 (zbe 3 zfs))) zsg ((es.zipIdx k).map encE) [T, .ac (zak A), s2, s3] = (match zbl k A es with | none => some (.ok (.nx (T :: e'))) | some i => some (.rx "NoWeb" (.int (i : Int))))
  | [], k, A, s2, s3, _, _, _ => ⟨_, rfl⟩
  | e :: es, k, A, s2, s3, h, hl, hk => by
    have hl' : A.length + (es.length + 1) < 1000 := hl
    have hk' : k + (es.length + 1) ≤ 95 := hk
    have g := zpm (A := A) (h e (by simp))
    have t1 : zas (eOp geD (eVar 2) (eC (.int 10))) [T, .ac (zak A), .pl (.int (k : Int)), .pl e] = some (!decide (k < 10)) := by
      refine zdn ((zalh rfl rfl).trans ?_)
      congr 2
      rw [Bool.eq_iff_iff]
      simp
      omega
    have t2 : zbs (tTru (zbr 2 zbt (zac (eVar 1) (zac (eVar 3) aNil)))) [T, .ac (zak A), .pl (.int (k : Int)), .pl e] = some (!zfh A e) := zri (zdh (n := 2) (rs := [⟨zak A, false, [1]⟩, ⟨e, false, []⟩]) rfl rfl g)
    have t3 : tOrF (zas (eOp geD (eVar 2) (eC (.int 10)))) (zbs (tTru (zbr 2 zbt (zac (eVar 1) (zac (eVar 3) aNil))))) [T, .ac (zak A), .pl (.int (k : Int)), .pl e] = some (!(decide (k < 10) && zfh A e)) := by
      unfold tOrF
      rw [t1, t2]
      cases decide (k < 10) <;> cases zfh A e <;> rfl
    cases hb : (decide (k < 10) && zfh A e) with
    | false =>
      rw [hb] at t3
      refine ⟨[], ?_⟩
      have f : zbl k A (e :: es) = some k := by unfold zbl; rw [hb]; rfl
      rw [f]
      have b : zsg [T, .ac (zak A), .pl (.int (k : Int)), .pl e] = some (.rx "NoWeb" (.int (k : Int))) := zzk (zalf t3 (zzl (r := ⟨.int (k : Int), false, []⟩) rfl (decide_eq_true ⟨by omega, by omega⟩)))
      show ((zsg [T, .ac (zak A), .pl (.int (k : Int)), .pl e]).bind _) = _
      rw [b]; rfl
    | true =>
      rw [hb] at t3
      obtain ⟨n, xs, rfl, _⟩ := zts (Bool.and_eq_true_iff.mp hb).2
      obtain ⟨e', ih⟩ := zzp es (k + 1) (A ++ [n]) (.pl (.int (k : Int))) (.pl (.tuple [.str n, zak xs])) (fun x hx => h x (List.mem_cons_of_mem _ hx)) (by rw [List.length_append]; show _ + 1 + _ < _; omega) (by omega)
      refine ⟨e', ?_⟩
      have f : zbl k A (.tuple [.str n, zak xs] :: es) = zbl (k + 1) (A ++ [n]) es := by rw [zbl, hb]; rfl
      rw [f, ← ih]
      have b : zsg [T, .ac (zak A), .pl (.int (k : Int)), .pl (.tuple [.str n, zak xs])] = some (.ok (.nx [T, .ac (zak (A ++ [n])), .pl (.int (k : Int)), .pl (.tuple [.str n, zak xs])])) := by
        refine zkn (zalg t3 rfl) (zadn ?_)
        rw [zrd (ds := A.map .str) (d := .str n) (fr := false) rfl rfl (by rw [List.length_map]; omega)]
        congr 2
        unfold zak
        simp
      show ((zsg [T, .ac (zak A), .pl (.int (k : Int)), .pl (.tuple [.str n, zak xs])]).bind _) = _
      rw [b]; rfl
theorem zzq : ∀ {es : List PyData} {k : Nat} {A : List Str}, zbl k A es = none → (∀ a ∈ A, Low a) → (∀ e ∈ es, zmx e) → ∀ e ∈ es, ∃ n xs, e = .tuple [.str n, zak xs] ∧ Low n ∧ ∀ x ∈ xs, Low x
  | [], _, _, _, _, _, e, he => by cases he
  | e :: es, k, A, h, hA, hE, e', he => by
    rw [zbl] at h
    split at h
    · rename_i hb
      obtain ⟨n, xs, rfl, hx⟩ := zts (Bool.and_eq_true_iff.mp hb).2
      have ln : Low n := ((hE _ List.mem_cons_self _ _ rfl).1 n rfl).1
      rcases List.mem_cons.mp he with rfl | he
      · exact ⟨n, xs, rfl, ln, fun x hx' => hA x (hx x hx')⟩
      · refine zzq h (fun a ha => ?_) (fun z hz => hE z (List.mem_cons_of_mem _ hz)) e' he
        rcases List.mem_append.mp ha with z | z
        · exact hA a z
        · have : a = n := by simpa [zadr] using z
          rw [this]; exact ln
    · cases h
theorem zagz {es : List PyData} (hl : es.length < 1000) (h : ∀ e ∈ es, ∃ n xs, e = .tuple [.str n, zak xs] ∧ Low n ∧ ∀ x ∈ xs, Low x) : zfn [.list es] = some (.list es, true) := by
  have cm : zjf (gT 2 (zbe 0 (zbe 1 zfs))) zki (eTup (zac (eVar 0) (zac (eCB zjm (zac (eVar 1) aNil)) aNil))) [.no, .no] (es.map id) = some (es.map id) :=
    zjs (enc := id) (out := id) fun e he => by
      obtain ⟨n, xs, rfl, _⟩ := h e he
      exact ⟨[.pl (.str n), .pl (zak xs)], rfl, rfl, ⟨.tuple [.str n, zak xs], false, []⟩, rfl, rfl⟩
  rw [List.map_id] at cm
  refine zde (env := [.pl (.list es)]) rfl ?_
  have := zmn (own := ["name", "elders"]) (fr := []) (fi := zgc (eVar 0)) (g := gT 2 (zbe 0 (zbe 1 zfs))) (t := zki) (e := eTup (zac (eVar 0) (zac (eCB zjm (zac (eVar 1) aNil)) aNil))) (env := [.pl (.list es)]) (ds := es) (bs := []) rfl (by omega) cm
  exact zgz this
theorem zads {d : PyData} (h : zgh d) : zeg [d] = some (webR d) := by
  cases d with
  | list es =>
    cases es with
    | nil => rfl
    | cons e es =>
      obtain ⟨h1, h2⟩ := h _ rfl
      have h1' : es.length + 1 ≤ 90 := h1
      obtain ⟨e', lp⟩ := zzp (T := .pl (.list (e :: es))) (e :: es) 0 [] .no .no h2 (by show 0 + (es.length + 1) < 1000; omega) (by show 0 + (es.length + 1) ≤ 95; omega)
      have it : ziu (zac (eVar 0) aNil) [.pl (.list (e :: es)), .ac (.list []), .no, .no] = some (((e :: es).zipIdx 0).map encE, []) := rfl
      have wr : webR (.list (e :: es)) = (match zbl 0 [] (e :: es) with | some i => .rx "NoWeb" (.int (i : Int)) | none => .ok (.list (e :: es)) true) := rfl
      rw [wr]
      cases hf : zbl 0 [] (e :: es) with
      | some i =>
        rw [hf] at lp
        refine zajy (env := [.pl (.list (e :: es)), .no, .no, .no]) rfl (zkn (e1 := [.pl (.list (e :: es)), .no, .no, .no]) rfl (zkn (e1 := [.pl (.list (e :: es)), .ac (.list []), .no, .no]) rfl (zzk ?_)))
        unfold xFor
        rw [it]
        exact lp
      | none =>
        rw [hf] at lp
        have gc := zagz (es := e :: es) (by omega) (zzq hf (fun a ha => by cases ha) h2)
        refine zajx (env := [.pl (.list (e :: es)), .no, .no, .no]) rfl (zkn (e1 := [.pl (.list (e :: es)), .no, .no, .no]) rfl (zkn (e1 := [.pl (.list (e :: es)), .ac (.list []), .no, .no]) rfl (zkn (e1 := .pl (.list (e :: es)) :: e') ?_ (zadn (zgz (zdh (n := 1) (rs := [⟨.list (e :: es), false, []⟩]) rfl rfl gc))))))
        unfold xFor
        rw [it]
        exact lp
  | _ => rfl
noncomputable def okB : ResX → Bool
  | .ok _ _ => true
  | .rx _ _ => false
noncomputable def wdS : ResX → Str
  | .ok _ _ => "made"
  | .rx _ _ => "refused"
theorem zali : ∀ r : ResX, okB r = (wdS r == ("made" : Str))
  | .ok _ _ => (show true = (("made" : Str) == ("made" : Str)) by decide)
  | .rx _ _ => (show false = (("refused" : Str) == ("made" : Str)) by decide)
theorem zzr {d : PyData} (h : zgh d) : zik [d] = some (.bool (okB (webR d)), false) := by
  have g := zads h
  have c : ∀ c x, webR d = .rx c x → c = "NoWeb" := fun c x hc => by
    unfold webR at hc
    split at hc
    · cases hc; rfl
    · split at hc <;> cases hc; rfl
    · cases hc; rfl
  cases hr : webR d with
  | ok x f =>
    rw [hr] at g
    refine zde (env := [.pl d]) rfl (zan (e1 := [.pl d]) ?_ rfl)
    unfold zyk
    show (if 1 = 1 then (zeg [d]).bind _ else none) = _
    rw [if_pos rfl, g]; rfl
  | rx c' x =>
    cases c c' x hr
    rw [hr] at g
    refine zde (env := [.pl d]) rfl (zdc ?_)
    unfold zyk
    show (if 1 = 1 then (zeg [d]).bind _ else none) = _
    rw [if_pos rfl, g]; rfl
noncomputable def zacf : ResX → PyData
  | .ok d _ => .tuple [.str "made", d]
  | .rx _ d => .tuple [.str "refused", d]
theorem zajz {d : PyData} {c : Str} {x : PyData} (hc : webR d = .rx c x) : c = "NoWeb" := by
  unfold webR at hc
  split at hc
  · cases hc; rfl
  · split at hc <;> cases hc; rfl
  · cases hc; rfl
theorem zaha {d : PyData} (h : zgh d) : zcv [d] = some (zacf (webR d), false) := by
  have g := zads h
  refine zde (env := [.pl d, .no, .no]) rfl (zan (e1 := [.pl d, .no, .pl (.tuple [.str "refused", .str "by none"])]) rfl ?_)
  cases hr : webR d with
  | ok x f =>
    rw [hr] at g
    refine zan (e1 := [.pl d, .no, .pl (.tuple [.str "made", x])]) ?_ rfl
    refine (if_pos rfl).trans ?_
    unfold zyg
    show (some _).bind _ = _
    rw [Option.bind_some]
    show (if 1 = 1 then (zeg [d]).bind _ else none) = _
    rw [if_pos rfl, g]; rfl
  | rx c x =>
    cases zajz hr
    rw [hr] at g
    refine zan (e1 := [.pl d, .no, .pl (.tuple [.str "refused", x])]) ?_ rfl
    refine (if_pos rfl).trans ?_
    unfold zyg
    show (some _).bind _ = _
    rw [Option.bind_some]
    show (if 1 = 1 then (zeg [d]).bind _ else none) = _
    rw [if_pos rfl, g]; rfl
noncomputable abbrev zsh : SF := (sSeq (sIf (tOrF (zas (eOp gtD (eVar 2) (eC (.int 9)))) (zbs (tTru (zbr 2 zcj (zac (eVar 3) (zac (eVar 1) aNil)))))) (sRet (eTup (zac (eC (.str "refused")) (zac (eVar 2) aNil)))) sNil)
    (sApp 1 (eIxV 3 (eC (.int 0)))))
theorem zzs {T : Sl} : ∀ (es : List PyData) (k : Nat) (A : List Str) (s2 s3 : Sl), (∀ e ∈ es, zmx e) → A.length + es.length < 1000 →
    ∃ e', forL (gT 2 (zbe 2 (zbe 3 zfs))) zsh ((es.zipIdx k).map encE) [T, .ac (zak A), s2, s3] = (match zbl k A es with | none => some (.nx (T :: e')) | some i => some (.rt (.tuple [.str "refused", .int (i : Int)]) false))
  | [], k, A, s2, s3, _, _ => ⟨_, rfl⟩
  | e :: es, k, A, s2, s3, h, hl => by
    have hl' : A.length + (es.length + 1) < 1000 := hl
    have g := zagy (A := A) (h e (by simp))
    have t1 : zas (eOp gtD (eVar 2) (eC (.int 9))) [T, .ac (zak A), .pl (.int (k : Int)), .pl e] = some (!decide (k < 10)) := by
      refine zdn ((zagu rfl rfl).trans ?_)
      congr 2
      rw [Bool.eq_iff_iff]
      simp
      omega
    have t2 : zbs (tTru (zbr 2 zcj (zac (eVar 3) (zac (eVar 1) aNil)))) [T, .ac (zak A), .pl (.int (k : Int)), .pl e] = some (!zfh A e) := zri (zdh (n := 2) (rs := [⟨e, false, []⟩, ⟨zak A, false, [1]⟩]) rfl rfl g)
    have t3 : tOrF (zas (eOp gtD (eVar 2) (eC (.int 9)))) (zbs (tTru (zbr 2 zcj (zac (eVar 3) (zac (eVar 1) aNil))))) [T, .ac (zak A), .pl (.int (k : Int)), .pl e] = some (!(decide (k < 10) && zfh A e)) := by
      unfold tOrF
      rw [t1, t2]
      cases decide (k < 10) <;> cases zfh A e <;> rfl
    cases hb : (decide (k < 10) && zfh A e) with
    | false =>
      rw [hb] at t3
      refine ⟨[], ?_⟩
      have f : zbl k A (e :: es) = some k := by unfold zbl; rw [hb]; rfl
      rw [f]
      have b : zsh [T, .ac (zak A), .pl (.int (k : Int)), .pl e] = some (.rt (.tuple [.str "refused", .int (k : Int)]) false) := zdc (if_t t3 rfl)
      show ((zsh [T, .ac (zak A), .pl (.int (k : Int)), .pl e]).bind _) = _
      rw [b]; rfl
    | true =>
      rw [hb] at t3
      obtain ⟨n, xs, rfl, _⟩ := zts (Bool.and_eq_true_iff.mp hb).2
      obtain ⟨e', ih⟩ := zzs es (k + 1) (A ++ [n]) (.pl (.int (k : Int))) (.pl (.tuple [.str n, zak xs])) (fun x hx => h x (List.mem_cons_of_mem _ hx)) (by rw [List.length_append]; show _ + 1 + _ < _; omega)
      refine ⟨e', ?_⟩
      have f : zbl k A (.tuple [.str n, zak xs] :: es) = zbl (k + 1) (A ++ [n]) es := by rw [zbl, hb]; rfl
      rw [f, ← ih]
      have b : zsh [T, .ac (zak A), .pl (.int (k : Int)), .pl (.tuple [.str n, zak xs])] = some (.nx [T, .ac (zak (A ++ [n])), .pl (.int (k : Int)), .pl (.tuple [.str n, zak xs])]) := by
        refine zan (if_f t3 rfl) ?_
        rw [zrd (ds := A.map .str) (d := .str n) (fr := false) rfl rfl (by rw [List.length_map]; omega)]
        congr 2
        unfold zak
        simp
      show ((zsh [T, .ac (zak A), .pl (.int (k : Int)), .pl (.tuple [.str n, zak xs])]).bind _) = _
      rw [b]; rfl
theorem zaka {d : PyData} (h : zgh d) : zeh [d] = some (zacf (webR d), false) := by
  cases d with
  | list es =>
    cases es with
    | nil => rfl
    | cons e es =>
      obtain ⟨h1, h2⟩ := h _ rfl
      have h1' : es.length + 1 ≤ 90 := h1
      obtain ⟨e', lp⟩ := zzs (T := .pl (.list (e :: es))) (e :: es) 0 [] .no .no h2 (by show 0 + (es.length + 1) < 1000; omega)
      have it : ziu (zac (eVar 0) aNil) [.pl (.list (e :: es)), .ac (.list []), .no, .no] = some (((e :: es).zipIdx 0).map encE, []) := rfl
      have wr : webR (.list (e :: es)) = (match zbl 0 [] (e :: es) with | some i => .rx "NoWeb" (.int (i : Int)) | none => .ok (.list (e :: es)) true) := rfl
      rw [wr]
      cases hf : zbl 0 [] (e :: es) with
      | some i =>
        rw [hf] at lp
        exact zde (env := [.pl (.list (e :: es)), .no, .no, .no]) rfl (zan (e1 := [.pl (.list (e :: es)), .no, .no, .no]) rfl (zan (e1 := [.pl (.list (e :: es)), .ac (.list []), .no, .no]) rfl (zdc (zgl it lp))))
      | none =>
        rw [hf] at lp
        exact zde (env := [.pl (.list (e :: es)), .no, .no, .no]) rfl (zan (e1 := [.pl (.list (e :: es)), .no, .no, .no]) rfl (zan (e1 := [.pl (.list (e :: es)), .ac (.list []), .no, .no]) rfl (zan (zgl it lp) rfl)))
  | _ => rfl
end Bc
namespace Bc
open PySem L2
structure OddOk (d : PyData) : Prop where
  str : ∀ x, d = .str x → Low x ∧ x.length ≤ 100
  lst : ∀ es, d = .list es → es.length ≤ 1 ∧ ∀ e ∈ es, zmx e
  two : ∀ a b, d ≠ .tuple [a, b]
theorem OddOk.ent {d : PyData} (h : OddOk d) : zmx d := fun n el e => absurd e (h.two n el)
theorem OddOk.thing {d : PyData} (h : OddOk d) : zgh d := fun es e => ⟨Nat.le_trans (h.lst es e).1 (by decide), (h.lst es e).2⟩
theorem zko {x : Str} (h1 : Low x) (h2 : x.length ≤ 100) : OddOk (.str x) := ⟨fun y e => (by cases e; exact ⟨h1, h2⟩), fun es e => (nomatch e), fun a b e => (nomatch e)⟩
theorem zacg : OddOk .none := ⟨fun y e => (nomatch e), fun es e => (nomatch e), fun a b e => (nomatch e)⟩
theorem zach {b : Bool} : OddOk (.bool b) := ⟨fun y e => (nomatch e), fun es e => (nomatch e), fun a b e => (nomatch e)⟩
theorem zahb {i : Int} : OddOk (.int i) := ⟨fun y e => (nomatch e), fun es e => (nomatch e), fun a b e => (nomatch e)⟩
theorem zaci {kv : List (PyData × PyData)} : OddOk (.dict kv) := ⟨fun y e => (nomatch e), fun es e => (nomatch e), fun a b e => (nomatch e)⟩
theorem zzt {x : Str} : zmx (.str x) := fun n el e => by cases e
theorem zut {es : List PyData} : zmx (.list es) := fun n el e => by cases e
theorem zakb {x : Str} : OddOk (.list [.str x]) := ⟨fun y e => (nomatch e), fun es e => (by cases e; exact ⟨Nat.le_refl 1, fun e he => by rw [List.mem_singleton.mp he]; exact zzt⟩), fun a b e => (nomatch e)⟩
theorem zakc {x : Str} : OddOk (.tuple [.str x]) := ⟨fun y e => (nomatch e), fun es e => (nomatch e), fun a b e => (nomatch e)⟩
theorem zalj {k : Nat} {b : EF} {env : DEnv} {z : Str} {i : Int} {c : Nat} (he : env[k]? = some (.pl (.str z))) (hb : b env = some (vi i)) (hz : z.length ≤ 100000) (hc : atI z.cps.toList i = some c) : eIxV k b env = some (vs ⟨#[c]⟩) := by
  unfold eIxV
  rw [he]
  unfold eOp eVar
  rw [he]
  simp only [Option.bind_some, hb]
  show ((if z.length ≤ 100000 then (atI z.cps.toList i).map fun c => (PyData.str ⟨#[c]⟩, false) else none).bind _) = _
  rw [if_pos hz, hc]; rfl
noncomputable abbrev odE (n : Str) (c : Int) (s2 s3 s4 s5 : Sl) : DEnv := [.pl (.str n), .pl (.int c), s2, s3, s4, s5]
theorem low1 : Low zhg := zkk (by decide +kernel)
theorem len1 : zhg.length = 69 := by decide +kernel
theorem zalk : zhg.cps.toList.length = 69 := by decide +kernel
theorem zzu : Low ("aaaaaaaa" : Str) ∧ ("aaaaaaaa" : Str).length = 8 := ⟨zkk (by decide +kernel), by decide +kernel⟩
theorem zacj {d : Nat} (h : d < 128) : Low ⟨#[d]⟩ := fun c hc => by
  have : c = d := by simpa using hc
  omega
theorem zzv {n : Str} {c : Int} (ln : Low n) (ll : n.length ≤ 30) (c0 : 0 ≤ c) : ∃ d fr, zcm [.str n, .int c] = some (d, fr) ∧ OddOk d := by
  have md : ∀ (z j : Int), 0 < j → 0 ≤ z % j ∧ z % j < j := fun z j hj => ⟨Int.emod_nonneg z (by omega), Int.emod_lt_of_pos z hj⟩
  have e3 : ∃ at_ : Int, sSet 3 (eOp modD (eOp zci (eVar 1) (eC (.int 16))) (eOp addD (eCB lenD (zac (eVar 0) aNil)) (eC (.int 1)))) (odE n c (.pl (.str zhg)) .no .no .no) = some (.nx (odE n c (.pl (.str zhg)) (.pl (.int at_)) .no .no)) :=
    ⟨_, zcf (r := vi _) (zfc (zhz rfl rfl (by decide) (by decide)) (zmz (znn rfl (by omega)) rfl) (by omega))⟩
  obtain ⟨at_, e3⟩ := e3
  have m7 := md (c / 7) 69 (by decide)
  obtain ⟨d, hd, hm⟩ := zza (l := zhg.cps.toList) m7.1 (by rw [zalk]; exact m7.2)
  have d128 : d < 128 := low1 d (by first | exact hm | exact Array.mem_toList_iff.mp hm)
  have lsg := zacj d128
  have lsl : (⟨#[d]⟩ : Str).length = 1 := rfl
  have e4 : sSet 4 (eIxV 2 (eOp modD (eOp zci (eVar 1) (eC (.int 7))) (eCB lenD (zac (eVar 2) aNil)))) (odE n c (.pl (.str zhg)) (.pl (.int at_)) .no .no) = some (.nx (odE n c (.pl (.str zhg)) (.pl (.int at_)) (.pl (.str ⟨#[d]⟩)) .no)) := by
    have el : eCB lenD (zac (eVar 2) aNil) (odE n c (.pl (.str zhg)) (.pl (.int at_)) .no .no) = some (vi 69) := by
      rw [znn (x := zhg) rfl (by rw [len1]; decide), len1]; rfl
    exact zcf (zalj (z := zhg) rfl (zfc (zhz rfl rfl (by decide) (by decide)) el (by decide)) (by rw [len1]; decide) hd)
  generalize hg : (⟨#[d]⟩ : Str) = sg at e4 lsg lsl
  have e5 : sSet 5 (eLst (zac (eC .none) (zac (eC (.bool true)) (zac (eC (.int 3)) (zac (eC (.str "")) (zac (eLst (zac (eVar 0) aNil)) (zac (eTup (zac (eVar 0) aNil)) (zac zsx (zac (eOp addD (eVar 0) (eC (.str "aaaaaaaa"))) (zac (eVar 4) (zac (eOp addD (eVar 4) (eVar 4)) aNil))))))))))) (odE n c (.pl (.str zhg)) (.pl (.int at_)) (.pl (.str sg)) .no) = some (.nx (odE n c (.pl (.str zhg)) (.pl (.int at_)) (.pl (.str sg)) (.ac (.list [.none, .bool true, .int 3, .str "", .list [.str n], .tuple [.str n], .dict [], .str (n ++ "aaaaaaaa"), .str sg, .str (sg ++ sg)])))) := by
    refine zcf (r := ⟨.list [.none, .bool true, .int 3, .str "", .list [.str n], .tuple [.str n], .dict [], .str (n ++ "aaaaaaaa"), .str sg, .str (sg ++ sg)], true, []⟩) ?_
    unfold eLst
    have a1 : eOp addD (eVar 0) (eC (.str "aaaaaaaa")) (odE n c (.pl (.str zhg)) (.pl (.int at_)) (.pl (.str sg)) .no) = some (vs (n ++ "aaaaaaaa")) := zjt rfl rfl (by rw [zzu.2]; omega)
    have a2 : eOp addD (eVar 4) (eVar 4) (odE n c (.pl (.str zhg)) (.pl (.int at_)) (.pl (.str sg)) .no) = some (vs (sg ++ sg)) := zjt rfl rfl (by omega)
    rw [zba (a := eC .none) (r := ⟨.none, false, []⟩) rfl (zba (a := eC (.bool true)) (r := ⟨.bool true, false, []⟩) rfl (zba (a := eC (.int 3)) (r := ⟨.int 3, false, []⟩) rfl (zba (a := eC (.str "")) (r := ⟨.str "", false, []⟩) rfl (zba (r := ⟨.list [.str n], true, []⟩) rfl (zba (r := ⟨.tuple [.str n], false, []⟩) rfl (zba (a := zsx) (r := ⟨.dict [], true, []⟩) rfl (zba a1 (zba (a := eVar 4) (r := ⟨.str sg, false, []⟩) rfl (zfx a2)))))))))]
    rfl
  have odd : ∀ x ∈ [PyData.none, .bool true, .int 3, .str "", .list [.str n], .tuple [.str n], .dict [], .str (n ++ "aaaaaaaa"), .str sg, .str (sg ++ sg)], OddOk x := by
    refine fun x hx => ?_
    simp only [List.mem_cons, List.mem_nil_iff, or_false] at hx
    rcases hx with rfl | rfl | rfl | rfl | rfl | rfl | rfl | rfl | rfl | rfl
    · exact zacg
    · exact zach
    · exact zahb
    · exact zko (zkk (by decide +kernel)) (by decide +kernel)
    · exact zakb
    · exact zakc
    · exact zaci
    · exact zko (ln.app zzu.1) (by rw [zfg, zzu.2]; omega)
    · exact zko lsg (by omega)
    · exact zko (lsg.app lsg) (by rw [zfg]; omega)
  have lenL : [PyData.none, .bool true, .int 3, .str "", .list [.str n], .tuple [.str n], .dict [], .str (n ++ "aaaaaaaa"), .str sg, .str (sg ++ sg)].length = 10 := rfl
  generalize [PyData.none, .bool true, .int 3, .str "", .list [.str n], .tuple [.str n], .dict [], .str (n ++ "aaaaaaaa"), .str sg, .str (sg ++ sg)] = L at e5 odd lenL
  have m16 := md c 16 (by decide)
  have t : ∀ j : Int, zas (eOp ltD (eOp modD (eVar 1) (eC (.int 16))) (eC (.int j))) (odE n c (.pl (.str zhg)) (.pl (.int at_)) (.pl (.str sg)) (.ac (.list L))) = some (decide (c % 16 < j)) := fun j => zdn (by rw [show eOp ltD (eOp modD (eVar 1) (eC (.int 16))) (eC (.int j)) (odE n c (.pl (.str zhg)) (.pl (.int at_)) (.pl (.str sg)) (.ac (.list L))) = some (vb (decide (c % 16 < j))) by unfold eOp; rfl])
  have sl : ∀ a b, (Txt.slice n a b).length ≤ 30 := fun a b => Nat.le_trans (Txt.slice_le n a b) ll
  have lz : n.length ≤ 100000 := by omega
  have pre : ∀ {o}, (sSeq (sIf (zas (eOp ltD (eOp modD (eVar 1) (eC (.int 16))) (eC (.int 10)))) (sRet (eIxV 5 (eOp modD (eVar 1) (eC (.int 16))))) sNil)
    (sSeq (sIf (zas (eOp ltD (eOp modD (eVar 1) (eC (.int 16))) (eC (.int 13)))) (sRet (eOp addD (eOp addD (eSl (eVar 0) zdd (zcc (eVar 3))) (eVar 4)) (eSl (eVar 0) (zcc (eVar 3)) zdd))) sNil)
    (sRet (eOp addD (eOp addD (eSl (eVar 0) zdd (zcc (eVar 3))) (eVar 4)) (eSl (eVar 0) (zcc (eOp addD (eVar 3) (eC (.int 1)))) zdd))))) (odE n c (.pl (.str zhg)) (.pl (.int at_)) (.pl (.str sg)) (.ac (.list L))) = o → zmp (odE n c .no .no .no .no) = o := fun h => zan rfl (zan e3 (zan e4 (zan e5 h)))
  by_cases h10 : c % 16 < 10
  · have t1 := t 10
    rw [decide_eq_true h10] at t1
    obtain ⟨x, hx, hxm⟩ := zza (l := L) m16.1 (by rw [lenL]; exact h10)
    obtain ⟨k, hk⟩ : ∃ k : Nat, c % 16 = (k : Int) := ⟨(c % 16).toNat, by omega⟩
    have hx2 : L[k]? = some x := by
      rw [hk] at hx
      have hkl : k < L.length := by omega
      rw [zjd (List.getElem?_eq_getElem hkl)] at hx
      rw [List.getElem?_eq_getElem hkl]; exact hx
    exact ⟨x, false, zde (env := odE n c .no .no .no .no) rfl (pre (zdc (if_t t1 (zgz (zagn (n := k) rfl ((zfc rfl rfl (by decide)).trans (by rw [hk])) hx2))))), odd x hxm⟩
  · have t1 := t 10
    rw [decide_eq_false h10] at t1
    by_cases h13 : c % 16 < 13
    · have t2 := t 13
      rw [decide_eq_true h13] at t2
      have z1 := sl none (some at_)
      have z2 := sl (some at_) none
      refine ⟨_, false, zde (env := odE n c .no .no .no .no) rfl (pre (zan (if_f t1 rfl) (zdc (if_t t2 (zgz (zjt (zjt (ztl rfl rfl (zku rfl) lz) rfl (by omega)) (ztl rfl (zku rfl) rfl lz) (by rw [zfg]; omega))))))), zko (((ln.slice _ _).app lsg).app (ln.slice _ _)) (by rw [zfg, zfg]; omega)⟩
    · have t2 := t 13
      rw [decide_eq_false h13] at t2
      have z1 := sl none (some at_)
      have z2 := sl (some (at_ + 1)) none
      refine ⟨_, false, zde (env := odE n c .no .no .no .no) rfl (pre (zan (if_f t1 rfl) (zan (if_f t2 rfl) (zgz (zjt (zjt (ztl rfl rfl (zku rfl) lz) rfl (by omega)) (ztl rfl (zku (zmz rfl rfl)) rfl lz) (by rw [zfg]; omega)))))), zko (((ln.slice _ _).app lsg).app (ln.slice _ _)) (by rw [zfg, zfg]; omega)⟩
end Bc
namespace Bc
open PySem L2
noncomputable def zakd (d : PyData) : Prop := ∀ es, d = .list es → es.length ≤ 80
noncomputable abbrev elE (W : Web) (p : Nat) (ch c : Int) (s4 s5 s6 : Sl) : DEnv := [.pl (webD W), .pl (.int (p : Int)), .pl (.int ch), .pl (.int c), s4, s5, s6]
noncomputable def zall (W : Web) (p : Nat) (ch c : Int) (at_ : Int) (o : Str) : Out → Prop
  | .nx env => ∃ ds : List PyData, env = elE W p ch c (.ac (.list ds)) (.pl (.int at_)) (.pl (.str o)) ∧ ds.length ≤ 80
  | .rt d _ => zakd d
  | _ => False
theorem znw {P : Out → Prop} {t : TF} {A B : SF} {env : DEnv} {b : Bool} (ht : t env = some b) (hA : ∃ o, A env = some o ∧ P o) (hB : ∃ o, B env = some o ∧ P o) : ∃ o, sIf t A B env = some o ∧ P o := by
  cases b with
  | true => obtain ⟨o, h1, h2⟩ := hA; exact ⟨o, if_t ht h1, h2⟩
  | false => obtain ⟨o, h1, h2⟩ := hB; exact ⟨o, if_f ht h1, h2⟩
theorem zzw {i : Nat} {a : AF} {env : DEnv} {ds : List PyData} {k : Nat} {r : Val} (he : env[i]? = some (.ac (.list ds))) (ha : a env = some [vi (k : Int), r]) (hk : k ≤ ds.length) (hl : ds.length < 100000) (hb : r.bs = []) : sIns i a env = some (.nx (env.set i (.ac (.list (insL ds k r.d))))) := by
  unfold sIns
  rw [he]
  show (a env).bind _ = _
  rw [ha]
  show (if 0 ≤ (k : Int) ∧ (k : Int).toNat ≤ ds.length ∧ ds.length < 100000 ∧ i ∉ r.bs then _ else none) = _
  rw [if_pos ⟨by omega, by omega, hl, by rw [hb]; simp⟩, hb, Int.toNat_natCast]
  rfl
structure WOk (W : Web) : Prop where
  ok : WebOk W
  ne : 0 < W.length
  low : ∀ p ∈ W, Low p.1 ∧ p.1.length ≤ 30
theorem zvu {W : Web} {env : DEnv} {b : EF} {p : Nat} (h0 : env[0]? = some (.pl (webD W))) (hb : b env = some (vi (p : Int))) (hp : p < W.length) : eIxV 0 b env = some ⟨rowD W[p], false, []⟩ := zagm (ds := W.map rowD) (n := p) h0 hb (by rw [List.getElem?_map, List.getElem?_eq_getElem hp]; rfl)
theorem zuu {a : EF} {env : DEnv} {r : Str × List Str} (h : a env = some ⟨rowD r, false, []⟩) : eOp ixD a (eC (.int 0)) env = some (vs r.1) := by unfold eOp; rw [h]; rfl
theorem zadt {a : EF} {env : DEnv} {r : Str × List Str} (h : a env = some ⟨rowD r, false, []⟩) : eOp ixD a (eC (.int 1)) env = some ⟨zak r.2, false, []⟩ := by unfold eOp; rw [h]; rfl
theorem zzx {W : Web} (w : WOk W) {p : Nat} (hp : p < W.length) {ch c : Int} (c0 : 0 ≤ c) : ∃ d fr, zdx [webD W, .int (p : Int), .int ch, .int c] = some (d, fr) ∧ zakd d := by
  have md : ∀ (z j : Int), 0 < j → 0 ≤ z % j ∧ z % j < j := fun z j hj => ⟨Int.emod_nonneg z (by omega), Int.emod_lt_of_pos z hj⟩
  have fw := w.ok.few W[p] (List.getElem_mem _)
  have lw := w.ok.len
  have e4 : sSet 4 (eCB zjm (zac (eOp ixD (eIxV 0 (eVar 1)) (eC (.int 1))) aNil)) (elE W p ch c .no .no .no) = some (.nx (elE W p ch c (.ac (zak W[p].2)) .no .no)) := by
    refine zcf (r := ⟨zak W[p].2, true, []⟩) ?_
    unfold eCB
    rw [zfx (zadt (zvu (p := p) rfl rfl hp))]
    rfl
  generalize W[p].2 = es at fw e4
  have m1 := md c ((es.length : Int) + 1) (by omega)
  obtain ⟨a, ha⟩ : ∃ a : Nat, c % ((es.length : Int) + 1) = (a : Int) := ⟨(c % ((es.length : Int) + 1)).toNat, by omega⟩
  have hal : a ≤ es.length := by omega
  have e5 : sSet 5 (eOp modD (eVar 3) (eOp addD (eCB lenD (zac (eVar 4) aNil)) (eC (.int 1)))) (elE W p ch c (.ac (zak es)) .no .no) = some (.nx (elE W p ch c (.ac (zak es)) (.pl (.int (a : Int))) .no)) := by
    rw [zcf (zfc (i := c) rfl (zmz (i := (es.length : Int)) (by rw [zno (ds := es.map .str) rfl, List.length_map]) rfl) (by omega)), ha]
    rfl
  have m2 := md (c / 5) (W.length : Int) (by have := w.ne; omega)
  obtain ⟨q, hq⟩ : ∃ q : Nat, c / 5 % (W.length : Int) = (q : Int) := ⟨(c / 5 % (W.length : Int)).toNat, by omega⟩
  have hql : q < W.length := by omega
  have e6 : sSet 6 (eOp ixD (eIxV 0 (eOp modD (eOp zci (eVar 3) (eC (.int 5))) (eCB lenD (zac (eVar 0) aNil)))) (eC (.int 0))) (elE W p ch c (.ac (zak es)) (.pl (.int (a : Int))) .no) = some (.nx (elE W p ch c (.ac (zak es)) (.pl (.int (a : Int))) (.pl (.str W[q].1)))) := by
    have hb : eOp modD (eOp zci (eVar 3) (eC (.int 5))) (eCB lenD (zac (eVar 0) aNil)) (elE W p ch c (.ac (zak es)) (.pl (.int (a : Int))) .no) = some (vi (q : Int)) := by
      rw [zfc (zhz (i := c) rfl rfl (by decide) (by decide)) (j := (W.length : Int)) (by rw [zno (ds := W.map rowD) rfl, List.length_map]) (by have := w.ne; omega), hq]
    exact zcf (zuu (zvu (p := q) rfl hb hql))
  obtain ⟨lo, ll⟩ := w.low W[q] (List.getElem_mem _)
  obtain ⟨lop, llp⟩ := w.low W[p] (List.getElem_mem _)
  generalize W[q].1 = o at e6 lo ll
  obtain ⟨dd, fd, godd, _⟩ := zzv (c := c / 5) lo ll (Int.ediv_nonneg c0 (by decide))
  have eodd : zbr 2 zcm (zac (eVar 6) (zac (eOp zci (eVar 3) (eC (.int 5))) aNil)) (elE W p ch c (.ac (zak es)) (.pl (.int (a : Int))) (.pl (.str o))) = some ⟨dd, fd, []⟩ := by
    rw [zdh (n := 2) (rs := [vs o, vi (c / 5)]) (zba rfl (zfx (zhz rfl rfl (by decide) (by decide)))) rfl godd]
    show some (⟨dd, fd, bsOf dd []⟩ : Val) = _
    rw [znv]
  have hst : ∀ {x : PyData}, (insL (es.map PyData.str) a x).length ≤ 80 := fun {x} => by rw [zuk, List.length_map]; omega
  have t : ∀ j : Int, zas (eOp eqD (eVar 2) (eC (.int j))) (elE W p ch c (.ac (zak es)) (.pl (.int (a : Int))) (.pl (.str o))) = some (ch == j) := fun j => zdn (zpb rfl rfl)
  have al : a ≤ (es.map PyData.str).length := by rw [List.length_map]; exact hal
  have l9 : (es.map PyData.str).length < 100000 := by rw [List.length_map]; omega
  have mid : ∃ out, (sIf (zas (eOp eqD (eVar 2) (eC (.int 0)))) (sIns 4 (zac (eVar 5) (zac (eOp ixD (eIxV 0 (eVar 1)) (eC (.int 0))) aNil))) (sIf (zas (eOp eqD (eVar 2) (eC (.int 1)))) (sIns 4 (zac (eVar 5) (zac (eVar 6) aNil))) (sIf (zas (eOp eqD (eVar 2) (eC (.int 2)))) (sIns 4 (zac (eVar 5) (zac (zbr 2 zcm (zac (eVar 6) (zac (eOp zci (eVar 3) (eC (.int 5))) aNil))) aNil))) (sIf (zas (eOp eqD (eVar 2) (eC (.int 3)))) (sSet 4 (eOp addD (eVar 4) (zkh ["_law_name", "_law_row"] [4] (zgc (eSl (eVar 0) zdd (zcc (eVar 1)))) (gT 2 (zbe 0 (zbe 1 zfs))) (zas (eOp (inD true) (eVar 0) (eVar 2))) (eVar 0)))) (sIf (zas (eOp eqD (eVar 2) (eC (.int 4)))) (sSet 4 (eOp addD (eVar 4) (eSl (eVar 4) (zcc (eVar 5)) zdd))) (sIf (zas (eOp eqD (eVar 2) (eC (.int 5)))) (sRet (eCB zlr (zac (eVar 4) aNil))) (sRet (zbr 2 zcm (zac (eVar 6) (zac (eOp zci (eVar 3) (eC (.int 5))) aNil))))))))))
      (elE W p ch c (.ac (zak es)) (.pl (.int (a : Int))) (.pl (.str o))) = some out ∧ zall W p ch c (a : Int) o out := by
    refine znw (t 0) ⟨_, zzw (ds := es.map .str) (k := a) (r := vs W[p].1) rfl (zba rfl (zfx (zuu (zvu (p := p) rfl rfl hp)))) al l9 rfl, _, rfl, hst⟩ ?_
    refine znw (t 1) ⟨_, zzw (ds := es.map .str) (k := a) (r := vs o) rfl rfl al l9 rfl, _, rfl, hst⟩ ?_
    refine znw (t 2) ⟨_, zzw (ds := es.map .str) (k := a) (r := ⟨dd, fd, []⟩) rfl (zba rfl (zfx eodd)) al l9 rfl, _, rfl, hst⟩ ?_
    refine znw (t 3) ?_ ?_
    · have sl : eSl (eVar 0) zdd (zcc (eVar 1)) (elE W p ch c (.ac (zak es)) (.pl (.int (a : Int))) (.pl (.str o))) = some ⟨.list ((W.take p).map rowD), true, []⟩ := by
        rw [show eSl (eVar 0) zdd (zcc (eVar 1)) (elE W p ch c (.ac (zak es)) (.pl (.int (a : Int))) (.pl (.str o))) = some ⟨.list (cutD (W.map rowD) none (some (p : Int))), true, []⟩ from rfl, ztm _ _ (by rw [List.length_map]; omega), List.map_take]
      have it : zgc (eSl (eVar 0) zdd (zcc (eVar 1))) (elE W p ch c (.ac (zak es)) (.pl (.int (a : Int))) (.pl (.str o))) = some ((W.take p).map rowD, []) := by
        unfold zgc
        rw [sl]; rfl
      have cm : zjf (gT 2 (zbe 0 (zbe 1 zfs))) (zas (eOp (inD true) (eVar 0) (eVar 2))) (eVar 0) [.no, .no, .pl (zak es)] ((W.take p).map rowD) = some (((W.take p).filter fun r => !decide (r.1 ∈ es)).map fun r => .str r.1) :=
        zhx (enc := rowD) (out := fun r => .str r.1) (fun r => !decide (r.1 ∈ es)) fun r hr => ⟨[.pl (.str r.1), .pl (zak r.2), .pl (zak es)], rfl, zdn (e_in (neg := true) rfl rfl), fun _ => ⟨vs r.1, rfl, rfl⟩⟩
      have tk : (W.take p).length ≤ 12 := by rw [List.length_take]; omega
      have ce := zmn (own := ["_law_name", "_law_row"]) (fr := [4]) it (by rw [List.length_map]; omega) cm
      have fl : (if zey (((W.take p).filter fun r => !decide (r.1 ∈ es)).map fun r => PyData.str r.1) = true then ([] : List Nat) else [] ++ capA [4] (elE W p ch c (.ac (zak es)) (.pl (.int (a : Int))) (.pl (.str o)))) = [] := by
        rw [show (((W.take p).filter fun r => !decide (r.1 ∈ es)).map fun r => PyData.str r.1) = (((W.take p).filter fun r => !decide (r.1 ∈ es)).map (·.1)).map PyData.str by rw [List.map_map]; rfl, if_pos (znm _)]
      rw [fl] at ce
      have lf := List.length_filter_le (fun r : Str × List Str => !decide (r.1 ∈ es)) (W.take p)
      generalize (W.take p).filter (fun r => !decide (r.1 ∈ es)) = F at ce lf
      have ad : eOp addD (eVar 4) (zkh ["_law_name", "_law_row"] [4] (zgc (eSl (eVar 0) zdd (zcc (eVar 1)))) (gT 2 (zbe 0 (zbe 1 zfs))) (zas (eOp (inD true) (eVar 0) (eVar 2))) (eVar 0)) (elE W p ch c (.ac (zak es)) (.pl (.int (a : Int))) (.pl (.str o))) = some ⟨zak (es ++ F.map (·.1)), true, [4] ++ []⟩ :=
        zadm (f1 := false) (f2 := true) (b1 := [4]) (b2 := []) rfl (by rw [ce]; unfold zak; rw [List.map_map]; rfl) (by rw [List.length_map]; omega)
      exact ⟨_, zcf ad, _, rfl, by rw [List.length_map, List.length_append, List.length_map]; omega⟩
    refine znw (t 4) ?_ ?_
    · have sl : eSl (eVar 4) (zcc (eVar 5)) zdd (elE W p ch c (.ac (zak es)) (.pl (.int (a : Int))) (.pl (.str o))) = some ⟨zak (es.drop a), true, [4]⟩ := zale (x := es) (f := false) (bs := [4]) (lo := some (a : Int)) (hi := none) rfl (zku rfl) rfl (by rw [zagt, List.map_drop])
      have ad : eOp addD (eVar 4) (eSl (eVar 4) (zcc (eVar 5)) zdd) (elE W p ch c (.ac (zak es)) (.pl (.int (a : Int))) (.pl (.str o))) = some ⟨zak (es ++ es.drop a), true, [4] ++ [4]⟩ := zadm (f1 := false) (f2 := true) (b1 := [4]) (b2 := [4]) rfl sl (by rw [List.length_drop]; omega)
      exact ⟨_, zcf ad, _, rfl, by rw [List.length_map, List.length_append, List.length_drop]; omega⟩
    refine znw (t 5) ⟨.rt (.tuple (es.map .str)) false, zgz (bs := [4]) rfl, fun _ z => (nomatch z)⟩ ?_
    refine ⟨.rt dd fd, zgz (bs := []) eodd, fun z hz => ?_⟩
    obtain ⟨dd', fd', g', odd⟩ := zzv (c := c / 5) lo ll (Int.ediv_nonneg c0 (by decide))
    rw [godd] at g'
    cases g'
    exact Nat.le_trans (odd.lst z hz).1 (by decide)
  obtain ⟨out, hm, hg⟩ := mid
  cases out with
  | nx env =>
    obtain ⟨ds, rfl, hl⟩ := hg
    exact ⟨.list ds, true, zde (env := elE W p ch c .no .no .no) rfl (zan e4 (zan e5 (zan e6 (zan hm rfl)))), fun z hz => by cases hz; exact hl⟩
  | rt d fr => exact ⟨d, fr, zde (env := elE W p ch c .no .no .no) rfl (zan e4 (zan e5 (zan e6 (zdc hm)))), hg⟩
  | bk e => exact hg.elim
  | ct e => exact hg.elim
theorem znx {P : PyData → Prop} {t : TF} {A rest : SF} {env : DEnv} {b : Bool} (ht : t env = some b) (hA : ∃ d fr, A env = some (.rt d fr) ∧ P d) (hr : ∃ d fr, rest env = some (.rt d fr) ∧ P d) : ∃ d fr, sSeq (sIf t A sNil) rest env = some (.rt d fr) ∧ P d := by
  cases b with
  | true => obtain ⟨d, fr, h1, h2⟩ := hA; exact ⟨d, fr, zdc (if_t ht h1), h2⟩
  | false => obtain ⟨d, fr, h1, h2⟩ := hr; exact ⟨d, fr, zan (if_f ht rfl) h1, h2⟩
noncomputable def zsi (e : PyData) : Prop := zmx e ∧ zgh e
theorem zpn {n el : PyData} (h1 : ∀ x, n = .str x → Low x ∧ x.length ≤ 1000) (h2 : ∀ es, el = .list es → es.length < 300) : zsi (.tuple [n, el]) := ⟨fun a b e => by cases e; exact ⟨h1, h2⟩, fun es e => (nomatch e)⟩
theorem zmy {P : PyData → Prop} {f : EF} {env : DEnv} {d : PyData} {fr : Bool} {bs : List Nat} (h : f env = some ⟨d, fr, bs⟩) (hp : P d) : ∃ d fr, sRet f env = some (.rt d fr) ∧ P d := ⟨d, fr, zgz h, hp⟩
noncomputable abbrev spE (W : Web) (p : Nat) (ch c : Int) (s4 s5 : Sl) : DEnv := [.pl (webD W), .pl (.int (p : Int)), .pl (.int ch), .pl (.int c), s4, s5]
theorem zzy {W : Web} (w : WOk W) {p : Nat} (hp : p < W.length) {ch c : Int} (c0 : 0 ≤ c) : ∃ d fr, zbh [webD W, .int (p : Int), .int ch, .int c] = some (d, fr) ∧ zsi d := by
  have md : ∀ (z j : Int), 0 < j → 0 ≤ z % j ∧ z % j < j := fun z j hj => ⟨Int.emod_nonneg z (by omega), Int.emod_lt_of_pos z hj⟩
  have fw := w.ok.few W[p] (List.getElem_mem _)
  obtain ⟨ln, ll⟩ := w.low W[p] (List.getElem_mem _)
  have e4 : sSet 4 (eOp ixD (eIxV 0 (eVar 1)) (eC (.int 0))) (spE W p ch c .no .no) = some (.nx (spE W p ch c (.pl (.str W[p].1)) .no)) := zcf (zuu (zvu (p := p) rfl rfl hp))
  have e5 : sSet 5 (eCB zjm (zac (eOp ixD (eIxV 0 (eVar 1)) (eC (.int 1))) aNil)) (spE W p ch c (.pl (.str W[p].1)) .no) = some (.nx (spE W p ch c (.pl (.str W[p].1)) (.ac (zak W[p].2)))) := by
    refine zcf (r := ⟨zak W[p].2, true, []⟩) ?_
    unfold eCB
    rw [zfx (zadt (zvu (p := p) rfl rfl hp))]
    rfl
  generalize W[p].1 = n at ln ll e4 e5
  generalize W[p].2 = es at fw e5
  obtain ⟨de, fe, ge, he⟩ := zzx w hp (ch := ch) (c := c) c0
  obtain ⟨dd, fd, gd, hd⟩ := zzv (c := c) ln ll c0
  have m2 := md c (W.length : Int) (by have := w.ne; omega)
  obtain ⟨q, hq⟩ : ∃ q : Nat, c % (W.length : Int) = (q : Int) := ⟨(c % (W.length : Int)).toNat, by omega⟩
  have hql : q < W.length := by omega
  obtain ⟨lq, lq2⟩ := w.low W[q] (List.getElem_mem _)
  have eod : zbr 2 zcm (zac (eVar 4) (zac (eVar 3) aNil)) (spE W p ch c (.pl (.str n)) (.ac (zak es))) = some ⟨dd, fd, []⟩ := by
    rw [zdh (n := 2) (rs := [vs n, vi c]) rfl rfl gd]
    show some (⟨dd, fd, bsOf dd []⟩ : Val) = _
    rw [znv]
  have eel : zbr 4 zdx (zac (eVar 0) (zac (eVar 1) (zac (eVar 2) (zac (eVar 3) aNil)))) (spE W p ch c (.pl (.str n)) (.ac (zak es))) = some ⟨de, fe, []⟩ := by
    rw [zdh (n := 4) (rs := [⟨webD W, false, []⟩, vi (p : Int), vi ch, vi c]) rfl rfl ge]
    show some (⟨de, fe, bsOf de []⟩ : Val) = _
    rw [znv]
  have hn : ∀ x, PyData.str n = .str x → Low x ∧ x.length ≤ 1000 := fun x e => by cases e; exact ⟨ln, by omega⟩
  have hes : ∀ z, zak es = .list z → z.length < 300 := fun z e => by cases e; rw [List.length_map]; omega
  have t : ∀ j : Int, zas (eOp eqD (eVar 2) (eC (.int j))) (spE W p ch c (.pl (.str n)) (.ac (zak es))) = some (ch == j) := fun j => zdn (zpb rfl rfl)
  have t7 : zas (eOp ltD (eVar 2) (eC (.int 7))) (spE W p ch c (.pl (.str n)) (.ac (zak es))) = some (decide (ch < 7)) := rfl
  have tup : ∀ {f g : EF} {a b : Val}, f (spE W p ch c (.pl (.str n)) (.ac (zak es))) = some a → g (spE W p ch c (.pl (.str n)) (.ac (zak es))) = some b → eTup (zac f (zac g aNil)) (spE W p ch c (.pl (.str n)) (.ac (zak es))) = some ⟨.tuple [a.d, b.d], false, bss [a, b]⟩ := fun {f g a b} hf hg => by
    unfold eTup
    rw [zba hf (zfx hg)]; rfl
  have mid : ∃ d fr, (sSeq (sIf (zas (eOp ltD (eVar 2) (eC (.int 7)))) (sRet (eTup (zac (eVar 4) (zac (zbr 4 zdx (zac (eVar 0) (zac (eVar 1) (zac (eVar 2) (zac (eVar 3) aNil))))) aNil)))) sNil)
    (sSeq (sIf (zas (eOp eqD (eVar 2) (eC (.int 7)))) (sRet (eTup (zac (zbr 2 zcm (zac (eVar 4) (zac (eVar 3) aNil))) (zac (eVar 5) aNil)))) sNil)
    (sSeq (sIf (zas (eOp eqD (eVar 2) (eC (.int 8)))) (sRet (eTup (zac (eOp ixD (eIxV 0 (eOp modD (eVar 3) (eCB lenD (zac (eVar 0) aNil)))) (eC (.int 0))) (zac (eVar 5) aNil)))) sNil)
    (sSeq (sIf (zas (eOp eqD (eVar 2) (eC (.int 9)))) (sRet (eLst (zac (eVar 4) (zac (eVar 5) aNil)))) sNil)
    (sSeq (sIf (zas (eOp eqD (eVar 2) (eC (.int 10)))) (sRet (eTup (zac (eVar 4) (zac (eVar 5) (zac (eC .none) aNil))))) sNil)
    (sSeq (sIf (zas (eOp eqD (eVar 2) (eC (.int 11)))) (sRet (eTup (zac (eVar 4) aNil))) sNil)
    (sRet (zbr 2 zcm (zac (eVar 4) (zac (eVar 3) aNil)))))))))) (spE W p ch c (.pl (.str n)) (.ac (zak es))) = some (.rt d fr) ∧ zsi d := by
    refine znx t7 (zmy (tup (a := vs n) rfl eel) (zpn hn fun z hz => Nat.lt_of_le_of_lt (he z hz) (by decide))) ?_
    refine znx (t 7) (zmy (tup (b := ⟨zak es, false, [5]⟩) eod rfl) (zpn (fun x hx => ⟨(hd.str x hx).1, Nat.le_trans (hd.str x hx).2 (by decide)⟩) hes)) ?_
    have e8 : eOp ixD (eIxV 0 (eOp modD (eVar 3) (eCB lenD (zac (eVar 0) aNil)))) (eC (.int 0)) (spE W p ch c (.pl (.str n)) (.ac (zak es))) = some (vs W[q].1) := by
      have hb : eOp modD (eVar 3) (eCB lenD (zac (eVar 0) aNil)) (spE W p ch c (.pl (.str n)) (.ac (zak es))) = some (vi (q : Int)) := by
        rw [zfc (i := c) (j := (W.length : Int)) rfl (by rw [zno (ds := W.map rowD) rfl, List.length_map]) (by have := w.ne; omega), hq]
      exact zuu (zvu (p := q) rfl hb hql)
    refine znx (t 8) (zmy (tup (b := ⟨zak es, false, [5]⟩) e8 rfl) (zpn (fun x hx => by cases hx; exact ⟨lq, by omega⟩) hes)) ?_
    refine znx (t 9) (zmy (d := .list [.str n, zak es]) (fr := true) (bs := [5]) rfl ⟨zut, fun z hz => ?_⟩) ?_
    · cases hz
      refine ⟨by show 2 ≤ 90; decide, fun e he => ?_⟩
      simp only [List.mem_cons, List.mem_nil_iff, or_false] at he
      rcases he with rfl | rfl
      · exact zzt
      · exact zut
    refine znx (t 10) (zmy (d := .tuple [.str n, zak es, .none]) (fr := false) (bs := [5]) rfl ⟨fun a b e => (nomatch e), fun z hz => (nomatch hz)⟩) ?_
    refine znx (t 11) (zmy (d := .tuple [.str n]) (fr := false) (bs := []) rfl ⟨fun a b e => (nomatch e), fun z hz => (nomatch hz)⟩) ?_
    exact zmy eod ⟨hd.ent, hd.thing⟩
  obtain ⟨d, fr, hm, hr⟩ := mid
  exact ⟨d, fr, zde (env := spE W p ch c .no .no) rfl (zan e4 (zan e5 hm)), hr⟩
end Bc
namespace Bc
open PySem L2
noncomputable abbrev thE (cs : List Int) (s1 s2 s3 s4 s5 : Sl) : DEnv := [.pl (zdq cs), s1, s2, s3, s4, s5]
theorem e_c0 {cs : List Int} {s1 s2 s3 s4 s5 : Sl} {b : EF} {n : Nat} (hb : b (thE cs s1 s2 s3 s4 s5) = some (vi (n : Int))) (hn : n < cs.length) : eIxV 0 b (thE cs s1 s2 s3 s4 s5) = some (vi (cs[n]'hn)) :=
  zagm (ds := cs.map .int) (n := n) rfl hb (by rw [List.getElem?_map, List.getElem?_eq_getElem hn]; rfl)
theorem zahc {i k : Nat} {fk fv : EF} {env : DEnv} {ds : List PyData} {r : Val} (he : env[i]? = some (.ac (.list ds))) (hv : fv env = some r) (hk : fk env = some (vi (k : Int))) (hkl : k < ds.length) (hb : r.bs = []) : zov i fk fv env = some (.nx (env.set i (.ac (.list (ds.set k r.d))))) := by
  unfold zov
  rw [he]
  show (fv env).bind _ = _
  rw [hv, Option.bind_some, hk, Option.bind_some]
  show ((ixN ds.length (k : Int)).bind _) = _
  have : ixN ds.length (k : Int) = some k := by unfold ixN; simp; omega
  rw [this, Option.bind_some, if_pos (by rw [hb]; simp), hb]
  rfl
theorem zake {f : AF} {env : DEnv} {rs : List Val} (h : f env = some rs) (hl : rs.length ≤ 100000) : eLst f env = some ⟨.list (zhf rs), true, bss rs⟩ := by unfold eLst; rw [h, Option.bind_some, if_pos hl]
theorem zakf {W : Web} (w : WOk W) {cs : List Int} {m : Nat} (hm : m = W.length) {s4 s5 : Sl} {es : List PyData} (hl : es.length = W.length) (hr : ∀ e ∈ es, zsi e) {x cx ch : EF} {z c h : Int} (c0 : 0 ≤ c)
    (hx : x (thE cs (.pl (.int (m : Int))) (.pl (webD W)) (.ac (.list es)) s4 s5) = some (vi z))
    (hc : ∀ s4, cx (thE cs (.pl (.int (m : Int))) (.pl (webD W)) (.ac (.list es)) s4 s5) = some (vi c)) (hh : ∀ s4, ch (thE cs (.pl (.int (m : Int))) (.pl (webD W)) (.ac (.list es)) s4 s5) = some (vi h)) :
    ∃ s4' es', es'.length = W.length ∧ (∀ e ∈ es', zsi e) ∧ sSeq (sSet 4 (eOp modD x (eVar 1))) (zov 3 (eVar 4) (zbr 4 zbh (zac (eVar 2) (zac (eVar 4) (zac ch (zac cx aNil)))))) (thE cs (.pl (.int (m : Int))) (.pl (webD W)) (.ac (.list es)) s4 s5) = some (.nx (thE cs (.pl (.int (m : Int))) (.pl (webD W)) (.ac (.list es')) s4' s5)) := by
  have hne := w.ne
  have m0 := Int.emod_nonneg z (show (m : Int) ≠ 0 by omega)
  have m1 := Int.emod_lt_of_pos z (show (0 : Int) < (m : Int) by omega)
  obtain ⟨k, hk⟩ : ∃ k : Nat, z % (m : Int) = (k : Int) := ⟨(z % (m : Int)).toNat, by omega⟩
  have hkl : k < W.length := by omega
  obtain ⟨d, fr, g, hd⟩ := zzy w hkl (ch := h) (c := c) c0
  have e4 : sSet 4 (eOp modD x (eVar 1)) (thE cs (.pl (.int (m : Int))) (.pl (webD W)) (.ac (.list es)) s4 s5) = some (.nx (thE cs (.pl (.int (m : Int))) (.pl (webD W)) (.ac (.list es)) (.pl (.int (k : Int))) s5)) := by
    rw [zcf (zfc hx rfl (by omega)), hk]; rfl
  have ec : zbr 4 zbh (zac (eVar 2) (zac (eVar 4) (zac ch (zac cx aNil)))) (thE cs (.pl (.int (m : Int))) (.pl (webD W)) (.ac (.list es)) (.pl (.int (k : Int))) s5) = some ⟨d, fr, []⟩ := by
    rw [zdh (n := 4) (rs := [⟨webD W, false, []⟩, vi (k : Int), vi h, vi c]) (zba rfl (zba rfl (zba (hh _) (zfx (hc _))))) rfl g]
    show some (⟨d, fr, bsOf d []⟩ : Val) = _
    rw [znv]
  refine ⟨_, es.set k d, by rw [List.length_set]; exact hl, fun e he => ?_, zan e4 (zahc (ds := es) (k := k) rfl ec rfl (by omega) rfl)⟩
  rcases List.mem_or_eq_of_mem_set he with z | rfl
  · exact hr e z
  · exact hd
theorem zadu {P : DEnv → Prop} {t : TF} {A : SF} {env : DEnv} {b : Bool} (ht : t env = some b) (h0 : P env) (hA : ∃ e, A env = some (.nx e) ∧ P e) : ∃ e, sIf t A sNil env = some (.nx e) ∧ P e := by
  cases b with
  | true => obtain ⟨e, h1, h2⟩ := hA; exact ⟨e, if_t ht h1, h2⟩
  | false => exact ⟨env, if_f ht rfl, h0⟩
theorem zzz {es : List PyData} (hl : es.length ≤ 12) (hr : ∀ e ∈ es, zsi e) : zgh (.list es) := fun z hz => by
  cases hz
  exact ⟨by omega, fun e he => (hr e he).1⟩
theorem zack {cs : List Int} (hl : cs.length = 20) (h0 : ∀ c ∈ cs, 0 ≤ c) : ∃ d fr, zer [zdq cs] = some (d, fr) ∧ zgh d := by
  have L : ∀ n : Nat, n < 20 → n < cs.length := fun n h => by rw [hl]; exact h
  have gc := fun (n : Nat) (hn : n < cs.length) => h0 (cs[n]'hn) (List.getElem_mem _)
  have md : ∀ (z j : Int), 0 < j → 0 ≤ z % j ∧ z % j < j := fun z j hj => ⟨Int.emod_nonneg z (by omega), Int.emod_lt_of_pos z hj⟩
  have m10 := md (cs[0]'(L _ (by decide))) 10 (by decide)
  have m2 := md (cs[0]'(L _ (by decide))) 2 (by decide)
  have s1 : ∃ m : Nat, 1 ≤ m ∧ m ≤ 12 ∧ ∀ {o} {k : SF}, k (thE cs (.pl (.int (m : Int))) .no .no .no .no) = o → sSeq (sSet 1 (eOp addD (eC (.int 1)) (eOp modD (eIxV 0 (eC (.int 0))) (eC (.int 10))))) (sSeq (sIf (zas (eOp eqD (eOp modD (eIxV 0 (eC (.int 1))) (eC (.int 5))) (eC (.int 4)))) (sSet 1 (eOp addD (eC (.int 11)) (eOp modD (eIxV 0 (eC (.int 0))) (eC (.int 2))))) sNil) k) (thE cs .no .no .no .no .no) = o := by
    obtain ⟨a, ha⟩ : ∃ a : Nat, (1 : Int) + cs[0]'(L _ (by decide)) % 10 = (a : Int) := ⟨(1 + cs[0]'(L _ (by decide)) % 10).toNat, by omega⟩
    obtain ⟨b, hb⟩ : ∃ b : Nat, (11 : Int) + cs[0]'(L _ (by decide)) % 2 = (b : Int) := ⟨(11 + cs[0]'(L _ (by decide)) % 2).toNat, by omega⟩
    have f1 : sSet 1 (eOp addD (eC (.int 1)) (eOp modD (eIxV 0 (eC (.int 0))) (eC (.int 10)))) (thE cs .no .no .no .no .no) = some (.nx (thE cs (.pl (.int (a : Int))) .no .no .no .no)) := by
      rw [zcf (zmz rfl (zfc (e_c0 (n := 0) rfl (L _ (by decide))) rfl (by decide))), ha]; rfl
    have f2 : sSet 1 (eOp addD (eC (.int 11)) (eOp modD (eIxV 0 (eC (.int 0))) (eC (.int 2)))) (thE cs (.pl (.int (a : Int))) .no .no .no .no) = some (.nx (thE cs (.pl (.int (b : Int))) .no .no .no .no)) := by
      rw [zcf (zmz rfl (zfc (e_c0 (n := 0) rfl (L _ (by decide))) rfl (by decide))), hb]; rfl
    have t : zas (eOp eqD (eOp modD (eIxV 0 (eC (.int 1))) (eC (.int 5))) (eC (.int 4))) (thE cs (.pl (.int (a : Int))) .no .no .no .no) = some (cs[1]'(L _ (by decide)) % 5 == 4) := zdn (zpb (zfc (e_c0 (n := 1) rfl (L _ (by decide))) rfl (by decide)) rfl)
    cases hb5 : (cs[1]'(L _ (by decide)) % 5 == 4) with
    | true => rw [hb5] at t; exact ⟨b, by omega, by omega, fun hk => zan f1 (zan (if_t t f2) hk)⟩
    | false => rw [hb5] at t; exact ⟨a, by omega, by omega, fun hk => zan f1 (zan (if_f t rfl) hk)⟩
  obtain ⟨m, mlo, mhi, s1⟩ := s1
  obtain ⟨xs, gx, lx, nx, lo, ln⟩ := zrf (m := (m : Int)) (c := cs[7]'(L _ (by decide))) (by omega) (by omega) (gc 7 (L _ (by decide)))
  obtain ⟨W, gw, hnm, ok⟩ := zyx (cs := (cs.drop 8).take 12) (xs := xs) (by rw [List.length_take, List.length_drop]; omega) (by omega) nx
  have hWl : W.length = m := by
    have := congrArg List.length hnm
    unfold nm at this
    rw [List.length_map] at this
    omega
  have w : WOk W := ⟨ok, by omega, fun p hp => by
    have : p.1 ∈ xs := by rw [← hnm]; exact List.mem_map.mpr ⟨p, hp, rfl⟩
    exact ⟨lo _ this, ln _ this⟩⟩
  have e2 : sSet 2 (zbr 2 zhw (zac (eSl (eVar 0) (zcc (eC (.int 8))) (zcc (eC (.int 20)))) (zac (zbr 2 zeq (zac (eVar 1) (zac (eIxV 0 (eC (.int 7))) aNil))) aNil))) (thE cs (.pl (.int (m : Int))) .no .no .no .no) = some (.nx (thE cs (.pl (.int (m : Int))) (.ac (webD W)) .no .no .no)) := by
    have es : eSl (eVar 0) (zcc (eC (.int 8))) (zcc (eC (.int 20))) (thE cs (.pl (.int (m : Int))) .no .no .no .no) = some ⟨zdq ((cs.drop 8).take 12), true, []⟩ := by
      rw [show eSl (eVar 0) (zcc (eC (.int 8))) (zcc (eC (.int 20))) (thE cs (.pl (.int (m : Int))) .no .no .no .no) = some ⟨.list (cutD (cs.map .int) (some ((8 : Nat) : Int)) (some ((20 : Nat) : Int))), true, []⟩ from rfl, zaca cs 8 20 (by omega) (by omega)]
      rfl
    have en : zbr 2 zeq (zac (eVar 1) (zac (eIxV 0 (eC (.int 7))) aNil)) (thE cs (.pl (.int (m : Int))) .no .no .no .no) = some ⟨zak xs, true, []⟩ := zdh (n := 2) (rs := [vi (m : Int), vi (cs[7]'(L _ (by decide)))]) (zba rfl (zfx (e_c0 (n := 7) rfl (L _ (by decide))))) rfl gx
    exact zcf (r := ⟨webD W, true, []⟩) (zdh (n := 2) (rs := [⟨zdq ((cs.drop 8).take 12), true, []⟩, ⟨zak xs, true, []⟩]) (zba es (zfx en)) rfl gw)
  have e3 : sSet 3 (zkh ["_law_name", "_law_elders_here"] [] (zgc (eVar 2)) (gT 2 (zbe 0 (zbe 1 zfs))) zki (eTup (zac (eVar 0) (zac (eCB zjm (zac (eVar 1) aNil)) aNil)))) (thE cs (.pl (.int (m : Int))) (.ac (webD W)) .no .no .no) = some (.nx (thE cs (.pl (.int (m : Int))) (.pl (webD W)) (.ac (webD W)) .no .no)) := by
    have cw := zmn (own := ["_law_name", "_law_elders_here"]) (fr := []) (fi := zgc (eVar 2)) (g := gT 2 (zbe 0 (zbe 1 zfs))) (t := zki) (e := eTup (zac (eVar 0) (zac (eCB zjm (zac (eVar 1) aNil)) aNil))) (env := thE cs (.pl (.int (m : Int))) (.ac (webD W)) .no .no .no) (ds := W.map rowD) (bs := [2]) rfl (by rw [List.length_map]; omega) zacb
    refine zcf (r := ⟨webD W, true, [2]⟩) ?_
    rw [cw]
    cases W with
    | nil => exact absurd w.ne (by simp)
    | cons q W => rfl
  have hr0 : ∀ e ∈ W.map rowD, zsi e := fun e he => by
    obtain ⟨q, hq, rfl⟩ := List.mem_map.mp he
    have h1 := w.low q hq
    have h2 := ok.few q hq
    exact zpn (fun x hx => by cases hx; exact ⟨h1.1, by omega⟩) fun z hz => by cases hz; rw [List.length_map]; omega
  have tg : ∀ (env : DEnv) (j : Int) (s1 s2 s3 s4 s5 : Sl), env = thE cs s1 s2 s3 s4 s5 → ∃ b, zas (eOp gtD (eOp modD (eIxV 0 (eC (.int 2))) (eC (.int 8))) (eC (.int j))) env = some b := fun env j s1 s2 s3 s4 s5 he => by
    subst he
    exact ⟨_, zdn (zagu (zfc (e_c0 (n := 2) rfl (L _ (by decide))) rfl (by decide)) rfl)⟩
  let P : DEnv → Prop := fun env => ∃ s4 es, es.length = W.length ∧ (∀ e ∈ es, zsi e) ∧ env = thE cs (.pl (.int (m : Int))) (.pl (webD W)) (.ac (.list es)) s4 .no
  obtain ⟨b1, t1⟩ := tg (thE cs (.pl (.int (m : Int))) (.pl (webD W)) (.ac (webD W)) .no .no) 0 _ _ _ _ _ rfl
  obtain ⟨env1, i1, s4, es, hes, hre, rfl⟩ := zadu (P := P) (A := (sSeq (sSet 4 (eOp modD (eIxV 0 (eC (.int 3))) (eVar 1)))
    (zov 3 (eVar 4) (zbr 4 zbh (zac (eVar 2) (zac (eVar 4) (zac (eOp modD (eOp zci (eIxV 0 (eC (.int 2))) (eC (.int 8))) (eC (.int 13))) (zac (eIxV 0 (eC (.int 4))) aNil)))))))) t1 ⟨_, W.map rowD, by rw [List.length_map], hr0, rfl⟩ (by
      obtain ⟨s4', es', h1, h2, h3⟩ := zakf w hWl.symm (cs := cs) (s4 := .no) (s5 := .no) (es := W.map rowD) (by rw [List.length_map]) hr0 (x := eIxV 0 (eC (.int 3))) (cx := eIxV 0 (eC (.int 4))) (ch := eOp modD (eOp zci (eIxV 0 (eC (.int 2))) (eC (.int 8))) (eC (.int 13))) (gc 4 (L _ (by decide))) (e_c0 (n := 3) rfl (L _ (by decide))) (fun _ => e_c0 (n := 4) rfl (L _ (by decide))) (fun _ => zfc (zhz (e_c0 (n := 2) rfl (L _ (by decide))) rfl (by decide) (by decide)) rfl (by decide))
      exact ⟨_, h3, _, es', h1, h2, rfl⟩)
  obtain ⟨b2, t2⟩ := tg (thE cs (.pl (.int (m : Int))) (.pl (webD W)) (.ac (.list es)) s4 .no) 5 _ _ _ _ _ rfl
  obtain ⟨env2, i2, s4', es2, hes2, hre2, rfl⟩ := zadu (P := P) (A := (sSeq (sSet 4 (eOp modD (eIxV 0 (eC (.int 5))) (eVar 1)))
    (zov 3 (eVar 4) (zbr 4 zbh (zac (eVar 2) (zac (eVar 4) (zac (eOp modD (eOp zci (eIxV 0 (eC (.int 5))) (eC (.int 12))) (eC (.int 13))) (zac (eIxV 0 (eC (.int 6))) aNil)))))))) t2 ⟨_, es, hes, hre, rfl⟩ (by
      obtain ⟨s4', es', h1, h2, h3⟩ := zakf w hWl.symm (cs := cs) (s4 := s4) (s5 := .no) (es := es) hes hre (x := eIxV 0 (eC (.int 5))) (cx := eIxV 0 (eC (.int 6))) (ch := eOp modD (eOp zci (eIxV 0 (eC (.int 5))) (eC (.int 12))) (eC (.int 13))) (gc 6 (L _ (by decide))) (e_c0 (n := 5) rfl (L _ (by decide))) (fun _ => e_c0 (n := 6) rfl (L _ (by decide))) (fun _ => zfc (zhz (e_c0 (n := 5) rfl (L _ (by decide))) rfl (by decide) (by decide)) rfl (by decide))
      exact ⟨_, h3, _, es', h1, h2, rfl⟩)
  have h0l : 0 < es2.length := by omega
  have e5 : sSet 5 (eLst (zac (eCB zlr (zac (eVar 3) aNil)) (zac (eLst aNil) (zac (eC .none) (zac (eC (.str "ab")) (zac zsx (zac (eC (.int 7)) (zac (eC (.bool true)) (zac (eIxV 3 (eC (.int 0))) aNil))))))))) (thE cs (.pl (.int (m : Int))) (.pl (webD W)) (.ac (.list es2)) s4' .no) = some (.nx (thE cs (.pl (.int (m : Int))) (.pl (webD W)) (.pl (.list es2)) s4' (.ac (.list [.tuple es2, .list [], .none, .str "ab", .dict [], .int 7, .bool true, es2[0]])))) := by
    refine zcf (r := ⟨.list [.tuple es2, .list [], .none, .str "ab", .dict [], .int 7, .bool true, es2[0]], true, [3]⟩) ?_
    have ei : eIxV 3 (eC (.int 0)) (thE cs (.pl (.int (m : Int))) (.pl (webD W)) (.ac (.list es2)) s4' .no) = some ⟨es2[0], false, []⟩ := zagn (n := 0) rfl rfl (List.getElem?_eq_getElem h0l)
    exact zake (rs := [⟨.tuple es2, false, [3]⟩, ⟨.list [], true, []⟩, ⟨.none, false, []⟩, ⟨.str "ab", false, []⟩, ⟨.dict [], true, []⟩, ⟨.int 7, false, []⟩, ⟨.bool true, false, []⟩, ⟨es2[0], false, []⟩]) (zba (a := eCB zlr (zac (eVar 3) aNil)) rfl (zba (a := eLst aNil) rfl (zba (a := eC .none) rfl (zba (a := eC (.str "ab")) rfl (zba (a := zsx) rfl (zba (a := eC (.int 7)) rfl (zba (a := eC (.bool true)) rfl (zfx ei)))))))) (by show 8 ≤ 100000; decide)
  have good : ∀ x ∈ [PyData.tuple es2, .list [], .none, .str "ab", .dict [], .int 7, .bool true, es2[0]], zgh x := fun x hx => by
    simp only [List.mem_cons, List.mem_nil_iff, or_false] at hx
    rcases hx with rfl | rfl | rfl | rfl | rfl | rfl | rfl | rfl
    · exact fun z hz => (nomatch hz)
    · exact fun z hz => by cases hz; exact ⟨by decide, fun e he => by cases he⟩
    · exact fun z hz => (nomatch hz)
    · exact fun z hz => (nomatch hz)
    · exact fun z hz => (nomatch hz)
    · exact fun z hz => (nomatch hz)
    · exact fun z hz => (nomatch hz)
    · exact (hre2 _ (List.getElem_mem _)).2
  have len8 : [PyData.tuple es2, .list [], .none, .str "ab", .dict [], .int 7, .bool true, es2[0]].length = 8 := rfl
  generalize [PyData.tuple es2, .list [], .none, .str "ab", .dict [], .int 7, .bool true, es2[0]] = O at e5 good len8
  have t3 : zas (eOp eqD (eOp modD (eOp zci (eIxV 0 (eC (.int 1))) (eC (.int 5))) (eC (.int 8))) (eC (.int 7))) (thE cs (.pl (.int (m : Int))) (.pl (webD W)) (.pl (.list es2)) s4' (.ac (.list O))) = some (cs[1]'(L _ (by decide)) / 5 % 8 == 7) := zdn (zpb (zfc (zhz (e_c0 (n := 1) rfl (L _ (by decide))) rfl (by decide) (by decide)) rfl (by decide)) rfl)
  have run : ∀ {o}, sSeq (sIf (zas (eOp eqD (eOp modD (eOp zci (eIxV 0 (eC (.int 1))) (eC (.int 5))) (eC (.int 8))) (eC (.int 7)))) (sRet (eIxV 5 (eOp modD (eOp zci (eIxV 0 (eC (.int 1))) (eC (.int 40))) (eC (.int 8))))) sNil) (zqj 3) (thE cs (.pl (.int (m : Int))) (.pl (webD W)) (.pl (.list es2)) s4' (.ac (.list O))) = o → zjh (thE cs .no .no .no .no .no) = o := fun h => s1 (zan e2 (zan e3 (zan i1 (zan i2 (zan e5 h)))))
  cases hb : (cs[1]'(L _ (by decide)) / 5 % 8 == 7) with
  | true =>
    rw [hb] at t3
    have m8 := md (cs[1]'(L _ (by decide)) / 40) 8 (by decide)
    obtain ⟨k, hk⟩ : ∃ k : Nat, cs[1]'(L _ (by decide)) / 40 % 8 = (k : Int) := ⟨(cs[1]'(L _ (by decide)) / 40 % 8).toNat, by omega⟩
    have hkl : k < O.length := by omega
    exact ⟨O[k], false, zde (env := thE cs .no .no .no .no .no) rfl (run (zdc (if_t t3 (zgz (zagn (n := k) rfl ((zfc (zhz (e_c0 (n := 1) rfl (L _ (by decide))) rfl (by decide) (by decide)) rfl (by decide)).trans (by rw [hk])) (List.getElem?_eq_getElem hkl)))))), good _ (List.getElem_mem _)⟩
  | false =>
    rw [hb] at t3
    exact ⟨.list es2, false, zde (env := thE cs .no .no .no .no .no) rfl (run (zan (if_f t3 rfl) rfl)), zzz (by omega) hre2⟩
noncomputable def zsj : SF := (sSeq (sSet 2 (zbr 1 zer (zac (eVar 1) aNil)))
    (sSeq (sSet 3 (zbr 1 zeh (zac (eVar 2) aNil)))
    (sSeq (sFor (zgv (zac (eC (.int 2)) aNil)) (gN 4)
    (sSeq (sSet 5 (zbr 1 zik (zac (eVar 2) aNil)))
    (sSeq (sSet 6 (zbr 1 zcv (zac (eVar 2) aNil)))
    (sSeq (sIf (tOrF (zbs (tTru (eIsi "bool" (eVar 5)))) (zas (eOp neD (eVar 5) (eOp eqD (eIxV 3 (eC (.int 0))) (eC (.str "made")))))) (sRet (eC (.bool false))) sNil)
    (sIf (tOrF (zas (eOp neD (eVar 6) (eVar 3))) (tTru (eIsi "bool" (eIxV 6 (eC (.int 1)))))) (sRet (eC (.bool false))) sNil)))))
    (sRet (eC (.bool true))))))
theorem zakg {k : Nat} {i : Int} : shN k (.int i) := by unfold shN PyData.canLay0 PyData.depth; exact ⟨rfl, by omega⟩
theorem zacl {d : PyData} (h : zgh d) : SeqAt.shaped (zacf (webR d)) = true := by
  have w : PyData.strOk "made" = true ∧ PyData.strOk "refused" = true := by decide +kernel
  cases d with
  | list es =>
    cases es with
    | nil => exact zid (k := 2) (zsd (zgg (znu w.2) (zgg zzn zse))) (by decide)
    | cons e es =>
      obtain ⟨h1, h2⟩ := h _ rfl
      have wr : webR (.list (e :: es)) = (match zbl 0 [] (e :: es) with | some i => .rx "NoWeb" (.int (i : Int)) | none => .ok (.list (e :: es)) true) := rfl
      rw [wr]
      cases hf : zbl 0 [] (e :: es) with
      | some i => exact zid (k := 2) (zsd (zgg (znu w.2) (zgg zakg zse))) (by decide)
      | none =>
        have fa := zzq hf (fun a ha => by cases ha) h2
        refine zid (k := 4) (zsd (zgg (znu w.1) (zgg (zado fun x hx => ?_) zse))) (by decide)
        obtain ⟨n, xs, rfl, l1, l2⟩ := fa x hx
        exact zsd (zgg (znu (zra l1)) (zgg (zado (zagx fun y hy => zra (l2 y hy))) zse))
  | _ => exact zid (k := 2) (zsd (zgg (znu w.2) (zgg zzn zse))) (by decide)
theorem zahd {d : PyData} : ∃ x : PyData, zacf (webR d) = .tuple [.str (wdS (webR d)), x] ∧ isiB "bool" x = false := by
  cases hr : webR d with
  | ok x f =>
    refine ⟨x, rfl, ?_⟩
    unfold webR at hr
    split at hr
    · cases hr
    · split at hr <;> cases hr; rfl
    · cases hr
  | rx c x =>
    refine ⟨x, rfl, ?_⟩
    unfold webR at hr
    split at hr
    · cases hr; rfl
    · split at hr <;> cases hr; rfl
    · cases hr; rfl
theorem zacm {cs : List Int} (hl : cs.length = 20) (h0 : ∀ c ∈ cs, 0 ≤ c) : zsj (envL 5 cs) = some (.rt (.bool true) false) := by
  obtain ⟨d, fr, gt, ok⟩ := zack hl h0
  obtain ⟨s2, hs2, e2⟩ : ∃ s2, Hd d s2 ∧ sSet 2 (zbr 1 zer (zac (eVar 1) aNil)) (envL 5 cs) = some (.nx [.no, .pl (zdq cs), s2, .no, .no, .no, .no]) := by
    have e : zbr 1 zer (zac (eVar 1) aNil) (envL 5 cs) = some ⟨d, fr, bsOf d []⟩ := zdh (n := 1) (rs := [⟨zdq cs, false, []⟩]) (zfx rfl) rfl gt
    rw [znv] at e
    rw [zcf e]
    cases fr with
    | false => exact ⟨.pl d, .inl rfl, rfl⟩
    | true => exact ⟨.ac d, .inr rfl, rfl⟩
  obtain ⟨x, hx, hxb⟩ := zahd (d := d)
  have gd := zaka ok
  have gt5 := zaha ok
  have gw := zzr ok
  have sh := zacl ok
  rw [hx] at gd gt5 sh
  rw [zali] at gw
  generalize wdS (webR d) = wd at gd gt5 sh gw
  have e3 : sSet 3 (zbr 1 zeh (zac (eVar 2) aNil)) [.no, .pl (zdq cs), s2, .no, .no, .no, .no] = some (.nx [.no, .pl (zdq cs), .pl d, .pl (.tuple [.str wd, x]), .no, .no, .no]) := by
    rcases hs2 with rfl | rfl
    · exact zcf (r := ⟨.tuple [.str wd, x], false, []⟩) (zdh (n := 1) (rs := [⟨d, false, []⟩]) (zfx rfl) rfl gd)
    · exact zcf (r := ⟨.tuple [.str wd, x], false, [2]⟩) (zdh (n := 1) (rs := [⟨d, false, [2]⟩]) (zfx rfl) rfl gd)
  obtain ⟨env', lp, s4, s5, s6, rfl⟩ := zml (enc := fun k : Nat => PyData.int (k : Int)) (g := gN 4) (l := List.range 2) (env := [.no, .pl (zdq cs), .pl d, .pl (.tuple [.str wd, x]), .no, .no, .no])
    (body := (sSeq (sSet 5 (zbr 1 zik (zac (eVar 2) aNil)))
    (sSeq (sSet 6 (zbr 1 zcv (zac (eVar 2) aNil)))
    (sSeq (sIf (tOrF (zbs (tTru (eIsi "bool" (eVar 5)))) (zas (eOp neD (eVar 5) (eOp eqD (eIxV 3 (eC (.int 0))) (eC (.str "made")))))) (sRet (eC (.bool false))) sNil)
    (sIf (tOrF (zas (eOp neD (eVar 6) (eVar 3))) (tTru (eIsi "bool" (eIxV 6 (eC (.int 1)))))) (sRet (eC (.bool false))) sNil)))))
    (fun _ env => ∃ s4 s5 s6, env = [.no, .pl (zdq cs), .pl d, .pl (.tuple [.str wd, x]), s4, s5, s6]) ⟨_, _, _, rfl⟩ (by
      rintro pre k post env hp ⟨s4, s5, s6, rfl⟩
      have f5 : sSet 5 (zbr 1 zik (zac (eVar 2) aNil)) [.no, .pl (zdq cs), .pl d, .pl (.tuple [.str wd, x]), .pl (.int (k : Int)), s5, s6] = some (.nx [.no, .pl (zdq cs), .pl d, .pl (.tuple [.str wd, x]), .pl (.int (k : Int)), .pl (.bool (wd == "made")), s6]) := zcf (r := vb (wd == "made")) (zdh (n := 1) (rs := [⟨d, false, []⟩]) (zfx rfl) rfl gw)
      have f6 : sSet 6 (zbr 1 zcv (zac (eVar 2) aNil)) [.no, .pl (zdq cs), .pl d, .pl (.tuple [.str wd, x]), .pl (.int (k : Int)), .pl (.bool (wd == "made")), s6] = some (.nx [.no, .pl (zdq cs), .pl d, .pl (.tuple [.str wd, x]), .pl (.int (k : Int)), .pl (.bool (wd == "made")), .pl (.tuple [.str wd, x])]) := zcf (r := ⟨.tuple [.str wd, x], false, []⟩) (zdh (n := 1) (rs := [⟨d, false, []⟩]) (zfx rfl) rfl gt5)
      have ee : eOp eqD (eIxV 3 (eC (.int 0))) (eC (.str "made")) [.no, .pl (zdq cs), .pl d, .pl (.tuple [.str wd, x]), .pl (.int (k : Int)), .pl (.bool (wd == "made")), .pl (.tuple [.str wd, x])] = some (vb (wd == "made")) := zalc (x := wd) rfl rfl
      have t1 : zas (eOp neD (eVar 5) (eOp eqD (eIxV 3 (eC (.int 0))) (eC (.str "made")))) [.no, .pl (zdq cs), .pl d, .pl (.tuple [.str wd, x]), .pl (.int (k : Int)), .pl (.bool (wd == "made")), .pl (.tuple [.str wd, x])] = some false := zajv (d := .bool (wd == "made")) (f1 := false) (b1 := []) rfl ee (zid (k := 1) zagw (by decide))
      have t2 : zas (eOp neD (eVar 6) (eVar 3)) [.no, .pl (zdq cs), .pl d, .pl (.tuple [.str wd, x]), .pl (.int (k : Int)), .pl (.bool (wd == "made")), .pl (.tuple [.str wd, x])] = some false := zajv (d := .tuple [.str wd, x]) (f1 := false) (f2 := false) (b1 := []) (b2 := []) rfl rfl sh
      have t3 : tTru (eIsi "bool" (eIxV 6 (eC (.int 1)))) [.no, .pl (zdq cs), .pl d, .pl (.tuple [.str wd, x]), .pl (.int (k : Int)), .pl (.bool (wd == "made")), .pl (.tuple [.str wd, x])] = some false := by
        have e1 : eIxV 6 (eC (.int 1)) [.no, .pl (zdq cs), .pl d, .pl (.tuple [.str wd, x]), .pl (.int (k : Int)), .pl (.bool (wd == "made")), .pl (.tuple [.str wd, x])] = some ⟨x, false, []⟩ := zzo (ds := [.str wd, x]) (n := 1) rfl rfl rfl
        unfold tTru eIsi
        rw [e1]
        show truD (.bool (isiB "bool" x)) = _
        rw [hxb]; rfl
      exact ⟨_, _, rfl, .inl (zan f5 (zan f6 (zan (if_f (zajw rfl t1) rfl) (if_f (zajw t2 t3) rfl)))), _, _, _, rfl⟩)
  exact zan e2 (zan e3 (zan (zgl (ds := (List.range 2).map fun k : Nat => PyData.int (k : Int)) (bs := []) rfl lp) rfl))
end Bc
namespace Bc
open PySem L2
section
variable {P : Program} {w : World} {K : PySem.W.Frag} {mg : Str → Option Value} {base : Heap}
theorem zalm {s k : Int} (h1 : 0 ≤ s) (h2 : s < 2147483647) (h3 : 0 ≤ k) (h4 : k ≤ 64) : 0 ≤ s * (k + 2) + 7919 * k * k + 11 ∧ s * (k + 2) + 7919 * k * k + 11 < 200000000000 := by
  have a1 : 0 ≤ s * (k + 2) := Int.mul_nonneg h1 (by omega)
  have a2 : s * (k + 2) ≤ 2147483647 * 66 := Int.mul_le_mul (by omega) (by omega) (by omega) (by omega)
  have a3 : 0 ≤ 7919 * k * k := Int.mul_nonneg (by omega) h3
  have a4 : 7919 * k * k ≤ 7919 * 64 * 64 := Int.mul_le_mul (by omega) h4 h3 (by omega)
  omega
noncomputable def ztt (K : PySem.W.Frag) : Sp := fun vs H Q _ => ∃ (a : Addr) (ns : List Int) (m : Int), vs = [.ref a, .int m] ∧ SqL K H a (ns.map .int) ∧ 0 ≤ m ∧ m ≤ 64 ∧
  ∀ p H' (cs : List Int), H p = none → Same H H' → H' p = some (.lst (cs.map .int)) → cs.length = m.toNat → (∀ c ∈ cs, 0 ≤ c ∧ c < 1000000000000) → Q (.ref p) H'
theorem zsk {f : Addr} {fd : FuncData} (F : Fun K "_law_draws" "_law_draws" zet f fd) (T : Txt mg) : FnOk P w K mg base CX0 1 f fd ["_law_script", "_law_many"] (ztt K) := by
  refine F.ok zrq (fun vs H Q E h => ?_) (fun cdv A outer s H vs Q E hr h => ?_)
  · obtain ⟨a, ns, m, rfl, _⟩ := h
    rfl
  · obtain ⟨a, ns, m, rfl, hS, h0, h64, k⟩ := h
    apply Exists.intro
    apply And.intro
    · refine' (zif (ztu (i := 2) (hf := Or.inl rfl) zdy rfl (Or.inl rfl) zfy)
  (zif (zvz PassesOwn.never rfl (zaax (K := K) rfl (ztw (zkb (K := K) rfl) (pv 0) zwk (zwl zfy))) (zsn (i := 3) (hf := Or.inl rfl) zdy rfl (Or.inl rfl))
   (zjb (ztu (i := 2) (hf := Or.inl rfl) zdy rfl (Or.inl rfl) (ziq zbo (ziq (zbg (K := K) rfl) (ziq zgs (pv 2) zfy) (ziq zbo (pv 3) zfy)) zfy))))
  (zif (ztu (i := 4) (hf := Or.inl rfl) zdy rfl (Or.inl rfl) (zacs zkq))
  (zif (zvz PassesOwn.never rfl (zpq rfl T.range (zhi (pv 1) zkq)) (zsn (i := 5) (hf := Or.inl rfl) zdy rfl (Or.inl rfl))
   (zjb (zahn (zwd zaae (pv 5) (ztv (zbq (K := K) rfl) (by rfl) T.len zcg (zhi (pv 0) zkq)) (zbx _)) (zjb (zoa (zwx (K := K) rfl PySem.F.plainAttrs_list PySem.F.slot_list_append PySem.F.type_list_append zdr (pv 4) (zhi (ziq zbo (zahx (zbv (K := K) rfl) (pv 0) (pv 5) (fun _ _ => rfl)) (ziq zacr zfy zfy)) zkq)))) (zjb (zoa (zwx (K := K) rfl PySem.F.plainAttrs_list PySem.F.slot_list_append PySem.F.type_list_append zdr (pv 4) (zhi (ziq zcx (ziq zbo (ziq zacr (ziq (zbg (K := K) rfl) (ziq (zbg (K := K) rfl) (ziq zgs (pv 2) (ziq (zbg (K := K) rfl) (pv 5) zfy)) (ziq zgs (ziq zgs zfy (pv 5)) (pv 5))) zfy) zfy) zfy) zfy) zkq)))))))
  (zjb (zacp (pv 4)))))))
    refine ⟨_, rfl, _, rfl, a, _, rfl, hS, fun p hp => ⟨p, rfl, ⟨_, SqL.of zau⟩, L2.for_list (xs := cutV (ns.map V.int) none (some 63)) (fun i σ H1 => ∃ (sd : Int) (v3 : Option V), σ = [some (.ref a), some (.int m), some (.int sd), v3, none, none] ∧ H1 = upd H p (.lst (cutV (ns.map V.int) none (some 63))) ∧ 0 ≤ sd ∧ sd < 2147483647)
      ⟨7, none, rfl, rfl, by decide, by decide⟩ (fun i σ H1 _ ⟨_, _, _, e, _⟩ => e ▸ SqL.of zau) ?_ ?_⟩⟩
    · rintro i x σ H1 hi ⟨sd, v3, rfl, rfl, b0, b1⟩
      obtain ⟨z, rfl⟩ : ∃ z, x = V.int z := by
        have hm := List.mem_of_getElem? hi
        unfold cutV at hm
        obtain ⟨z, _, e⟩ := List.mem_map.mp (List.mem_of_mem_drop (List.mem_of_mem_take hm))
        exact ⟨z, e.symm⟩
      refine ⟨_, rfl, .inl ⟨by omega, by omega⟩, _, rfl, _, _, rfl, rfl, (by show (0 : Int) < 2147483629; decide), _, _, rfl, rfl, (by show (0 : Int) < 2147483647; decide), ?_⟩
      exact ⟨_, _, rfl, rfl, Int.emod_nonneg _ (by decide), Int.emod_lt_of_pos _ (by decide)⟩
    · rintro σ H1 ⟨sd, v3, rfl, rfl, b0, b1⟩
      refine ⟨Nat.zero_le _, fun q hq => ?_⟩
      have hqH : H q = none := (Same.new hp).free hq
      have sH : ∀ o, Same H (upd (upd H p (.lst (cutV (ns.map V.int) none (some 63)))) q o) := fun o => (Same.new hp).upd hqH
      refine ⟨_, rfl, m, rfl, by omega, by omega, L2.for_range (n := m.toNat) (fun i σ H2 => ∃ (cs : List Int) (v5 : Option V), σ = [some (.ref a), some (.int m), some (.int sd), v3, some (.ref q), v5] ∧ H2 = upd (upd H p (.lst (cutV (ns.map V.int) none (some 63)))) q (.lst (cs.map .int)) ∧ cs.length = i ∧ ∀ c ∈ cs, 0 ≤ c ∧ c < 1000000000000)
        ⟨[], none, rfl, rfl, rfl, fun _ h => nomatch h⟩ ?_ ?_⟩
      · rintro i σ H2 hi ⟨cs, v5, rfl, rfl, hc, hp0⟩
        have hi64 : (i : Int) ≤ 64 := by omega
        refine ⟨_, rfl, _, rfl, _, _, rfl, .inl ⟨_, (sH _).seq hS, rfl⟩, _, _, rfl, rfl, _, rfl, ?_⟩
        have lz : (cs.map V.int).length < sizeLine := by rw [List.length_map, hc]; exact Nat.lt_of_le_of_lt (show i ≤ 64 by omega) (by decide)
        have fin : ∀ v : Int, 0 ≤ v → v < 1000000000000 → ∃ (cs' : List Int) (v5 : Option V), [some (.ref a), some (.int m), some (.int sd), v3, some (.ref q), some (.int (0 + (i : Int)))] = [some (.ref a), some (.int m), some (.int sd), v3, some (.ref q), v5] ∧
            upd (upd (upd H p (.lst (cutV (ns.map V.int) none (some 63)))) q (.lst (cs.map .int))) q (.lst (cs.map V.int ++ [.int v])) = upd (upd H p (.lst (cutV (ns.map V.int) none (some 63)))) q (.lst (cs'.map .int)) ∧ cs'.length = i + 1 ∧ ∀ c ∈ cs', 0 ≤ c ∧ c < 1000000000000 := fun v hv hv2 => by
          refine ⟨cs ++ [v], _, rfl, ?_, by simp [hc], fun c h => ?_⟩
          · rw [zadv, List.map_append]; rfl
          · rcases List.mem_append.mp h with h | h
            · exact hp0 c h
            · rw [List.mem_singleton.mp h]; exact ⟨hv, hv2⟩
        refine ite2 (fun h => ?_) (fun h => ?_)
        · have h : (0 : Int) + i < ((ns.map V.int).length : Nat) := of_decide_eq_true h
          rw [List.length_map] at h
          have hin : i < ns.length := by omega
          have ga : atI (ns.map V.int) (0 + (i : Int)) = some (.int ns[i]) := by
            rw [Int.zero_add]
            exact zjd (by rw [List.getElem?_map, List.getElem?_eq_getElem hin]; rfl)
          refine ⟨_, rfl, .inl ⟨rfl, _, SqL.of zau⟩, _, rfl, _, rfl, _, _, .inl ((sH _).seq hS), ga, _, _, rfl, rfl, ⟨by decide, by decide, by decide⟩, _, _, rfl, rfl, (by show (0 : Int) < 10 ^ 12; decide), q, _, _, rfl, rfl, zau, lz, ?_⟩
          exact fin _ (Int.emod_nonneg _ (by decide)) (Int.emod_lt_of_pos _ (by decide))
        · obtain ⟨d1, d2⟩ := zalm (s := sd) (k := 0 + (i : Int)) b0 b1 (by omega) (by omega)
          refine ⟨_, rfl, .inl ⟨rfl, _, SqL.of zau⟩, _, rfl, _, rfl, .inl ⟨by omega, by omega⟩, _, rfl, .inl ⟨by decide, by decide⟩, _, rfl, .inr ⟨by omega, by omega⟩, ?_⟩
          refine ⟨_, _, rfl, rfl, ⟨by decide, by decide, ?_⟩, _, _, rfl, rfl, (by show (0 : Int) < 2147483647; decide), _, _, rfl, rfl, ⟨by decide, by decide⟩, q, _, _, rfl, rfl, zau, lz, ?_⟩
          · show (sd * (0 + (i : Int) + 2) + 7919 * (0 + (i : Int)) * (0 + (i : Int)) + 11).natAbs < 2 ^ 64
            omega
          · refine fin _ (Int.ediv_nonneg (Int.emod_nonneg _ (by decide)) (by decide)) ?_
            have h9 : ∀ z : Int, z % 2147483647 / 7 < 1000000000000 := fun z => by have := Int.emod_lt_of_pos z (show (0 : Int) < 2147483647 by decide); omega
            exact h9 _
      · rintro σ H2 ⟨cs, v5, rfl, rfl, hc, hp0⟩
        exact ⟨_, rfl, k q _ cs hqH (sH _) zau hc hp0⟩
end
section
variable {P : Program} {w : World} {K : PySem.W.Frag} {mg : Str → Option Value} {base : Heap}
noncomputable def zacn (K : PySem.W.Frag) : Sp := fun vs H Q _ => ∃ (a : Addr) (ns : List Int), vs = [.ref a] ∧ SqL K H a (ns.map V.int) ∧ ∀ H', Q (.bl true) H'
theorem zakh {f : Addr} {fd : FuncData} (F : Fun K "law" "law" zpf f fd) (T : Txt mg) (D_law_draws : Dn P w K mg base "_law_draws" ["_law_script", "_law_many"] 1 (ztt K)) (D_law_due : zry P w K mg base) (D_law_thing : zmw P w K mg base) (D_law_told : znt P w K mg base) (D_is_web : zus P w K mg base) : FnOk P w K mg base CX0 5 f fd ["_law_script"] (zacn K) := by
  refine F.ok zajt (fun vs H Q E h => ?_) (fun cdv A outer s H vs Q E hr h => ?_)
  · obtain ⟨a, ns, rfl, _⟩ := h
    rfl
  · obtain ⟨a, ns, rfl, hS, k⟩ := h
    have hu := zir hr
    apply Exists.intro
    apply And.intro
    · refine' Bx.out (zah (zaz (i := 1) zmt rfl (Or.inl rfl) (zed D_law_draws (hr.mono (by decide)) (by rfl) (zaa (bv 0) (zaa zaf zai (by rfl)) (by rfl)) (by decide) (zag (by rfl)) (by rfl)) (by rfl) (.inl rfl))
  (zah (zaz (i := 2) zmt rfl (Or.inl rfl) (zed D_law_thing (hr.mono (by decide)) (by rfl) (zaa (bv 1) zai (by rfl)) (by decide) (zag (by rfl)) (by rfl)) (by rfl) (.inl rfl))
  (zah (zaz (i := 3) zmt rfl (Or.inl rfl) (zed D_law_due (hr.mono (by decide)) (by rfl) (zaa (bv 2) zai (by rfl)) (by decide) (zag (by rfl)) (by rfl)) (by rfl) (.inl rfl))
  (zah (zhv PassesOwn.never rfl (zkj rfl T.range (zaa zaf zai (by rfl)) (by rfl)) (zbk (i := 4) zmt rfl (Or.inl rfl) (.inl rfl))
   (zah (zaz (i := 5) zmt rfl (Or.inl rfl) (zed D_is_web (hr.mono (by decide)) (by rfl) (zaa (bv 2) zai (by rfl)) (by decide) (zag (by rfl)) (by rfl)) (by rfl) (.inl rfl))
  (zah (zaz (i := 6) zmt rfl (Or.inl rfl) (zed D_law_told (hr.mono (by decide)) (by rfl) (zaa (bv 2) zai (by rfl)) (by decide) (zag (by rfl)) (by rfl)) (by rfl) (.inl rfl))
  (zah (zbn (zfk (zda (zbd (K := K) rfl (zat (zdf (K := K) rfl) (by rfl) T.isinstance zaw (zaa (bv 5) (zaa (zdt (v := .ty "bool") (by rfl) T.bool zro rfl (by decide) (by decide)) zai (by rfl)) (by rfl)) (by decide) (by decide) (zag (by rfl)) (by rfl)) (fun _ => rfl))) (zee (zav (zuc (K := K) rfl hr.units) (bv 5) (zow (zfb (K := K) rfl hr.units) (zbc (zbv (K := K) rfl) (bv 3) zaf (fun _ _ => rfl)) zdu (zbx _)) (zbx _)))).pt (zaj (zax zek)) zbb)
  (zaj (zbn (zfk (zav (zuc (K := K) rfl hr.units) (bv 6) (bv 3) (zbx _)) (zee (zbd (K := K) rfl (zat (zdf (K := K) rfl) (by rfl) T.isinstance zaw (zaa (zbc (zbv (K := K) rfl) (bv 6) zaf (fun _ _ => rfl)) (zaa (zdt (v := .ty "bool") (by rfl) T.bool zro rfl (by decide) (by decide)) zai (by rfl)) (by rfl)) (by decide) (by decide) (zag (by rfl)) (by rfl)) (fun _ => rfl)))).pt (zaj (zax zek)) zbb))))) (by intro _; rfl))
  (zaj (zax zek))))))
    refine ⟨_, rfl, a, ns, 20, rfl, hS, by decide, by decide, fun pc H1 cs hpc s1 e1 lc p1 => ?_⟩
    exact zagh (F := zsj) ((zar (zbj (zcz (zae (zad 1) zao))) (zar (zbj (zcz (zae (zad 2) zao))) (zar (zlv (zlu (zae (se_c fun _ => zab) zao)) zkf (zar (zbj (zcz (zae (zad 2) zao))) (zar (zbj (zcz (zae (zad 2) zao))) (zar (zdi (zis (zez (zfi (zhq (zad 5) ztz))) (st_t (zap zaba (zad 5) (zap zho (zbi (se_c fun _ => zab)) (se_c fun _ => zbf))))) (zbm (se_c fun _ => zam)) zck) (zdi (zis (st_t (zap zaba (zad 6) (zad 3))) (zfi (zhq (zbi (se_c fun _ => zab)) ztz))) (zbm (se_c fun _ => zam)) zck))))) (zbm (se_c fun _ => zam)))))) (zagi (n := 5) e1) (zacm lc (fun c h => (p1 c h).1)) k
end
theorem us_s {us : List Value} {n : Nat} (h : us.length = n + 1) : ∃ a t, us = a :: t ∧ t.length = n := by
  cases us with
  | nil => cases h
  | cons a t => exact ⟨a, t, rfl, Nat.succ.inj h⟩
theorem us_1 {us : List Value} (h : us.length = 1) : ∃ a0, us = [a0] := by
  obtain ⟨a, t, rfl, h2⟩ := us_s h
  cases List.length_eq_zero_iff.mp h2
  exact ⟨a, rfl⟩
theorem us_2 {us : List Value} (h : us.length = 2) : ∃ a0 a1, us = [a0, a1] := by
  obtain ⟨a0, t, rfl, h2⟩ := us_s h
  obtain ⟨a1, rfl⟩ := us_1 h2
  exact ⟨a0, a1, rfl⟩
theorem us_3 {us : List Value} (h : us.length = 3) : ∃ a0 a1 a2, us = [a0, a1, a2] := by
  obtain ⟨a0, t, rfl, h2⟩ := us_s h
  obtain ⟨a1, a2, rfl⟩ := us_2 h2
  exact ⟨a0, a1, a2, rfl⟩
theorem us_4 {us : List Value} (h : us.length = 4) : ∃ a0 a1 a2 a3, us = [a0, a1, a2, a3] := by
  obtain ⟨a0, t, rfl, h2⟩ := us_s h
  obtain ⟨a1, a2, a3, rfl⟩ := us_3 h2
  exact ⟨a0, a1, a2, a3, rfl⟩
theorem all_mk {l : PySem.W.OpenLaw} {w : World} {K : PySem.W.Frag} {h : Heap} {mg : Str → Option Value} {fa f1 f2 f3 f4 f5 f6 f7 f8 f9 f10 f11 f12 f13 f14 f15 f16 f17 : Addr} (X : K.In h) (G : h.Ns mainGlobals mg) (hfa : mg "law" = some (.ref fa))
    {od1 an1 od2 an2 od3 an3 od4 an4 od5 an5 od6 an6 od7 an7 od8 an8 od9 an9 od10 an10 od11 an11 od12 an12 od13 an13 od14 an14 od15 an15 od16 an16 od17 an17 : Option Addr} {sl1 sl2 sl3 sl4 sl5 sl6 sl7 sl8 sl9 sl10 sl11 sl12 sl13 sl14 sl15 sl16 sl17 : Array (Option Value)} {oc1 kV1 dc1 pm1 cd1 ct1 oc2 kV2 dc2 pm2 cd2 ct2 oc3 kV3 dc3 pm3 cd3 ct3 oc4 kV4 dc4 pm4 cd4 ct4 oc5 kV5 dc5 pm5 cd5 ct5 oc6 kV6 dc6 pm6 cd6 ct6 oc7 kV7 dc7 pm7 cd7 ct7 oc8 kV8 dc8 pm8 cd8 ct8 oc9 kV9 dc9 pm9 cd9 ct9 oc10 kV10 dc10 pm10 cd10 ct10 oc11 kV11 dc11 pm11 cd11 ct11 oc12 kV12 dc12 pm12 cd12 ct12 oc13 kV13 dc13 pm13 cd13 ct13 oc14 kV14 dc14 pm14 cd14 ct14 oc15 kV15 dc15 pm15 cd15 ct15 oc16 kV16 dc16 pm16 cd16 ct16 oc17 kV17 dc17 pm17 cd17 ct17 : Value}
    (a1 : PySem.W.nsIn K mainGlobals "is_name" = some (some (.ref f1))) (l1 : K.lookup f1 = some ⟨oc1, od1, .func (PySem.W.fnOf "is_name" "is_name" (zcb zgm) (zbp zgm) (zal zgm) .none kV1 dc1 pm1 an1 cd1 ct1), sl1⟩) (c1 : PySem.W.codeIn K cd1 "is_name" = true) (k1 : PySem.W.keepIn K (.ref f1) = true)
    (a2 : PySem.W.nsIn K mainGlobals "are_unlike_of" = some (some (.ref f2))) (l2 : K.lookup f2 = some ⟨oc2, od2, .func (PySem.W.fnOf "are_unlike_of" "are_unlike_of" (zcb zcn) (zbp zcn) (zal zcn) .none kV2 dc2 pm2 an2 cd2 ct2), sl2⟩) (c2 : PySem.W.codeIn K cd2 "are_unlike_of" = true) (k2 : PySem.W.keepIn K (.ref f2) = true)
    (a3 : PySem.W.nsIn K mainGlobals "is_kind_behind" = some (some (.ref f3))) (l3 : K.lookup f3 = some ⟨oc3, od3, .func (PySem.W.fnOf "is_kind_behind" "is_kind_behind" (zcb zce) (zbp zce) (zal zce) .none kV3 dc3 pm3 an3 cd3 ct3), sl3⟩) (c3 : PySem.W.codeIn K cd3 "is_kind_behind" = true) (k3 : PySem.W.keepIn K (.ref f3) = true)
    (a4 : PySem.W.nsIn K mainGlobals "copy_of_web" = some (some (.ref f4))) (l4 : K.lookup f4 = some ⟨oc4, od4, .func (PySem.W.fnOf "copy_of_web" "copy_of_web" (zcb zdl) (zbp zdl) (zal zdl) .none kV4 dc4 pm4 an4 cd4 ct4), sl4⟩) (c4 : PySem.W.codeIn K cd4 "copy_of_web" = true) (k4 : PySem.W.keepIn K (.ref f4) = true)
    (a5 : PySem.W.nsIn K mainGlobals "web_of" = some (some (.ref f5))) (l5 : K.lookup f5 = some ⟨oc5, od5, .func (PySem.W.fnOf "web_of" "web_of" (zcb zim) (zbp zim) (zal zim) .none kV5 dc5 pm5 an5 cd5 ct5), sl5⟩) (c5 : PySem.W.codeIn K cd5 "web_of" = true) (k5 : PySem.W.keepIn K (.ref f5) = true)
    (a6 : PySem.W.nsIn K mainGlobals "is_web" = some (some (.ref f6))) (l6 : K.lookup f6 = some ⟨oc6, od6, .func (PySem.W.fnOf "is_web" "is_web" (zcb zin) (zbp zin) (zal zin) .none kV6 dc6 pm6 an6 cd6 ct6), sl6⟩) (c6 : PySem.W.codeIn K cd6 "is_web" = true) (k6 : PySem.W.keepIn K (.ref f6) = true)
    (a7 : PySem.W.nsIn K mainGlobals "_law_draws" = some (some (.ref f7))) (l7 : K.lookup f7 = some ⟨oc7, od7, .func (PySem.W.fnOf "_law_draws" "_law_draws" (zcb zet) (zbp zet) (zal zet) .none kV7 dc7 pm7 an7 cd7 ct7), sl7⟩) (c7 : PySem.W.codeIn K cd7 "_law_draws" = true) (k7 : PySem.W.keepIn K (.ref f7) = true)
    (a8 : PySem.W.nsIn K mainGlobals "_law_names" = some (some (.ref f8))) (l8 : K.lookup f8 = some ⟨oc8, od8, .func (PySem.W.fnOf "_law_names" "_law_names" (zcb zeu) (zbp zeu) (zal zeu) .none kV8 dc8 pm8 an8 cd8 ct8), sl8⟩) (c8 : PySem.W.codeIn K cd8 "_law_names" = true) (k8 : PySem.W.keepIn K (.ref f8) = true)
    (a9 : PySem.W.nsIn K mainGlobals "_law_web" = some (some (.ref f9))) (l9 : K.lookup f9 = some ⟨oc9, od9, .func (PySem.W.fnOf "_law_web" "_law_web" (zcb zgn) (zbp zgn) (zal zgn) .none kV9 dc9 pm9 an9 cd9 ct9), sl9⟩) (c9 : PySem.W.codeIn K cd9 "_law_web" = true) (k9 : PySem.W.keepIn K (.ref f9) = true)
    (a10 : PySem.W.nsIn K mainGlobals "_law_odd" = some (some (.ref f10))) (l10 : K.lookup f10 = some ⟨oc10, od10, .func (PySem.W.fnOf "_law_odd" "_law_odd" (zcb zgo) (zbp zgo) (zal zgo) .none kV10 dc10 pm10 an10 cd10 ct10), sl10⟩) (c10 : PySem.W.codeIn K cd10 "_law_odd" = true) (k10 : PySem.W.keepIn K (.ref f10) = true)
    (a11 : PySem.W.nsIn K mainGlobals "_law_elders" = some (some (.ref f11))) (l11 : K.lookup f11 = some ⟨oc11, od11, .func (PySem.W.fnOf "_law_elders" "_law_elders" (zcb zdz) (zbp zdz) (zal zdz) .none kV11 dc11 pm11 an11 cd11 ct11), sl11⟩) (c11 : PySem.W.codeIn K cd11 "_law_elders" = true) (k11 : PySem.W.keepIn K (.ref f11) = true)
    (a12 : PySem.W.nsIn K mainGlobals "_law_spoilt" = some (some (.ref f12))) (l12 : K.lookup f12 = some ⟨oc12, od12, .func (PySem.W.fnOf "_law_spoilt" "_law_spoilt" (zcb zea) (zbp zea) (zal zea) .none kV12 dc12 pm12 an12 cd12 ct12), sl12⟩) (c12 : PySem.W.codeIn K cd12 "_law_spoilt" = true) (k12 : PySem.W.keepIn K (.ref f12) = true)
    (a13 : PySem.W.nsIn K mainGlobals "_law_thing" = some (some (.ref f13))) (l13 : K.lookup f13 = some ⟨oc13, od13, .func (PySem.W.fnOf "_law_thing" "_law_thing" (zcb zev) (zbp zev) (zal zev) .none kV13 dc13 pm13 an13 cd13 ct13), sl13⟩) (c13 : PySem.W.codeIn K cd13 "_law_thing" = true) (k13 : PySem.W.keepIn K (.ref f13) = true)
    (a14 : PySem.W.nsIn K mainGlobals "_law_good" = some (some (.ref f14))) (l14 : K.lookup f14 = some ⟨oc14, od14, .func (PySem.W.fnOf "_law_good" "_law_good" (zcb zfo) (zbp zfo) (zal zfo) .none kV14 dc14 pm14 an14 cd14 ct14), sl14⟩) (c14 : PySem.W.codeIn K cd14 "_law_good" = true) (k14 : PySem.W.keepIn K (.ref f14) = true)
    (a15 : PySem.W.nsIn K mainGlobals "_law_due" = some (some (.ref f15))) (l15 : K.lookup f15 = some ⟨oc15, od15, .func (PySem.W.fnOf "_law_due" "_law_due" (zcb zgq) (zbp zgq) (zal zgq) .none kV15 dc15 pm15 an15 cd15 ct15), sl15⟩) (c15 : PySem.W.codeIn K cd15 "_law_due" = true) (k15 : PySem.W.keepIn K (.ref f15) = true)
    (a16 : PySem.W.nsIn K mainGlobals "_law_told" = some (some (.ref f16))) (l16 : K.lookup f16 = some ⟨oc16, od16, .func (PySem.W.fnOf "_law_told" "_law_told" (zcb zfp) (zbp zfp) (zal zfp) .none kV16 dc16 pm16 an16 cd16 ct16), sl16⟩) (c16 : PySem.W.codeIn K cd16 "_law_told" = true) (k16 : PySem.W.keepIn K (.ref f16) = true)
    (a17 : PySem.W.nsIn K mainGlobals "law" = some (some (.ref f17))) (l17 : K.lookup f17 = some ⟨oc17, od17, .func (PySem.W.fnOf "law" "law" (zcb zpf) (zbp zpf) (zal zpf) .none kV17 dc17 pm17 an17 cd17 ct17), sl17⟩) (c17 : PySem.W.codeIn K cd17 "law" = true) (k17 : PySem.W.keepIn K (.ref f17) = true)
    {y0 y1 y2 y3 y4 fI : Addr} {xoc xkV xdc xpm xcd xct : Value} {xod xan : Option Addr} {xsl : Array (Option Value)}
    {xdd0 : Option Addr} {xsl0 : Array (Option Value)} {xcdt0 : ClassData}
    (xa0 : PySem.W.nsIn K mainGlobals "NoWeb" = some (some (.ref y0)))
    (xp0 : PySem.W.isClsIn K y0 = true)
    (xq0 : PySem.W.typeIn K (.ref y0) = some (.type "type"))
    (xa1 : PySem.W.nsIn K mainGlobals "NoBook" = some (some (.ref y1)))
    (xp1 : PySem.W.isClsIn K y1 = true)
    (xq1 : PySem.W.typeIn K (.ref y1) = some (.type "type"))
    (xa2 : PySem.W.nsIn K mainGlobals "NoKind" = some (some (.ref y2)))
    (xp2 : PySem.W.isClsIn K y2 = true)
    (xq2 : PySem.W.typeIn K (.ref y2) = some (.type "type"))
    (xa3 : PySem.W.nsIn K mainGlobals "NoName" = some (some (.ref y3)))
    (xp3 : PySem.W.isClsIn K y3 = true)
    (xq3 : PySem.W.typeIn K (.ref y3) = some (.type "type"))
    (xa4 : PySem.W.nsIn K mainGlobals "CallError" = some (some (.ref y4)))
    (xp4 : PySem.W.isClsIn K y4 = true)
    (xq4 : PySem.W.typeIn K (.ref y4) = some (.type "type"))
    (xz : PySem.W.nsIn K mainGlobals "ValueError" = some none)
    (xi0 : PySem.W.findIn K (.ref y0) "__init__" = some (some (.ref fI)))
    (xl : K.lookup fI = some ⟨xoc, xod, .func (PySem.W.fnOf "__init__" "CallError.__init__" (zcb (zoe (top 1) 0)) (zbp (zoe (top 1) 0)) (zal (zoe (top 1) 0)) .none xkV xdc xpm xan xcd xct), xsl⟩)
    (xc : PySem.W.codeIn K xcd "CallError.__init__" = true)
    (xk : PySem.W.keepIn K (.ref fI) = true)
    (xf : PySem.W.isFn K (.ref fI) = true)
    (xlc0 : K.lookup y0 = some ⟨.type "type", xdd0, .cls xcdt0, xsl0⟩)
    (xb0 : xcB y0 xcdt0 xsl0 = true)
    (xkp0 : PySem.W.keepIn K (.ref y0) = true)
    (xsa0 : PySem.W.findIn K (.ref y0) "__setattr__" = some (some (.builtin "object.__setattr__")))
    (xat0 : PySem.W.findIn K (.ref y0) "at" = some (none))
    (xga0 : PySem.W.findIn K (.ref y0) "__getattribute__" = some (some (.builtin "BaseException.__getattribute__")))
    (xgh0 : PySem.W.findIn K (.ref y0) "__getattr__" = some (none))
    (xcl0 : PySem.W.findIn K (.ref y0) "__class__" = some (some (.builtin "object.__class__")))
    (xs0_b : PySem.W.subIn K (.ref y0) (.type "BaseException") = some true)
    (xs0_v : PySem.W.subIn K (.ref y0) (.type "ValueError") = some true)
    (xs0_s : PySem.W.subIn K (.ref y0) (.ref y0) = some true)
    (xs0_B : PySem.W.subIn K (.ref y0) (.ref y4) = some true)
    (xs0_1 : PySem.W.subIn K (.ref y0) (.ref y1) = some false)
    (xs0_2 : PySem.W.subIn K (.ref y0) (.ref y2) = some false)
    (xs0_3 : PySem.W.subIn K (.ref y0) (.ref y3) = some false)
    (xBb : PySem.W.subIn K (.ref y4) (.type "BaseException") = some true)
    (z1 : PySem.W.nsIn K mainGlobals "all" = some none) (z2 : PySem.W.nsIn K mainGlobals "bool" = some none) (z3 : PySem.W.nsIn K mainGlobals "enumerate" = some none) (z4 : PySem.W.nsIn K mainGlobals "isinstance" = some none) (z5 : PySem.W.nsIn K mainGlobals "len" = some none) (z6 : PySem.W.nsIn K mainGlobals "list" = some none) (z7 : PySem.W.nsIn K mainGlobals "min" = some none) (z8 : PySem.W.nsIn K mainGlobals "range" = some none) (z9 : PySem.W.nsIn K mainGlobals "set" = some none) (z10 : PySem.W.nsIn K mainGlobals "str" = some none) (z11 : PySem.W.nsIn K mainGlobals "tuple" = some none) {gt1 : Tok} (g1 : PySem.W.nsIn K mainGlobals "MOST_ELDERS" = some (some (.int 4 gt1))) {gt2 : Tok} (g2 : PySem.W.nsIn K mainGlobals "MOST_KINDS" = some (some (.int 10 gt2))) {gt3 : Tok} (g3 : PySem.W.nsIn K mainGlobals "MOST_LETTERS" = some (some (.int 8 gt3))) :
    ∃ fd : FuncData, (∀ (s : Shared) (v : Value), BindsTo s fd ⟨[v], []⟩ [("_law_script", v)]) ∧ ∀ base : Heap, K.In base → base.Ns mainGlobals mg → FnOk l.prog w K mg base CX0 5 fa fd ["_law_script"] (zacn K) := by
  have e := hfa.symm.trans (PySem.W.mg_of X G a17)
  cases e
  have T : Txt mg := ⟨PySem.W.mg_none_of X G z1, PySem.W.mg_none_of X G z2, PySem.W.mg_none_of X G z3, PySem.W.mg_none_of X G z4, PySem.W.mg_none_of X G z5, PySem.W.mg_none_of X G z6, PySem.W.mg_none_of X G z7, PySem.W.mg_none_of X G z8, PySem.W.mg_none_of X G z9, PySem.W.mg_none_of X G z10, PySem.W.mg_none_of X G z11, ⟨_, PySem.W.mg_of X G g1⟩, ⟨_, PySem.W.mg_of X G g2⟩, ⟨_, PySem.W.mg_of X G g3⟩⟩
  have F1 := zej (st := zgm) l1 c1 k1
  have b1 := F1.binds (ps := ["thing"]) fun _ _ _ _ _ _ us hl => by obtain ⟨_, rfl⟩ := us_1 hl; rfl
  have F2 := zej (st := zcn) l2 c2 k2
  have b2 := F2.binds (ps := ["known", "things"]) fun _ _ _ _ _ _ us hl => by obtain ⟨_, _, rfl⟩ := us_2 hl; rfl
  have F3 := zej (st := zce) l3 c3 k3
  have b3 := F3.binds (ps := ["ahead", "thing"]) fun _ _ _ _ _ _ us hl => by obtain ⟨_, _, rfl⟩ := us_2 hl; rfl
  have F4 := zej (st := zdl) l4 c4 k4
  have b4 := F4.binds (ps := ["web"]) fun _ _ _ _ _ _ us hl => by obtain ⟨_, rfl⟩ := us_1 hl; rfl
  have F5 := zej (st := zim) l5 c5 k5
  have b5 := F5.binds (ps := ["thing"]) fun _ _ _ _ _ _ us hl => by obtain ⟨_, rfl⟩ := us_1 hl; rfl
  have F6 := zej (st := zin) l6 c6 k6
  have b6 := F6.binds (ps := ["thing"]) fun _ _ _ _ _ _ us hl => by obtain ⟨_, rfl⟩ := us_1 hl; rfl
  have F7 := zej (st := zet) l7 c7 k7
  have b7 := F7.binds (ps := ["_law_script", "_law_many"]) fun _ _ _ _ _ _ us hl => by obtain ⟨_, _, rfl⟩ := us_2 hl; rfl
  have F8 := zej (st := zeu) l8 c8 k8
  have b8 := F8.binds (ps := ["_law_many", "_law_cell"]) fun _ _ _ _ _ _ us hl => by obtain ⟨_, _, rfl⟩ := us_2 hl; rfl
  have F9 := zej (st := zgn) l9 c9 k9
  have b9 := F9.binds (ps := ["_law_cells", "_law_names_here"]) fun _ _ _ _ _ _ us hl => by obtain ⟨_, _, rfl⟩ := us_2 hl; rfl
  have F10 := zej (st := zgo) l10 c10 k10
  have b10 := F10.binds (ps := ["_law_name", "_law_cell"]) fun _ _ _ _ _ _ us hl => by obtain ⟨_, _, rfl⟩ := us_2 hl; rfl
  have F11 := zej (st := zdz) l11 c11 k11
  have b11 := F11.binds (ps := ["_law_web_here", "_law_place", "_law_choice", "_law_cell"]) fun _ _ _ _ _ _ us hl => by obtain ⟨_, _, _, _, rfl⟩ := us_4 hl; rfl
  have F12 := zej (st := zea) l12 c12 k12
  have b12 := F12.binds (ps := ["_law_web_here", "_law_place", "_law_choice", "_law_cell"]) fun _ _ _ _ _ _ us hl => by obtain ⟨_, _, _, _, rfl⟩ := us_4 hl; rfl
  have F13 := zej (st := zev) l13 c13 k13
  have b13 := F13.binds (ps := ["_law_cells"]) fun _ _ _ _ _ _ us hl => by obtain ⟨_, rfl⟩ := us_1 hl; rfl
  have F14 := zej (st := zfo) l14 c14 k14
  have b14 := F14.binds (ps := ["_law_row", "_law_ahead"]) fun _ _ _ _ _ _ us hl => by obtain ⟨_, _, rfl⟩ := us_2 hl; rfl
  have F15 := zej (st := zgq) l15 c15 k15
  have b15 := F15.binds (ps := ["_law_thing_here"]) fun _ _ _ _ _ _ us hl => by obtain ⟨_, rfl⟩ := us_1 hl; rfl
  have F16 := zej (st := zfp) l16 c16 k16
  have b16 := F16.binds (ps := ["_law_thing_here"]) fun _ _ _ _ _ _ us hl => by obtain ⟨_, rfl⟩ := us_1 hl; rfl
  have F17 := zej (st := zpf) l17 c17 k17
  refine ⟨PySem.W.fnOf "law" "law" (zcb zpf) (zbp zpf) (zal zpf) .none kV17 dc17 pm17 an17 cd17 ct17, fun s v => .of_eq rfl, fun base _ _ => ?_⟩
  have XF := zej (st := zoe (top 1) 0) xl xc xk
  have xv := PySem.W.mg_none_of X G xz
  obtain ⟨cl, cl0, cl1, cl2, cl3, cl4⟩ : ∃ cl : Str → Addr, cl "NoWeb" = y0 ∧ cl "NoBook" = y1 ∧ cl "NoKind" = y2 ∧ cl "NoName" = y3 ∧ cl "CallError" = y4 := ⟨fun s => if s = "NoWeb" then y0 else if s = "NoBook" then y1 else if s = "NoKind" then y2 else if s = "NoName" then y3 else if s = "CallError" then y4 else 0, rfl, rfl, rfl, rfl, rfl⟩
  have XM0 : XMk K y0 fI := ⟨(zaji xlc0 xb0).1, (zaji xlc0 xb0).2, xi0, xf, xkp0, xsa0, xat0, xga0, xgh0⟩
  have X_NoWeb : XcOk l.prog w K mg base "NoWeb" (cl "NoWeb") := by rw [cl0]; exact ⟨fI, _, XM0, zafj XF XM0 xv rfl rfl (by decide) (fun _ => ⟨_, rfl⟩), XF.binds (ps := ["self", "at"]) (fun _ _ _ _ _ _ us hl => by obtain ⟨_, _, rfl⟩ := us_2 hl; rfl), PySem.W.mg_of X G xa0, xcl0, zajl xs0_b xp0 xq0 xs0_s⟩
  have XK_law_told : XKit l.prog w K mg base cl ["NoWeb"] ["NoBook", "NoKind", "NoName", "NoWeb"] "CallError" := by
    refine ⟨(zff X_NoWeb znl), ?_, ?_, ?_, ?_, ?_, xv⟩
    · rw [cl4]; exact (zff (by rw [cl0]; exact zajm xBb xp4 xq4 xs0_B) znl)
    · exact (zff (zff (by rw [cl0, cl1]; exact kd_f (zyh xs0_s xp1 xq1 xs0_1) (by decide)) (zff (by rw [cl0, cl2]; exact kd_f (zyh xs0_s xp2 xq2 xs0_2) (by decide)) (zff (by rw [cl0, cl3]; exact kd_f (zyh xs0_s xp3 xq3 xs0_3) (by decide)) (zff (by rw [cl0]; exact kd_t (zajj xp0 xq0 xs0_s) rfl) znl)))) znl)
    · exact (zff (by rw [cl0]; exact zajk xs0_v) znl)
    · exact (zff (by rw [cl1]; exact PySem.W.mg_of X G xa1) (zff (by rw [cl2]; exact PySem.W.mg_of X G xa2) (zff (by rw [cl3]; exact PySem.W.mg_of X G xa3) (zff (by rw [cl0]; exact PySem.W.mg_of X G xa0) znl))))
    · rw [cl4]; exact PySem.W.mg_of X G xa4
  have D_is_name : zrw l.prog w K mg base := ⟨f1, _, zvq F1 T , PySem.W.mg_of X G a1, k1, b1⟩
  have D_are_unlike_of : zic l.prog w K mg base := ⟨f2, _, zlf F2 T , PySem.W.mg_of X G a2, k2, b2⟩
  have D_is_kind_behind : zhe l.prog w K mg base := ⟨f3, _, zkm F3 T D_are_unlike_of D_is_name, PySem.W.mg_of X G a3, k3, b3⟩
  have D_copy_of_web : zjy l.prog w K mg base := ⟨f4, _, znc F4 T , PySem.W.mg_of X G a4, k4, b4⟩
  have D_web_of : zph l.prog w K mg base cl := ⟨f5, _, zzg (cl := cl) F5 T D_copy_of_web D_is_kind_behind X_NoWeb, PySem.W.mg_of X G a5, k5, b5⟩
  have D_is_web : zus l.prog w K mg base := ⟨f6, _, zzh (cl := cl) F6 T D_web_of X_NoWeb, PySem.W.mg_of X G a6, k6, b6⟩
  have D_law_draws : Dn l.prog w K mg base "_law_draws" ["_law_script", "_law_many"] 1 (ztt K) := ⟨f7, _, zsk F7 T , PySem.W.mg_of X G a7, k7, b7⟩
  have D_law_names : zmu l.prog w K mg base := ⟨f8, _, zrz F8 T , PySem.W.mg_of X G a8, k8, b8⟩
  have D_law_web : zrx l.prog w K mg base := ⟨f9, _, zvr F9 T , PySem.W.mg_of X G a9, k9, b9⟩
  have D_law_odd : zmv l.prog w K mg base := ⟨f10, _, zvs F10 T , PySem.W.mg_of X G a10, k10, b10⟩
  have D_law_elders : zky l.prog w K mg base := ⟨f11, _, zpi F11 T D_law_odd, PySem.W.mg_of X G a11, k11, b11⟩
  have D_law_spoilt : zkz l.prog w K mg base := ⟨f12, _, zpj F12 T D_law_elders D_law_odd, PySem.W.mg_of X G a12, k12, b12⟩
  have D_law_thing : zmw l.prog w K mg base := ⟨f13, _, zsa F13 T D_law_names D_law_spoilt D_law_web, PySem.W.mg_of X G a13, k13, b13⟩
  have D_law_good : zns l.prog w K mg base := ⟨f14, _, ztq F14 T , PySem.W.mg_of X G a14, k14, b14⟩
  have D_law_due : zry l.prog w K mg base := ⟨f15, _, zvt F15 T D_law_good, PySem.W.mg_of X G a15, k15, b15⟩
  have D_law_told : znt l.prog w K mg base := ⟨f16, _, ztr (cl := cl) F16 T D_web_of XK_law_told, PySem.W.mg_of X G a16, k16, b16⟩
  exact zakh F17 T D_law_draws D_law_due D_law_thing D_law_told D_is_web
theorem walk {l : PySem.W.OpenLaw} {q : Program} {loose : List Str} {XP : (Str → Option Value) → Heap → Prop} {YP : World → Heap → Prop} {d : DefRec} {K : Params → PySem.W.Frag} (hn : l.most = some 63) (hdf : d.params.defaults = [])
    (hY : ∀ (w : World) (h : Heap), YP w h → (K w.params).In h)
    (F : ∀ (w : World) (mg : Str → Option Value) (fa : Addr) (h : Heap), (K w.params).In h → h.Ns mainGlobals mg → mg d.name = some (.ref fa) →
      ∃ fd : FuncData, (∀ (s : Shared) (u : Value), BindsTo s fd ⟨[u], []⟩ [("_law_script", u)]) ∧ ∀ base : Heap, (K w.params).In base → base.Ns mainGlobals mg → FnOk l.prog w (K w.params) mg base CX0 5 fa fd ["_law_script"] (zacn (K w.params))) :
    PySem.W.WalkO q loose XP YP l.row.toRowW d [] (fun f vs => PySem.call f vs) :=
  L2.walk_of (n := 63) (k := 5) (x := "_law_script") (CX := fun _ => CX0) (sp := fun w => zacn (K w.params)) hn (by decide) hdf ⟨rfl, by decide, by decide⟩ hY F (fun _ _ a ns hl _ hS => ⟨a, ns, rfl, hS, fun _ => rfl⟩) fun _ _ _ _ _ z => z
end Bc
open PySem PySem.W PyProof.Rows
set_option maxRecDepth 100000 in
set_option maxHeartbeats 0 in
theorem PySem.Challenge.cw_bestcalls_k05_webs_told_holds : PySem.Challenge.rw_bestcalls_k05_webs_told.Holds := by
  w_on; o_law; k_head; (case hw => w_witness2)
  k_fill
  refine Bc.walk (l := PySem.Challenge.rw_bestcalls_k05_webs_told) rfl rfl (fun w h Y => PySem.W.kIn_of Y) ?F
  case F =>
    intro w mg fa h KX G hmg
    refine' Bc.all_mk KX G hmg ?a1 ?l1 ?c1 ?k1 ?a2 ?l2 ?c2 ?k2 ?a3 ?l3 ?c3 ?k3 ?a4 ?l4 ?c4 ?k4 ?a5 ?l5 ?c5 ?k5 ?a6 ?l6 ?c6 ?k6 ?a7 ?l7 ?c7 ?k7 ?a8 ?l8 ?c8 ?k8 ?a9 ?l9 ?c9 ?k9 ?a10 ?l10 ?c10 ?k10 ?a11 ?l11 ?c11 ?k11 ?a12 ?l12 ?c12 ?k12 ?a13 ?l13 ?c13 ?k13 ?a14 ?l14 ?c14 ?k14 ?a15 ?l15 ?c15 ?k15 ?a16 ?l16 ?c16 ?k16 ?a17 ?l17 ?c17 ?k17 ?xa0 ?xp0 ?xq0 ?xa1 ?xp1 ?xq1 ?xa2 ?xp2 ?xq2 ?xa3 ?xp3 ?xq3 ?xa4 ?xp4 ?xq4 ?xz ?xi0 ?xl ?xc ?xk ?xf ?xlc0 ?xb0 ?xkp0 ?xsa0 ?xat0 ?xga0 ?xgh0 ?xcl0 ?xs0_b ?xs0_v ?xs0_s ?xs0_B ?xs0_1 ?xs0_2 ?xs0_3 ?xBb ?z1 ?z2 ?z3 ?z4 ?z5 ?z6 ?z7 ?z8 ?z9 ?z10 ?z11 ?g1 ?g2 ?g3
    (case a1 => k_is)
    (case l1 => k_is)
    (case c1 => k_is)
    (case k1 => k_is)
    (case a2 => k_is)
    (case l2 => k_is)
    (case c2 => k_is)
    (case k2 => k_is)
    (case a3 => k_is)
    (case l3 => k_is)
    (case c3 => k_is)
    (case k3 => k_is)
    (case a4 => k_is)
    (case l4 => k_is)
    (case c4 => k_is)
    (case k4 => k_is)
    (case a5 => k_is)
    (case l5 => k_is)
    (case c5 => k_is)
    (case k5 => k_is)
    (case a6 => k_is)
    (case l6 => k_is)
    (case c6 => k_is)
    (case k6 => k_is)
    (case a7 => k_is)
    (case l7 => k_is)
    (case c7 => k_is)
    (case k7 => k_is)
    (case a8 => k_is)
    (case l8 => k_is)
    (case c8 => k_is)
    (case k8 => k_is)
    (case a9 => k_is)
    (case l9 => k_is)
    (case c9 => k_is)
    (case k9 => k_is)
    (case a10 => k_is)
    (case l10 => k_is)
    (case c10 => k_is)
    (case k10 => k_is)
    (case a11 => k_is)
    (case l11 => k_is)
    (case c11 => k_is)
    (case k11 => k_is)
    (case a12 => k_is)
    (case l12 => k_is)
    (case c12 => k_is)
    (case k12 => k_is)
    (case a13 => k_is)
    (case l13 => k_is)
    (case c13 => k_is)
    (case k13 => k_is)
    (case a14 => k_is)
    (case l14 => k_is)
    (case c14 => k_is)
    (case k14 => k_is)
    (case a15 => k_is)
    (case l15 => k_is)
    (case c15 => k_is)
    (case k15 => k_is)
    (case a16 => k_is)
    (case l16 => k_is)
    (case c16 => k_is)
    (case k16 => k_is)
    (case a17 => k_is)
    (case l17 => k_is)
    (case c17 => k_is)
    (case k17 => k_is)
    (case xa0 => k_is)
    (case xp0 => k_is)
    (case xq0 => k_is)
    (case xa1 => k_is)
    (case xp1 => k_is)
    (case xq1 => k_is)
    (case xa2 => k_is)
    (case xp2 => k_is)
    (case xq2 => k_is)
    (case xa3 => k_is)
    (case xp3 => k_is)
    (case xq3 => k_is)
    (case xa4 => k_is)
    (case xp4 => k_is)
    (case xq4 => k_is)
    (case xz => k_is)
    (case xi0 => k_is)
    (case xl => k_is)
    (case xc => k_is)
    (case xk => k_is)
    (case xf => k_is)
    (case xlc0 => k_is)
    (case xb0 => rfl)
    (case xkp0 => k_is)
    (case xsa0 => k_is)
    (case xat0 => k_is)
    (case xga0 => k_is)
    (case xgh0 => k_is)
    (case xcl0 => k_is)
    (case xs0_b => k_is)
    (case xs0_v => k_is)
    (case xs0_s => k_is)
    (case xs0_B => k_is)
    (case xs0_1 => k_is)
    (case xs0_2 => k_is)
    (case xs0_3 => k_is)
    (case xBb => k_is)
    (case z1 => k_is)
    (case z2 => k_is)
    (case z3 => k_is)
    (case z4 => k_is)
    (case z5 => k_is)
    (case z6 => k_is)
    (case z7 => k_is)
    (case z8 => k_is)
    (case z9 => k_is)
    (case z10 => k_is)
    (case z11 => k_is)
    (case g1 => k_is)
    (case g2 => k_is)
    (case g3 => k_is)
