import PyProof.Rows.All
import Wide.All
import OpenK.AllK
import Wide.FinOn
import Lean
import PyProof.EqAt
import PyProof.EqKinds
import PyProof.TupleCall
import KE.KRevSl
import PyProof.MeetsStr
import KE.KTryOn
import PyProof.ExcInit
import PyProof.ExcClass3
import PyProof.ExcBaseAll.ValueError
import PyProof.InstStoreFacts
import ObjForm.Fk.InstStore
import PyProof.ExcArgsOwn
import PyProof.ExcAttrAll.ValueError
import PyProof.PureStr
import PyProof.FString2
import PyProof.Rows.FactsFmt
import PyProof.FactsAll.NoneType_2
import PyProof.NsDelKeeps
import PyProof.IsiBase
import PyProof.DictWalks
import PyProof.AutoListH
import PyProof.AutoSeq1
import PySem.Challenge.RW_bestcalls_k38_answers_of_all_calls
set_option genSizeOf false
set_option Elab.async false
set_option linter.all false
set_option maxRecDepth 100000
namespace L2
open PySem PySem.Spec PyProof.Rows
noncomputable abbrev Key := Sum Int Str
noncomputable def zacq : Key → Value → Bool
  | .inl k, v => Value.isInt k v
  | .inr x, v => Value.isStrOf x v
noncomputable def keyH (w : World) : Key → Int
  | .inl k => hashInt k
  | .inr x => hashStr w x
theorem zdu : ∀ {k : Key} {v : Value}, zacq k v = true → (∃ i t, k = Sum.inl i ∧ v = Value.int i t) ∨ (∃ x t, k = Sum.inr x ∧ v = Value.str x t)
  | .inl i, v, h => by
    obtain ⟨t, e⟩ := Value.isInt_shape (k := i) (v := v) h
    exact .inl ⟨i, t, rfl, e⟩
  | .inr x, v, h => by
    obtain ⟨t, e⟩ := Value.isStrOf_shape (x := x) (v := v) h
    exact .inr ⟨x, t, rfl, e⟩
theorem zadw (i : Int) (t : Tok) : zacq (.inl i) (.int i t) = true := by simp [zacq, Value.isInt]
theorem zadx (x : Str) (t : Tok) : zacq (.inr x) (.str x t) = true := by simp [zacq, Value.isStrOf]
theorem zanu (a b : Int) : decide ((Sum.inl a : Key) = Sum.inl b) = (a == b) := by
  by_cases e : a = b
  · subst e; simp
  · have h : ¬ (Sum.inl a : Key) = Sum.inl b := fun q => e (Sum.inl.inj q)
    rw [decide_eq_false h]
    exact (beq_eq_false_iff_ne.mpr e).symm
theorem zanv (a b : Str) : decide ((Sum.inr a : Key) = Sum.inr b) = decide (a = b) := by
  by_cases e : a = b
  · subst e; simp
  · have h : ¬ (Sum.inr a : Key) = Sum.inr b := fun q => e (Sum.inr.inj q)
    rw [decide_eq_false h, decide_eq_false e]
theorem zanw (a : Int) (b : Str) : decide ((Sum.inl a : Key) = Sum.inr b) = false := decide_eq_false (fun q => nomatch q)
theorem zanx (a : Str) (b : Int) : decide ((Sum.inr a : Key) = Sum.inl b) = false := decide_eq_false (fun q => nomatch q)
noncomputable def zef (prog : Program) (w : World) : PySem.KeyKind prog w Key where
  is := zacq
  hash := keyH w
  inj := fun v a b ha hb => by
    rcases zdu ha with ⟨i, t, rfl, rfl⟩ | ⟨x, t, rfl, rfl⟩
    · rcases zdu hb with ⟨j, u, rfl, e⟩ | ⟨y, u, rfl, e⟩
      · injection e with e1 _; rw [e1]
      · exact nomatch e
    · rcases zdu hb with ⟨j, u, rfl, e⟩ | ⟨y, u, rfl, e⟩
      · exact nomatch e
      · injection e with e1 _; rw [e1]
  byValue := fun k v h => by
    rcases zdu h with ⟨i, t, rfl, rfl⟩ | ⟨x, t, rfl, rfl⟩ <;> rfl
  pyHash := fun hv h => by
    rcases zdu hv with ⟨i, t, rfl, rfl⟩ | ⟨x, t, rfl, rfl⟩
    · exact wpAny_pyHash_int h
    · exact wpAny_pyHash_str h
  eqBool := fun hu hv h => by
    rcases zdu hu with ⟨i, t, rfl, rfl⟩ | ⟨x, t, rfl, rfl⟩
    · rcases zdu hv with ⟨j, u, rfl, rfl⟩ | ⟨y, u, rfl, rfl⟩
      · rw [zanu] at h; exact wpAny_eqBool_int h
      · rw [zanw] at h; exact SeqAt.EqAt.int_str i t y u _ _ _ _ h
    · rcases zdu hv with ⟨j, u, rfl, rfl⟩ | ⟨y, u, rfl, rfl⟩
      · rw [zanx] at h; exact SeqAt.EqAt.str_int x t j u _ _ _ _ h
      · rw [zanv] at h; exact wpAny_eqBool_str h
  «strs» := fun k x t v h => by
    rcases zdu h with ⟨i, u, rfl, e⟩ | ⟨y, u, rfl, e⟩
    · exact nomatch e
    · injection e with e1 _
      subst e1
      cases v <;> rfl
theorem zyx (prog : Program) (w : World) (i : Int) (t : Tok) : (zef prog w).is (.inl i) (.int i t) = true := zadw i t
theorem zyy (prog : Program) (w : World) (x : Str) (t : Tok) : (zef prog w).is (.inr x) (.str x t) = true := zadx x t
end L2
namespace L2
open PySem PySem.Spec PyProof.Rows
inductive V where
  | non | bl (b : Bool) | int (i : Int) | str (x : Str) | byt (b : Array UInt8) | flt (b : UInt64) | ref (a : Addr) | ty (n : String)
  deriving DecidableEq
noncomputable def RelV : V → Value → Prop
  | .non, u => u = Value.none
  | .bl b, u => u = Value.bool b
  | .int i, u => ∃ t, u = Value.int i t
  | .str x, u => ∃ t, u = Value.str x t
  | .byt b, u => ∃ t, u = Value.bytes b t
  | .flt b, u => ∃ t, u = Value.float b t
  | .ref a, u => u = Value.ref a
  | .ty n, u => u = Value.type n
noncomputable abbrev Vals : List V → List Value → Prop := Paired RelV
theorem Vals.length {xs : List V} {us : List Value} (r : Vals xs us) : xs.length = us.length := Paired.length r
theorem Vals.get : ∀ {xs : List V} {us : List Value} {i : Nat} {x : V}, Vals xs us → xs[i]? = some x → ∃ u, us[i]? = some u ∧ RelV x u
  | _, _, _, _, .nil, e => by simp at e
  | _, _, 0, _, .cons r _, e => by simp at e; subst e; exact ⟨_, rfl, r⟩
  | _, _, i + 1, x, .cons _ t, e => by
    obtain ⟨u, h1, h2⟩ := Vals.get (i := i) (x := x) t (by simpa using e)
    exact ⟨u, by simpa using h1, h2⟩
theorem Vals.set {x : V} {u : Value} (r : RelV x u) : ∀ {xs : List V} {us : List Value} (i : Nat), Vals xs us → Vals (xs.set i x) (us.set i u)
  | _, _, _, .nil => .nil
  | _, _, 0, .cons _ t => .cons r t
  | _, _, i + 1, .cons q t => .cons q (Vals.set r i t)
theorem Vals.append : ∀ {xs ys : List V} {us ws : List Value}, Vals xs us → Vals ys ws → Vals (xs ++ ys) (us ++ ws)
  | _, _, _, _, .nil, s => s
  | _, _, _, _, .cons r t, s => .cons r (Vals.append t s)
theorem Vals.take : ∀ {xs : List V} {us : List Value} (n : Nat), Vals xs us → Vals (xs.take n) (us.take n)
  | _, _, 0, _ => .nil
  | _, _, _ + 1, .nil => .nil
  | _, _, n + 1, .cons r t => .cons r (Vals.take n t)
theorem Vals.drop : ∀ {xs : List V} {us : List Value} (n : Nat), Vals xs us → Vals (xs.drop n) (us.drop n)
  | _, _, 0, r => r
  | _, _, _ + 1, .nil => .nil
  | _, _, n + 1, .cons _ t => Vals.drop n t
noncomputable def RelO : Option V → Option Value → Prop
  | some v, some u => RelV v u
  | none, none => True
  | _, _ => False
noncomputable def KV {κ : Type} : List (κ × V) → List (κ × Value) → Prop := Paired fun (p : κ × V) (q : κ × Value) => p.1 = q.1 ∧ RelV p.2 q.2
noncomputable def kV : Key → V
  | .inl i => .int i
  | .inr x => .str x
inductive HO where
    | lst (xs : List V)
    | tup (xs : List V)
    | dK (kvs : List (Key × V)) | dT (kvs : List (List Key × V))
    | set (S : Int → Bool) (n : Nat)
    | ins (C dx : Addr) (fs : List (Str × V))
    | own (x : Addr)
    | xd (fs : List (Str × V))
    | met (f x : Addr)
    | rng (lo hi : Int)
    | frz (o : Obj) (u : HO)
    | tbl (ps : Array Value)
    | ext (φ : Heap → Prop)
noncomputable abbrev Hp := Addr → Option HO
noncomputable def upd (H : Hp) (a : Addr) (o : HO) : Hp := fun b => if b = a then some o else H b
theorem zaw {H : Hp} {a : Addr} {o : HO} : upd H a o a = some o := by unfold upd; rw [if_pos rfl]
theorem zbc {H : Hp} {a b : Addr} {o : HO} (h : b ≠ a) : upd H a o b = H b := by unfold upd; rw [if_neg h]
theorem zarf {H : Hp} {a b : Addr} {o u : HO} (h : H a = some o) (h' : H b = some u) (d : o ≠ u) : a ≠ b := by
  intro e; subst e; rw [h] at h'; exact d (Option.some.inj h')
theorem zbp {H : Hp} {a b : Addr} {o : HO} (h : H a = some o) (h' : H b = none) : a ≠ b := by
  intro e; subst e; rw [h] at h'; cases h'
section
variable (P : Program) (w : World)
noncomputable def zfy (H : Hp) (h : Heap) (a : Addr) : HO → Prop
  | .lst xs => xs.length ≤ sizeLine ∧ ∃ (its : List Value) (n : Nat), Vals xs its ∧ h.get? a = some { cls := .type "list", data := .seq its.toArray n }
  | .tup xs => xs.length ≤ sizeLine ∧ ∃ its : List Value, Vals xs its ∧ IsTup h a its.toArray
  | .dK kvs => kvs.length ≤ sizeLine ∧ (a == sysModules) = false ∧ ∃ vs, KV kvs vs ∧ h.DictOf (zef P w) a vs
  | .dT kvs => kvs.length ≤ sizeLine ∧ (a == sysModules) = false ∧ ∃ xs : List (List Key × Addr × Value),
      Paired (fun (p : List Key × V) (q : List Key × Addr × Value) => p.1 = q.1 ∧ H q.2.1 = some (.tup (p.1.map kV)) ∧ RelV p.2 q.2.2) kvs xs ∧
      ∃ o es ep, h.get? a = some o ∧ o.ExactDict ∧ o.data = .dict es ep ∧ es.toList = xs.map (entryOfKey (tupleKind (zef P w))) ∧ (xs.map (·.1)).Nodup
  | .set S n => h.SetOf (intKind P w) a S n
  | .ins C dx fs => H dx = some (.own a) ∧ fs.length ≤ 1000 ∧ dx ≠ a ∧ h.get? a = some (PySem.W.instObj C dx) ∧
      ∃ mA, h.Ns1 dx mA ∧ (∀ f, RelO (fs.lookup f) (mA f)) ∧ PySem.Within mA (fs.map (·.1))
  | .own _ => ∃ o, h.get? a = some o
  | .xd fs => ∃ mA, h.Ns1 a mA ∧ ∀ f, RelO (fs.lookup f) (mA f)
  | .rng lo hi => ∃ t u v, h.get? a = some { cls := .type "range", data := .fields #[.int lo t, .int hi u, .int 1 v] }
  | .frz o u => h.get? a = some o ∧ zfy H h a u
  | .tbl ps => h.get? a = some { cls := .none, data := .fields ps }
  | .met f x => h.get? a = some (PySem.W.methodObj (.ref f) (.ref x))
  | .ext φ => φ h ∧ (∃ o, h.get? a = some o) ∧ ∀ h1 h2 : Heap, φ h1 → (∀ o, h1.get? a = some o → h2.get? a = some o) → φ h2
noncomputable def HOk (H : Hp) (h : Heap) : Prop := ∀ a o, H a = some o → zfy P w H h a o
end
section
variable {P : Program} {w : World} {H H' : Hp} {h h' : Heap} {a : Addr} {o : HO}
theorem zfy.lt (x : zfy P w H h a o) : a < h.objs.size := by
  cases o with
  | lst xs => obtain ⟨_, _, _, _, e⟩ := x; exact Heap.lt_size e
  | tup xs => obtain ⟨_, _, _, p⟩ := x; exact p.lt
  | dK kvs => obtain ⟨_, _, _, _, o, _, _, e, _⟩ := x; exact Heap.lt_size e
  | dT kvs => obtain ⟨_, _, _, _, o, _, _, e, _⟩ := x; exact Heap.lt_size e
  | set S n => obtain ⟨o, _, _, _, e, _⟩ := x; exact Heap.lt_size e
  | ins C dx fs => obtain ⟨_, _, _, e, _⟩ := x; exact Heap.lt_size e
  | own y => obtain ⟨_, e⟩ := x; exact Heap.lt_size e
  | xd fs => obtain ⟨_, ⟨_, _, _, e, _⟩, _⟩ := x; exact Heap.lt_size e
  | rng lo hi => obtain ⟨_, _, _, e⟩ := x; exact Heap.lt_size e
  | frz ob u => obtain ⟨e, _⟩ := x; exact Heap.lt_size e
  | tbl ps => exact Heap.lt_size (show h.get? a = some _ from x)
  | met f y => exact Heap.lt_size (show h.get? a = some _ from x)
  | ext φ => obtain ⟨_, ⟨_, e⟩, _⟩ := x; exact Heap.lt_size e
theorem Paired.mapP {α β : Type} {F G : α → β → Prop} : ∀ {l₁ : List α} {l₂ : List β}, Paired F l₁ l₂ → (∀ a b, F a b → G a b) → Paired G l₁ l₂
  | _, _, .nil, _ => .nil
  | _, _, .cons r t, f => .cons (f _ _ r) (Paired.mapP t f)
theorem zfy.stay (x : zfy P w H h a o) (k : ∀ b u, (b = a ∨ H b = some (.own a)) → h.get? b = some u → h'.get? b = some u)
    (ho : ∀ b, H b = some (.own a) → H' b = some (.own a)) (ht : ∀ b xs, H b = some (.tup xs) → H' b = some (.tup xs)) : zfy P w H' h' a o := by
  induction o with
  | lst xs => obtain ⟨z, its, n, r, e⟩ := x; exact ⟨z, its, n, r, k _ _ (.inl rfl) e⟩
  | tup xs => obtain ⟨z, its, r, ob, e, c⟩ := x; exact ⟨z, its, r, ob, k _ _ (.inl rfl) e, c⟩
  | dK kvs => obtain ⟨z, y, vs, r, ob, es, ep, e, c⟩ := x; exact ⟨z, y, vs, r, ob, es, ep, k _ _ (.inl rfl) e, c⟩
  | dT kvs =>
    obtain ⟨z, y, xs, r, ob, es, ep, e, c⟩ := x
    exact ⟨z, y, xs, Paired.mapP r fun p q z => ⟨z.1, ht _ _ z.2.1, z.2.2⟩, ob, es, ep, k _ _ (.inl rfl) e, c⟩
  | set S n => obtain ⟨ob, es, ep, t, e, c⟩ := x; exact ⟨ob, es, ep, t, k _ _ (.inl rfl) e, c⟩
  | ins C dx fs =>
    obtain ⟨d, z, ne, e, mA, ⟨od, es, ep, e2, c⟩, r⟩ := x
    exact ⟨ho _ d, z, ne, k _ _ (.inl rfl) e, mA, ⟨od, es, ep, k _ _ (.inr d) e2, c⟩, r⟩
  | own y => obtain ⟨ob, e⟩ := x; exact ⟨ob, k _ _ (.inl rfl) e⟩
  | xd fs => obtain ⟨mA, ⟨od, es, ep, e, c⟩, r⟩ := x; exact ⟨mA, ⟨od, es, ep, k _ _ (.inl rfl) e, c⟩, r⟩
  | rng lo hi => obtain ⟨t, u, v, e⟩ := x; exact ⟨t, u, v, k _ _ (.inl rfl) e⟩
  | frz ob u ih => obtain ⟨e, q⟩ := x; exact ⟨k _ _ (.inl rfl) e, ih q⟩
  | tbl ps =>
    have e : h.get? a = some { cls := .none, data := .fields ps } := x
    show h'.get? a = some { cls := .none, data := .fields ps }
    exact k a _ (.inl rfl) e
  | met f y =>
    have e : h.get? a = some (PySem.W.methodObj (.ref f) (.ref y)) := x
    show h'.get? a = some (PySem.W.methodObj (.ref f) (.ref y))
    exact k a _ (.inl rfl) e
  | ext φ => obtain ⟨p, ⟨o, e⟩, st⟩ := x; exact ⟨st _ _ p fun o q => k _ _ (.inl rfl) q, ⟨o, k _ _ (.inl rfl) e⟩, st⟩
theorem HOk.lt (x : HOk P w H h) (e : H a = some o) : a < h.objs.size := (x a o e).lt
theorem HOk.fresh (x : HOk P w H h) (e : h.objs.size ≤ a) : H a = none := by
  cases q : H a with
  | none => rfl
  | some u => exact absurd (Nat.lt_of_lt_of_le (x.lt q) e) (Nat.lt_irrefl _)
theorem HOk.kept (x : HOk P w H h) (k : ∀ b u, h.get? b = some u → h'.get? b = some u) : HOk P w H h' := fun a o e =>
  (x a o e).stay (fun b u _ q => k b u q) (fun _ q => q) fun _ _ q => q
theorem HOk.laid (x : HOk P w H h) (k : ∀ b u, h.get? b = some u → h'.get? b = some u) (hp : h.objs.size ≤ a) (new : zfy P w (upd H a o) h' a o) : HOk P w (upd H a o) h' := fun b u e => by
  have hn := x.fresh hp
  by_cases hb : b = a
  · subst hb; rw [zaw] at e; cases e; exact new
  · rw [zbc hb] at e
    exact (x b u e).stay (fun c v _ q => k c v q) (fun c q => by rw [zbc (zbp q hn)]; exact q) fun c xs q => by rw [zbc (zbp q hn)]; exact q
end
noncomputable def Rd (H : Hp) (a : Addr) (u : HO) : Prop := H a = some u ∨ ∃ o, H a = some (.frz o u)
theorem Rd.ok {P : Program} {w : World} {H : Hp} {h : Heap} {a : Addr} {u : HO} (r : Rd H a u) (x : HOk P w H h) : zfy P w H h a u := by
  rcases r with r | ⟨o, r⟩
  · exact x a u r
  · obtain ⟨_, q⟩ := x a _ r
    exact q
noncomputable def Mut : Option HO → Prop
  | some (.lst _) => True
  | some (.dK _) => True
  | some (.dT _) => True
  | some (.set _ _) => True
  | some (.ins _ _ _) => True
  | some (.ext _) => True
  | _ => False
section
variable {P : Program} {w : World} {H : Hp} {h h' : Heap} {x e : Addr} {o' : HO}
theorem HOk.write (ok : HOk P w H h) (mu : Mut (H x)) (he : e = x ∨ H e = some (.own x)) (k : ∀ b u, b ≠ e → h.get? b = some u → h'.get? b = some u) (heo : ∃ u, h'.get? e = some u)
    (new : zfy P w (upd H x o') h' x o') : HOk P w (upd H x o') h' := fun b u q => by
  have nown : ∀ c y, H c = some (.own y) → c ≠ x := fun c y r z => by subst z; rw [r] at mu; exact mu
  have ntup : ∀ c xs, H c = some (.tup xs) → c ≠ x := fun c xs r z => by subst z; rw [r] at mu; exact mu
  by_cases hb : b = x
  · subst hb; rw [zaw] at q; cases q; exact new
  · rw [zbc hb] at q
    by_cases hbe : b = e
    · have q' : H b = some (.own x) := by
        rcases he with z | z
        · exact absurd (hbe.trans z) hb
        · rw [hbe]; exact z
      rw [q] at q'; cases q'
      obtain ⟨v, hv⟩ := heo
      exact ⟨v, by rw [hbe]; exact hv⟩
    · refine (ok b u q).stay (fun c v hc r => k c v ?_ r) (fun c r => by rw [zbc (nown c b r)]; exact r) fun c xs r => by rw [zbc (ntup c xs r)]; exact r
      rcases hc with rfl | hc
      · exact hbe
      · rintro rfl
        rcases he with z | z
        · exact nown c b hc z
        · rw [hc] at z; cases z; exact hb rfl
end
set_option genInjectivity false in
structure Un (fs ex : List Addr) (H H' : Hp) (h h' : Heap) : Prop where
  keep : ∀ b o, h.get? b = some o → H b = none → b ∉ fs → b ∉ ex → h'.get? b = some o
  slot : ∀ b o, h.get? b = some o → H b = none → b ∈ fs → b ∉ ex → ∃ sl, h'.get? b = some { o with slots := sl }
  free : ∀ b o, h.get? b = some o → H b = none → b ∉ ex → H' b = none
  there : ∀ b o, h.get? b = some o → b ∉ ex → ∃ o', h'.get? b = some o'
  tups : ∀ b xs, H b = some (.tup xs) → H' b = some (.tup xs)
  frzs : ∀ b o u, H b = some (.frz o u) → H' b = some (.frz o u)
  tbls : ∀ b ps, H b = some (.tbl ps) → ∃ more, H' b = some (.tbl (ps ++ more))
section
variable {fs fs' ex ex' : List Addr} {H H1 H2 : Hp} {h h1 h2 h' : Heap} {a x e : Addr} {o : HO}
theorem Un.any (u : Un fs ex H H1 h h1) {b : Addr} {ob : Obj} (q : h.get? b = some ob) (n : H b = none) (hx : b ∉ ex) : ∃ sl, h1.get? b = some { ob with slots := sl } := by
  by_cases hb : b ∈ fs
  · exact u.slot b ob q n hb hx
  · exact ⟨ob.slots, u.keep b ob q n hb hx⟩
theorem Un.kept (k : ∀ b u, h.get? b = some u → h'.get? b = some u) : Un fs ex H H h h' :=
  ⟨fun b ob q _ _ _ => k b ob q, fun b ob q _ _ _ => ⟨ob.slots, k b ob q⟩, fun _ _ _ n _ => n, fun b ob q _ => ⟨ob, k b ob q⟩, fun _ _ q => q, fun _ _ _ q => q, fun _ ps q => ⟨#[], by rw [q]; simp⟩⟩
theorem Un.refl : Un fs ex H H h h := Un.kept fun _ _ q => q
theorem Un.laid (k : ∀ b u, h.get? b = some u → h'.get? b = some u) (hp : h.objs.size ≤ a) (hn : H a = none) : Un fs ex H (upd H a o) h h' where
  keep := fun b u q _ _ _ => k b u q
  slot := fun b u q _ _ _ => ⟨u.slots, k b u q⟩
  free := fun b u q n _ => by rw [zbc (Nat.ne_of_lt (Nat.lt_of_lt_of_le (Heap.lt_size q) hp))]; exact n
  there := fun b u q _ => ⟨u, k b u q⟩
  tups := fun b xs q => by rw [zbc (zbp q hn)]; exact q
  frzs := fun b u xs q => by rw [zbc (zbp q hn)]; exact q
  tbls := fun b ps q => ⟨#[], by rw [zbc (zbp q hn), q]; simp⟩
theorem Un.write (mu : Mut (H x)) (he : e = x ∨ H e = some (.own x)) (k : ∀ b u, b ≠ e → h.get? b = some u → h'.get? b = some u) (heo : ∃ u, h'.get? e = some u) : Un fs ex H (upd H x o) h h' := by
  have hx : ∀ b, H b = none → b ≠ x := fun b n z => by subst z; rw [n] at mu; exact mu
  have hb : ∀ b, H b = none → b ≠ e := fun b n z => by
    subst z
    rcases he with r | r
    · exact hx b n r
    · rw [n] at r; cases r
  have hm : ∀ b u, H b = some u → ¬ Mut (some u) → b ≠ x := fun b u q nm z => by subst z; rw [q] at mu; exact nm mu
  refine ⟨fun b u q n _ _ => k b u (hb b n) q, fun b u q n _ _ => ⟨u.slots, k b u (hb b n) q⟩, fun b u q n _ => by rw [zbc (hx b n)]; exact n, fun b u q _ => ?_,
    fun b xs q => by rw [zbc (hm b _ q fun z => z)]; exact q, fun b u xs q => by rw [zbc (hm b _ q fun z => z)]; exact q, fun b ps q => ⟨#[], by rw [zbc (hm b _ q fun z => z), q]; simp⟩⟩
  by_cases hbe : b = e
  · subst hbe; exact heo
  · exact ⟨u, k b u hbe q⟩
end
noncomputable def trk (h : Heap) (H : Hp) : List Addr := (List.range h.objs.size).filter fun a => (H a).isSome
noncomputable def hidT (h : Heap) (H : Hp) : Heap := PySem.W.hideAll h (trk h H)
theorem zady (h : Heap) (H : Hp) : (hidT h H).objs.size = h.objs.size := PySem.W.hideAll_size _ _
theorem zahp {h : Heap} {H : Hp} {b : Addr} {o : Obj} (e : h.get? b = some o) (n : H b = none) : (hidT h H).get? b = some o :=
  PySem.W.hideAll_get _ e fun hm => by
    have q : (H b).isSome = true := (List.mem_filter.mp hm).2
    rw [n] at q; simp at q
theorem zalh {h : Heap} {H : Hp} {b : Addr} {o : Obj} (e : (hidT h H).get? b = some o) : h.get? b = some o ∧ H b = none := by
  have e' : h.get? b = some o := PySem.W.of_hideAll (trk h H) e
  refine ⟨e', ?_⟩
  cases q : H b with
  | none => rfl
  | some x =>
    have hm : b ∈ trk h H := List.mem_filter.mpr ⟨List.mem_range.mpr (Heap.lt_size e'), by simp [q]⟩
    have z : (hidT h H).get? b = none := PySem.W.hideAll_none (trk h H) hm
    rw [z] at e; cases e
end L2
namespace L2
open PySem PySem.Spec PyProof.Rows
set_option genInjectivity false in
structure Mod (K : PySem.W.Frag) (mg : Str → Option Value) (base : Heap) : Prop where
  kin : K.In base
  glob : base.Ns mainGlobals mg
  blt : ∃ mb, base.Ns builtinsNs mb ∧ ∀ x : Str, x ≠ "__name__" → mb x = bootBuiltins x
  nolimit : base.NoLimit
set_option genInjectivity false in
structure Cx where
  prog : Program
  w : World
  K : PySem.W.Frag
  mg : Str → Option Value
  base : Heap
  A : Around
  N : List Str
  s₀ : Shared
  H₀ : Hp
  env : Env
  outer : List Env
  stack : List Env
  ex : List Addr
  fn : Str → Bool
  calm : Bool
  pn : List (Addr × Obj)
  xe : Value → Shared → Prop
noncomputable def frs (l : List Env) : List Addr := l.filterMap (·.frame)
noncomputable abbrev Cx.fs (X : Cx) : List Addr := frs X.outer
noncomputable def Vis (sc : Scope) (x : Str) : Prop := sc.names.lookup x = some .local ∨ sc.names.lookup x = some .cell ∨ sc.names.lookup x = some .free
noncomputable def visB (sc : Scope) (x : Str) : Bool := match sc.names.lookup x with
  | some .local => true
  | some .cell => true
  | some .free => true
  | _ => false
theorem visB.of {sc : Scope} {x : Str} (h : visB sc x = true) : Vis sc x := by
  unfold visB at h
  cases e : sc.names.lookup x with
  | none => rw [e] at h; cases h
  | some k => rw [e] at h; cases k <;> first | exact .inl e | exact .inr (.inl e) | exact .inr (.inr e) | cases h
noncomputable def Loc (sc : Scope) (x : Str) : Prop := sc.names.lookup x = some .local ∨ sc.names.lookup x = some .cell
noncomputable def Look (env : Env) (h : Heap) (m : Str → Option Value) (x : Str) (u : Value) : Prop :=
  (env.kindOf x = some .local ∧ m x = some u) ∨ ((env.kindOf x = some .cell ∨ env.kindOf x = some .free) ∧ ∃ c, env.cells.lookup x = some c ∧ h.IsCell c (some u))
set_option genInjectivity false in
structure Cx.Ok (X : Cx) : Prop where
  mod : Mod X.K X.mg X.base
  kind : X.env.scope.kind = .function
  glob : X.env.globals = mainGlobals
  blt : X.env.builtins = builtinsNs
  above : X.s₀.heap.objs.size ≤ X.env.locals
  inj : ∀ x y c, X.env.cells.lookup x = some c → X.env.cells.lookup y = some c → x = y
  has : ∀ x, (X.env.kindOf x = some .cell ∨ X.env.kindOf x = some .free) → ∃ c, X.env.cells.lookup x = some c
  cab : ∀ x c, X.fn x = true → X.env.cells.lookup x = some c → X.s₀.heap.objs.size ≤ c
  hd : X.calm = true → X.A.handled = none
  frames : X.A.frames = some X.stack
  stk : X.stack = X.outer ∨ (X.stack = X.env :: X.outer ∧ X.env.frame = some X.env.locals)
  exf : ∀ b ∈ X.ex, b ≠ X.env.locals ∧ ∀ x c, X.env.cells.lookup x = some c → c ≠ b
  bs : ∀ b o, X.base.get? b = some o → X.s₀.heap.get? b = some o ∧ X.H₀ b = none
  bsz : X.base.objs.size ≤ X.s₀.heap.objs.size
  noex : ∀ b o, X.base.get? b = some o → b ∉ X.ex
  exfs : ∀ b ∈ X.ex, b ∉ X.fs
  funs : X.s₀.heap.FunFrames X.base X.outer
  frf : ∀ b ∈ X.fs, X.H₀ b = none
set_option genInjectivity false in
structure Inv (X : Cx) (pins : List (Addr × Obj)) (σ : List (Option V)) (H : Hp) (s : Shared) : Prop where
  ok : X.Ok
  os : s.os = X.s₀.os
  bare : AllBare s.gens
  base : Un X.fs X.ex X.H₀ H X.s₀.heap s.heap
  loc : ∃ m, s.heap.Ns X.env.locals m ∧ ∀ (i : Nat) (x : Str) (v : V), X.N[i]? = some x → σ[i]? = some (some v) → Vis X.env.scope x → ∃ u, RelV v u ∧ Look X.env s.heap m x u
  cell : ∀ x c, X.env.cells.lookup x = some c → ∃ v, s.heap.IsCell c v
  free : H X.env.locals = none
  freeC : ∀ x c, X.env.cells.lookup x = some c → H c = none
  pin : ∀ p ∈ X.pn ++ pins, s.heap.get? p.1 = some p.2 ∧ H p.1 = none ∧ p.1 ≠ X.env.locals ∧ p.1 ∉ X.fs ∧ ∀ v, p.2.data ≠ .cell v
  hok : HOk X.prog X.w H s.heap
  len : σ.length = X.N.length
section
variable {X : Cx} {pins : List (Addr × Obj)} {σ : List (Option V)} {H H' : Hp} {s : Shared} {h' : Heap}
theorem Cx.Ok.nofr (ok : X.Ok) {b : Addr} {o : Obj} (e : X.base.get? b = some o) : b ∉ X.fs := fun hb => by
  have := (ok.funs.mem hb).1
  rw [e] at this; cases this
theorem Inv.bs (I : Inv X pins σ H s) : ∀ b o, X.base.get? b = some o → s.heap.get? b = some o ∧ H b = none := fun b o e =>
  ⟨I.base.keep b o (I.ok.bs b o e).1 (I.ok.bs b o e).2 (I.ok.nofr e) (I.ok.noex b o e), I.base.free b o (I.ok.bs b o e).1 (I.ok.bs b o e).2 (I.ok.noex b o e)⟩
theorem Inv.bk (I : Inv X pins σ H s) : ∀ b o, X.base.get? b = some o → s.heap.get? b = some o := fun b o e => (I.bs b o e).1
theorem Inv.mod (I : Inv X pins σ H s) : Mod X.K X.mg X.base := I.ok.mod
theorem Inv.kIn (I : Inv X pins σ H s) : X.K.In s.heap := I.ok.mod.kin.keeps I.bk
theorem Inv.lt (I : Inv X pins σ H s) : X.env.locals < s.heap.objs.size := let ⟨_, hn, _⟩ := I.loc; hn.lt
theorem Inv.sz (I : Inv X pins σ H s) : X.s₀.heap.objs.size ≤ s.heap.objs.size := Nat.le_trans I.ok.above (Nat.le_of_lt I.lt)
theorem Inv.nofs (I : Inv X pins σ H s) {a : Addr} (h : s.heap.objs.size ≤ a) : a ∉ X.fs := fun hb => by
  obtain ⟨_, o, ho, _⟩ := I.ok.funs.mem hb
  exact absurd (Nat.lt_of_lt_of_le (Heap.lt_size ho) (Nat.le_trans I.sz h)) (Nat.lt_irrefl _)
theorem Inv.cne (I : Inv X pins σ H s) : ∀ x c, X.env.cells.lookup x = some c → c ≠ X.env.locals := fun x c e z => by
  obtain ⟨v, o, ho, hd⟩ := I.cell x c e
  obtain ⟨m, ⟨o', es, ep, ho', hd', _⟩, _⟩ := I.loc
  rw [z, ho'] at ho; cases ho; rw [hd'] at hd; cases hd
theorem Inv.funs (I : Inv X pins σ H s) : s.heap.FunFrames X.base X.outer := by
  have all : ∀ (l : List Env), (∀ b ∈ frs l, b ∈ X.fs) → X.s₀.heap.FunFrames X.base l → s.heap.FunFrames X.base l := by
    intro l
    induction l with
    | nil => intro _ _; trivial
    | cons env r ih =>
      intro hs hl
      obtain ⟨hk, ⟨L, o, hf, hn, ho, hd⟩, hr⟩ := hl
      have hL : L ∈ X.fs := hs L (by unfold frs; rw [List.filterMap_cons, hf]; exact List.mem_cons_self)
      obtain ⟨sl, e⟩ := I.base.slot L o ho (I.ok.frf L hL) hL fun z => I.ok.exfs L z hL
      exact ⟨hk, ⟨L, _, hf, hn, e, hd⟩, ih (fun b hb => hs b (by unfold frs; rw [List.filterMap_cons, hf]; exact List.mem_cons_of_mem _ hb)) hr⟩
  exact all X.outer (fun _ hb => hb) I.ok.funs
theorem Inv.stack (I : Inv X pins σ H s) : s.heap.FunFrames X.base X.stack := by
  rcases I.ok.stk with e | ⟨e, hf⟩
  · rw [e]; exact I.funs
  · rw [e]
    obtain ⟨m, hn, _⟩ := I.loc
    refine .cons (by rw [I.ok.kind]; decide) hf hn ?_ I.funs
    exact Heap.get?_none_of_le (Nat.le_trans I.ok.bsz I.ok.above)
theorem Inv.stkSub (I : Inv X pins σ H s) : ∀ b ∈ frs X.stack, b ∈ X.env.locals :: X.fs := fun b hb => by
  rcases I.ok.stk with e | ⟨e, hf⟩
  · rw [e] at hb; exact List.mem_cons_of_mem _ hb
  · rw [e] at hb
    unfold frs at hb
    rw [List.filterMap_cons, hf] at hb
    exact hb
theorem Inv.stkFree (I : Inv X pins σ H s) : ∀ b ∈ frs X.stack, H b = none := fun b hb => by
  rcases List.mem_cons.mp (I.stkSub b hb) with e | hb
  · rw [e]; exact I.free
  · obtain ⟨_, o, ho, _⟩ := I.ok.funs.mem hb
    exact I.base.free b o ho (I.ok.frf b hb) fun z => I.ok.exfs b z hb
theorem Inv.step {g' : Array GenState} {t' : Nat} {d' : Drawn} {ch : List Addr} (I : Inv X pins σ H s)
    (hch : ∀ b ∈ ch, (b ∈ X.ex ∨ X.s₀.heap.objs.size ≤ b) ∧ b ≠ X.env.locals ∧ (∀ x c, X.env.cells.lookup x = some c → c ≠ b) ∧ ∀ p ∈ X.pn ++ pins, p.1 ≠ b)
    (keep : ∀ b o, b ≠ X.env.locals → b ∉ X.fs → b ∉ ch → s.heap.get? b = some o → H b = none → h'.get? b = some o)
    (slot : ∀ b o, b ≠ X.env.locals → b ∈ X.fs → b ∉ ch → s.heap.get? b = some o → H b = none → ∃ sl, h'.get? b = some { o with slots := sl }) (free : ∀ b o, b ∉ ch → s.heap.get? b = some o → H b = none → H' b = none)
    (there : ∀ b o, b ∉ ch → s.heap.get? b = some o → ∃ o', h'.get? b = some o')
    (tups : ∀ b xs, H b = some (.tup xs) → H' b = some (.tup xs)) (frzs : ∀ b o u, H b = some (.frz o u) → H' b = some (.frz o u)) (tbls : ∀ b ps, H b = some (.tbl ps) → ∃ more, H' b = some (.tbl (ps ++ more)))
    (ns : ∀ m, s.heap.Ns X.env.locals m → h'.Ns X.env.locals m) (hok : HOk X.prog X.w H' h') (hg : AllBare g') :
    Inv X pins σ H' { s with heap := h', gens := g', drawn := d', toks := t' } := by
  have neL : ∀ b o, X.s₀.heap.get? b = some o → b ≠ X.env.locals := fun b o e => Nat.ne_of_lt (Nat.lt_of_lt_of_le (Heap.lt_size e) I.ok.above)
  have neC : ∀ b o, X.s₀.heap.get? b = some o → b ∉ X.ex → b ∉ ch := fun b o e hx hb => by
    rcases (hch b hb).1 with z | z
    · exact hx z
    · exact absurd (Nat.lt_of_lt_of_le (Heap.lt_size e) z) (Nat.lt_irrefl _)
  have cellK : ∀ x c, X.env.cells.lookup x = some c → ∀ v, s.heap.IsCell c v → h'.IsCell c v := fun x c e v ⟨o, ho, hd⟩ => by
    have nch : c ∉ ch := fun z => (hch c z).2.2.1 x c e rfl
    by_cases hc : c ∈ X.fs
    · obtain ⟨sl, q⟩ := slot c o (I.cne x c e) hc nch ho (I.freeC x c e)
      exact ⟨_, q, hd⟩
    · exact ⟨o, keep c o (I.cne x c e) hc nch ho (I.freeC x c e), hd⟩
  refine ⟨I.ok, I.os, hg, ⟨fun b o e n hb hx => ?_, fun b o e n hb hx => ?_, fun b o e n hx => ?_, fun b o e hx => ?_, fun b xs e => tups b xs (I.base.tups b xs e), fun b o xs e => frzs b o xs (I.base.frzs b o xs e), fun b ps e => ?_⟩, ?_, fun x c e => ?_, ?_, fun x c e => ?_, fun p hp => ?_, hok, I.len⟩
  · exact keep b o (neL b o e) hb (neC b o e hx) (I.base.keep b o e n hb hx) (I.base.free b o e n hx)
  · obtain ⟨sl, e1⟩ := I.base.slot b o e n hb hx
    obtain ⟨sl', e2⟩ := slot b _ (neL b o e) hb (neC b o e hx) e1 (I.base.free b o e n hx)
    exact ⟨sl', e2⟩
  · obtain ⟨o', e1⟩ := I.base.there b o e hx
    exact free b o' (neC b o e hx) e1 (I.base.free b o e n hx)
  · obtain ⟨o', e1⟩ := I.base.there b o e hx
    exact there b o' (neC b o e hx) e1
  · obtain ⟨m1, e1⟩ := I.base.tbls b ps e
    obtain ⟨m2, e2⟩ := tbls b _ e1
    exact ⟨m1 ++ m2, by rw [e2, Array.append_assoc]⟩
  · obtain ⟨m, hn, hl⟩ := I.loc
    refine ⟨m, ns m hn, fun i x v e1 e2 e3 => ?_⟩
    obtain ⟨u, r, l⟩ := hl i x v e1 e2 e3
    refine ⟨u, r, ?_⟩
    rcases l with l | ⟨k, c, e, z⟩
    · exact .inl l
    · exact .inr ⟨k, c, e, cellK x c e _ z⟩
  · obtain ⟨v, z⟩ := I.cell x c e
    exact ⟨v, cellK x c e v z⟩
  · obtain ⟨m, ⟨o, _, _, ho, _⟩, _⟩ := I.loc
    exact free _ o (fun z => (hch _ z).2.1 rfl) ho I.free
  · obtain ⟨v, o, ho, hd⟩ := I.cell x c e
    exact free c o (fun z => (hch c z).2.2.1 x c e rfl) ho (I.freeC x c e)
  · obtain ⟨e, n, ne, nf, d⟩ := I.pin p hp
    have nch : p.1 ∉ ch := fun z => (hch p.1 z).2.2.2 p hp rfl
    exact ⟨keep p.1 p.2 ne nf nch e n, free p.1 p.2 nch e n, ne, nf, d⟩
theorem Inv.un {t' : Nat} (I : Inv X pins σ H s) (u : Un X.fs [] H H' s.heap h') (hok : HOk X.prog X.w H' h') : Inv X pins σ H' { s with heap := h', toks := t' } := by
  obtain ⟨m, ⟨o, es, ep, ho, r⟩, _⟩ := id I.loc
  obtain ⟨sl, hL⟩ := u.any ho I.free (by simp)
  exact I.step (g' := s.gens) (d' := s.drawn) (ch := []) (fun _ z => nomatch z) (fun b o _ hb _ e n => u.keep b o e n hb (by simp)) (fun b o _ hb _ e n => u.slot b o e n hb (by simp)) (fun b o _ e n => u.free b o e n (by simp)) (fun b o _ e => u.there b o e (by simp)) u.tups u.frzs u.tbls (fun m' hm => by
    obtain ⟨o', es', ep', ho', r'⟩ := hm
    rw [ho] at ho'; cases ho'
    exact ⟨_, es', ep', hL, r'⟩) hok I.bare
theorem Inv.call {g' : Array GenState} {t' : Nat} {d' : Drawn} {ch : List Addr} (I : Inv X pins σ H s) (u : Un (frs X.stack) ch H H' s.heap h') (hok : HOk X.prog X.w H' h') (hg : AllBare g')
    (hch : ∀ b ∈ ch, (b ∈ X.ex ∨ X.s₀.heap.objs.size ≤ b) ∧ b ≠ X.env.locals ∧ (∀ x c, X.env.cells.lookup x = some c → c ≠ b) ∧ ∀ p ∈ X.pn ++ pins, p.1 ≠ b) :
    Inv X pins σ H' { s with heap := h', gens := g', drawn := d', toks := t' } := by
  obtain ⟨m, ⟨o, es, ep, ho, r⟩, _⟩ := id I.loc
  obtain ⟨sl, hL⟩ := u.any ho I.free fun z => (hch _ z).2.1 rfl
  exact I.step (ch := ch) hch (fun b o hL hb hc e n => u.keep b o e n (fun z => (List.mem_cons.mp (I.stkSub b z)).elim hL hb) hc) (fun b o _ _ hc e n => u.any e n hc) (fun b o hc e n => u.free b o e n hc) (fun b o hc e => u.there b o e hc) u.tups u.frzs u.tbls (fun m' hm => by
    obtain ⟨o', es', ep', ho', r'⟩ := hm
    rw [ho] at ho'; cases ho'
    exact ⟨_, es', ep', hL, r'⟩) hok hg
theorem Inv.turned {t' : Nat} {it : Addr} (I : Inv X pins σ H s) (k : ∀ b o, b ≠ it → s.heap.get? b = some o → h'.get? b = some o) (hn : H it = none) (hL : it ≠ X.env.locals)
    (h1 : it ∈ X.ex ∨ X.s₀.heap.objs.size ≤ it) (h2 : ∀ x c, X.env.cells.lookup x = some c → c ≠ it) (h3 : ∀ p ∈ X.pn ++ pins, p.1 ≠ it) : Inv X pins σ H { s with heap := h', toks := t' } := by
  have nit : ∀ b u, H b = some u → b ≠ it := fun b u e z => by rw [z, hn] at e; cases e
  refine I.step (g' := s.gens) (d' := s.drawn) (ch := [it]) (fun b hb => ?_) (fun b o _ _ hc e _ => k b o (fun z => hc (by simp [z])) e) (fun b o _ _ hc e _ => ⟨o.slots, k b o (fun z => hc (by simp [z])) e⟩) (fun _ _ _ _ n => n)
    (fun b o hc e => ⟨o, k b o (fun z => hc (by simp [z])) e⟩) (fun _ _ e => e) (fun _ _ _ e => e) (fun b ps e => ⟨#[], by rw [e]; simp⟩) (fun m hm => ?_) (fun b u e => ?_) I.bare
  · have e : b = it := by simpa using hb
    subst e
    exact ⟨h1, hL, h2, h3⟩
  · obtain ⟨o, es, ep, ho, r⟩ := hm
    exact ⟨o, es, ep, k _ o (Ne.symm hL) ho, r⟩
  · refine (I.hok b u e).stay (fun c v hc q => k c v ?_ q) (fun _ q => q) fun _ _ q => q
    rcases hc with z | z
    · rw [z]; exact nit b u e
    · exact nit c _ z
theorem Inv.tok (I : Inv X pins σ H s) (t : Nat) : Inv X pins σ H { s with toks := t } := I.un (h' := s.heap) (t' := t) Un.refl I.hok
theorem Inv.kept {t' : Nat} (I : Inv X pins σ H s) (k : ∀ b u, s.heap.get? b = some u → h'.get? b = some u) : Inv X pins σ H { s with heap := h', toks := t' } := I.un (Un.kept k) (I.hok.kept k)
theorem Inv.laid {a : Addr} {o : HO} {t' : Nat} (I : Inv X pins σ H s) (k : ∀ b u, s.heap.get? b = some u → h'.get? b = some u) (hp : s.heap.objs.size ≤ a) (new : zfy X.prog X.w (upd H a o) h' a o) :
    Inv X pins σ (upd H a o) { s with heap := h', toks := t' } := I.un (Un.laid k hp (I.hok.fresh hp)) (I.hok.laid k hp new)
theorem Inv.write {x e : Addr} {o : HO} {t' : Nat} (I : Inv X pins σ H s) (mu : Mut (H x)) (he : e = x ∨ H e = some (.own x)) (k : ∀ b u, b ≠ e → s.heap.get? b = some u → h'.get? b = some u) (heo : ∃ u, h'.get? e = some u)
    (new : zfy X.prog X.w (upd H x o) h' x o) : Inv X pins σ (upd H x o) { s with heap := h', toks := t' } := I.un (Un.write mu he k heo) (I.hok.write mu he k heo new)
theorem Inv.pins_of {pins' : List (Addr × Obj)} (I : Inv X pins σ H s) (h : ∀ p ∈ pins', s.heap.get? p.1 = some p.2 ∧ H p.1 = none ∧ p.1 ≠ X.env.locals ∧ p.1 ∉ X.fs ∧ ∀ v, p.2.data ≠ .cell v) : Inv X pins' σ H s :=
  ⟨I.ok, I.os, I.bare, I.base, I.loc, I.cell, I.free, I.freeC, fun p hp => (List.mem_append.mp hp).elim (fun z => I.pin p (List.mem_append_left _ z)) (h p), I.hok, I.len⟩
theorem zabc {N : List Str} (hN : N.Nodup) {i j : Nat} {x : Str} (a : N[i]? = some x) (b : N[j]? = some x) : i = j := by
  obtain ⟨h1, e1⟩ := List.getElem?_eq_some_iff.mp a
  obtain ⟨h2, e2⟩ := List.getElem?_eq_some_iff.mp b
  exact (List.getElem_inj hN).mp (e1.trans e2.symm)
theorem zwe {M : Model} {A : Around} {E : Value → Shared → Prop} {i : Nat} {x : Str} {v : V} {u : Value} {Q : Unit → Shared → Prop} (I : Inv X pins σ H s) (hN : X.N.Nodup) (hi : X.N[i]? = some x) (hx : Loc X.env.scope x) (r : RelV v u)
    (h : ∀ s', Inv X pins (σ.set i (some v)) H s' → (∃ a, Heap.SameBut a s.heap s'.heap ∧ (a = X.env.locals ∨ X.env.cells.lookup x = some a)) → Q () s') (hf : X.fn x = true ∨ X.env.scope.names.lookup x = some .local := by assumption) : wpAny M A (storeName X.env x u) Q E s := by
  obtain ⟨m, hn, hl⟩ := id I.loc
  have hcls : (X.env.scope.kind == .class || (X.env.scope.kind == .module && X.env.locals != X.env.globals)) = false := by rw [I.ok.kind]; rfl
  have hiσ : i < σ.length := by rw [I.len]; exact (List.getElem?_eq_some_iff.mp hi).1
  have cne := I.cne
  have tracked : ∀ {a : Addr} {h' : Heap}, (∃ o, s.heap.get? a = some o ∧ H a = none) → Heap.SameBut a s.heap h' → HOk X.prog X.w H h' := fun {a h'} ha hs b ob e => by
    obtain ⟨_, _, hfree⟩ := ha
    refine (I.hok b ob e).stay (fun c w' hc q => (hs.2 c ?_).trans q) (fun _ q => q) fun _ _ q => q
    rintro rfl
    rcases hc with rfl | hc
    · rw [hfree] at e; cases e
    · rw [hfree] at hc; cases hc
  rcases hx with hk | hk
  · refine wpAny_storeName_local hk hn (fun h' hn' hs => ?_) hcls
    obtain ⟨oL, _, _, hoL, _⟩ := id hn
    refine h _ ⟨I.ok, I.os, I.bare, ⟨fun b o e n hb hx => ?_, fun b o e n hb hx => ?_, I.base.free, fun b o e hx => ?_, I.base.tups, I.base.frzs, I.base.tbls⟩, ⟨_, hn', fun j y v' e1 e2 e3 => ?_⟩, fun y c e => ?_, I.free, I.freeC, fun p hp => ?_, tracked ⟨oL, hoL, I.free⟩ hs, by simpa using I.len⟩ ⟨_, hs, .inl rfl⟩
    · exact (hs.2 b (Nat.ne_of_lt (Nat.lt_of_lt_of_le (Heap.lt_size e) I.ok.above))).trans (I.base.keep b o e n hb hx)
    · obtain ⟨sl, e1⟩ := I.base.slot b o e n hb hx
      exact ⟨sl, (hs.2 b (Nat.ne_of_lt (Nat.lt_of_lt_of_le (Heap.lt_size e) I.ok.above))).trans e1⟩
    · obtain ⟨o', e1⟩ := I.base.there b o e hx
      exact ⟨o', (hs.2 b (Nat.ne_of_lt (Nat.lt_of_lt_of_le (Heap.lt_size e) I.ok.above))).trans e1⟩
    · by_cases hj : j = i
      · subst hj
        rw [hi] at e1; cases e1
        rw [List.getElem?_set_self hiσ] at e2
        cases e2
        exact ⟨u, r, .inl ⟨hk, by simp⟩⟩
      · rw [List.getElem?_set_ne (Ne.symm hj)] at e2
        obtain ⟨u', r', q⟩ := hl j y v' e1 e2 e3
        refine ⟨u', r', ?_⟩
        rcases q with ⟨k, e⟩ | ⟨k, c, e, z⟩
        · refine .inl ⟨k, ?_⟩
          have : y ≠ x := fun e => hj (zabc hN e1 (e ▸ hi))
          simp [this, e]
        · exact .inr ⟨k, c, e, z.sameBut hs (cne y c e)⟩
    · obtain ⟨w', z⟩ := I.cell y c e
      exact ⟨w', z.sameBut hs (cne y c e)⟩
    · obtain ⟨e, n, ne, nf, d⟩ := I.pin p hp
      exact ⟨(hs.2 p.1 ne).trans e, n, ne, nf, d⟩
  · have hfn : X.fn x = true := by
      rcases hf with z | z
      · exact z
      · rw [z] at hk; cases hk
    obtain ⟨c, hc⟩ := I.ok.has x (.inl hk)
    obtain ⟨w', z⟩ := I.cell x c hc
    refine wpAny_storeName_cell I.ok.kind hk hc z (fun h' hc' hs => ?_)
    obtain ⟨oc, hoc, hocd⟩ := id z
    refine h { s with heap := h' } ⟨I.ok, I.os, I.bare, ⟨fun b o e n hb hx => ?_, fun b o e n hb hx => ?_, I.base.free, fun b o e hx => ?_, I.base.tups, I.base.frzs, I.base.tbls⟩, ⟨m, hn.sameBut hs (Ne.symm (cne x c hc)), fun j y v' e1 e2 e3 => ?_⟩, fun y c' e => ?_, I.free, I.freeC, fun p hp => ?_, tracked ⟨oc, hoc, I.freeC x c hc⟩ hs, by simpa using I.len⟩ ⟨c, hs, .inr hc⟩
    · exact (hs.2 b (Nat.ne_of_lt (Nat.lt_of_lt_of_le (Heap.lt_size e) (I.ok.cab x c hfn hc)))).trans (I.base.keep b o e n hb hx)
    · obtain ⟨sl, e1⟩ := I.base.slot b o e n hb hx
      exact ⟨sl, (hs.2 b (Nat.ne_of_lt (Nat.lt_of_lt_of_le (Heap.lt_size e) (I.ok.cab x c hfn hc)))).trans e1⟩
    · obtain ⟨o', e1⟩ := I.base.there b o e hx
      exact ⟨o', (hs.2 b (Nat.ne_of_lt (Nat.lt_of_lt_of_le (Heap.lt_size e) (I.ok.cab x c hfn hc)))).trans e1⟩
    · by_cases hj : j = i
      · subst hj
        rw [hi] at e1; cases e1
        rw [List.getElem?_set_self hiσ] at e2
        cases e2
        exact ⟨u, r, .inr ⟨.inl hk, c, hc, hc'⟩⟩
      · rw [List.getElem?_set_ne (Ne.symm hj)] at e2
        obtain ⟨u', r', q⟩ := hl j y v' e1 e2 e3
        refine ⟨u', r', ?_⟩
        rcases q with q | ⟨k, c', e, z'⟩
        · exact .inl q
        · refine .inr ⟨k, c', e, z'.sameBut hs ?_⟩
          rintro rfl
          exact hj (zabc hN e1 (I.ok.inj _ _ _ e hc ▸ hi))
    · by_cases hcc : c' = c
      · subst hcc; exact ⟨_, hc'⟩
      · obtain ⟨w2, z2⟩ := I.cell y c' e
        exact ⟨w2, z2.sameBut hs hcc⟩
    · obtain ⟨e, n, ne, nf, d⟩ := I.pin p hp
      refine ⟨(hs.2 p.1 ?_).trans e, n, ne, nf, d⟩
      intro q
      rw [q, hoc] at e
      have q' : oc = p.2 := Option.some.inj e
      exact d w' (by rw [← q']; exact hocd)
theorem zabd {M : Model} {A : Around} {E : Value → Shared → Prop} {i : Nat} {x : Str} {v : V} {u : Value} {Q : Unit → Shared → Prop} (I : Inv X pins σ H s) (hN : X.N.Nodup) (hi : X.N[i]? = some x) (hx : Loc X.env.scope x) (r : RelV v u)
    (h : ∀ s', Inv X pins (σ.set i (some v)) H s' → Q () s') (hf : X.fn x = true ∨ X.env.scope.names.lookup x = some .local := by assumption) : wpAny M A (storeName X.env x u) Q E s :=
  zwe I hN hi hx r (fun s' I' _ => h s' I') hf
end
noncomputable abbrev XK := Value → Option Addr → Hp → Prop
noncomputable abbrev St := List (Option V)
noncomputable abbrev VK := V → Hp → Prop
noncomputable abbrev TE := St → Hp → VK → Prop
noncomputable abbrev TT := St → Hp → (Bool → Hp → Prop) → Prop
noncomputable abbrev TA := St → Hp → (List V → Hp → Prop) → Prop
set_option genInjectivity false in
structure Ends where
  nx : St → Hp → Prop
  rt : VK
  bk : St → Hp → Prop := fun _ _ => False
  ct : St → Hp → Prop := fun _ _ => False
noncomputable abbrev TS := Ends → St → Hp → Prop
noncomputable def EP (X : Cx) (pins : List (Addr × Obj)) (σ : St) (Q : VK) (u : Value) (s' : Shared) : Prop := ∃ v H', Inv X pins σ H' s' ∧ RelV v u ∧ Q v H'
noncomputable def TP (X : Cx) (pins : List (Addr × Obj)) (σ : St) (Q : Bool → Hp → Prop) (b : Bool) (s' : Shared) : Prop := ∃ H', Inv X pins σ H' s' ∧ Q b H'
noncomputable def AP (X : Cx) (pins : List (Addr × Obj)) (σ : St) (Q : List V → Hp → Prop) (us : List Value) (s' : Shared) : Prop := ∃ vs H', Inv X pins σ H' s' ∧ Vals vs us ∧ Q vs H'
noncomputable def SP (X : Cx) (pins : List (Addr × Obj)) (D : Ends) (f : Flow) (s' : Shared) : Prop :=
  match f with
  | .next => ∃ σ' H', Inv X pins σ' H' s' ∧ D.nx σ' H'
  | .brk => ∃ σ' H', Inv X pins σ' H' s' ∧ D.bk σ' H'
  | .cont => ∃ σ' H', Inv X pins σ' H' s' ∧ D.ct σ' H'
  | .ret u => ∃ v σ' H', Inv X pins σ' H' s' ∧ RelV v u ∧ D.rt v H'
noncomputable def PE (X : Cx) (e : Expr) (t : TE) : Prop :=
  ∀ (pins : List (Addr × Obj)) (s : Shared) (σ : St) (H : Hp) (Q : VK), Inv X pins σ H s → t σ H Q → wpAny (model X.prog X.w) X.A (eval e X.env) (EP X pins σ Q) X.xe s
noncomputable def PT (X : Cx) (e : Expr) (t : TT) : Prop :=
  ∀ (pins : List (Addr × Obj)) (s : Shared) (σ : St) (H : Hp) (Q : Bool → Hp → Prop), Inv X pins σ H s → t σ H Q → wpAny (model X.prog X.w) X.A (isTrue e X.env (eval e X.env)) (TP X pins σ Q) X.xe s
noncomputable def PW (X : Cx) (e : Expr) (t : TT) : Prop :=
  ∀ (whole : Sem Value) (pins : List (Addr × Obj)) (s : Shared) (σ : St) (H : Hp) (Q : Bool → Hp → Prop), Inv X pins σ H s → t σ H Q → wpAny (model X.prog X.w) X.A (isTrue e X.env whole) (TP X pins σ Q) X.xe s
theorem PW.pt {X : Cx} {e : Expr} {t : TT} (h : PW X e t) : PT X e t := h _
noncomputable def PA (X : Cx) (es : List Expr) (t : TA) : Prop :=
  ∀ (pos : Pos) (pins : List (Addr × Obj)) (s : Shared) (σ : St) (H : Hp) (Q : List V → Hp → Prop), Inv X pins σ H s → t σ H Q → wpAny (model X.prog X.w) X.A (spliced (backTo pos (starEach es X.env))) (AP X pins σ Q) X.xe s
noncomputable def PS (X : Cx) (st : Stmt) (t : TS) : Prop :=
  ∀ (pins : List (Addr × Obj)) (s : Shared) (σ : St) (H : Hp) (D : Ends), Inv X pins σ H s → t D σ H → wpAny (model X.prog X.w) X.A (exec st X.env) (SP X pins D) X.xe s
noncomputable def PSs (X : Cx) (st : List Stmt) (t : TS) : Prop :=
  ∀ (pins : List (Addr × Obj)) (s : Shared) (σ : St) (H : Hp) (D : Ends), Inv X pins σ H s → t D σ H → wpAny (model X.prog X.w) X.A (execs st X.env) (SP X pins D) X.xe s
theorem thn {α : Type} {t : Sem α} {Q Q' : α → Shared → Prop} {M : Model} {A : Around} {E : Value → Shared → Prop} {s : Shared} (h : wpAny M A t Q E s) (hQ : ∀ a s, Q a s → Q' a s) : wpAny M A t Q' E s := wpAny_mono h hQ fun _ _ x => x
end L2
namespace L2
open PySem PySem.Spec PyProof.Rows
section
variable {X : Cx}
theorem bin {a b : Expr} {ta tb : TE} (ha : PE X a ta) (hb : PE X b tb) {pins : List (Addr × Obj)} {s : Shared} {σ : St} {H : Hp} {R : V → V → Hp → Prop} (I : Inv X pins σ H s) (h : ta σ H fun x H1 => tb σ H1 fun y H2 => R x y H2)
    {α : Type} {Q : α → Shared → Prop} {f : Value → Value → Sem α}
    (hf : ∀ v u s2 x y H2, Inv X pins σ H2 s2 → RelV x v → RelV y u → R x y H2 → wpAny (model X.prog X.w) X.A (f v u) Q X.xe s2) :
    wpAny (model X.prog X.w) X.A (eval a X.env) (fun v s₁ => wpAny (model X.prog X.w) X.A (eval b X.env) (fun u s₂ => wpAny (model X.prog X.w) X.A (f v u) Q X.xe s₂) X.xe s₁) X.xe s := by
  refine thn (ha pins s σ H _ I h) fun v s1 ⟨x, H1, I1, r1, q1⟩ => ?_
  refine thn (hb pins s1 σ H1 _ I1 q1) fun u s2 ⟨y, H2, I2, r2, q2⟩ => ?_
  exact hf v u s2 x y H2 I2 r1 r2 q2
noncomputable def tVar (i : Nat) : TE := fun σ H Q => ∃ v, σ[i]? = some (some v) ∧ Q v H
noncomputable def tC (v : V) : TE := fun _ H Q => Q v H
theorem zany {i : Nat} {x : Str} {pos : Pos} (hN : X.N[i]? = some x) (hv : Vis X.env.scope x) (hd : (x == ("__debug__" : Str)) = false := by decide) (hcd : (x == ("__classdict__" : Str)) = false := by decide) : PE X (.Name x pos) (tVar i) := by
  intro pins s σ H Q I h
  obtain ⟨v, e, h⟩ := h
  obtain ⟨m, hn, hl⟩ := I.loc
  obtain ⟨u, r, l⟩ := hl i x v hN e hv
  have fin : EP X pins σ Q u s := ⟨v, H, I, r, h⟩
  rcases l with ⟨hk, hm⟩ | ⟨hk, c, hc, hcell⟩
  · exact wpAny_Name (wpAny_loadName_local I.ok.kind hk hn hm fin) hd
  · rcases hk with hk | hk
    · exact wpAny_Name (wpAny_loadName_cell I.ok.kind hk hc hcell fin) hd
    · exact wpAny_Name (wpAny_loadName_free I.ok.kind hk hc hcell fin hcd) hd
theorem zanz {i j pos} : PE X (.Constant (.int i) j pos) (tC (.int i)) := fun _ _ _ H _ I h => wpAny_Constant_int ⟨.int i, H, I.tok _, ⟨_, rfl⟩, h⟩
theorem zarg {b j pos} : PE X (.Constant (.bool b) j pos) (tC (.bl b)) := fun _ _ _ H _ I h => Constant_bool ⟨.bl b, H, I, rfl, h⟩
theorem zaoa {x j pos} : PE X (.Constant (.str x) j pos) (tC (.str x)) := fun _ _ _ H _ I h => Calls.Constant_str ⟨.str x, H, I.tok _, ⟨_, rfl⟩, h⟩
noncomputable def Gl (X : Cx) (x : Str) : Prop := X.env.kindOf x = some .globalImplicit
theorem zali {E : Value → Shared → Prop} {pins : List (Addr × Obj)} {s : Shared} {σ : St} {H : Hp} {x : Str} {u : Value} {pos : Pos} {Q : Value → Shared → Prop} (I : Inv X pins σ H s) (hg : Gl X x) (hm : X.mg x = some u) (h : Q u s)
    (hd : (x == ("__debug__" : Str)) = false := by decide) : wpAny (model X.prog X.w) X.A (eval (.Name x pos) X.env) Q E s :=
  Calls.Name_function_global I.ok.kind hg (Calls.loadGlobal_global (by rw [I.ok.glob]; exact I.mod.glob.keeps I.bk) hm h) hd
theorem zsv {E : Value → Shared → Prop} {pins : List (Addr × Obj)} {s : Shared} {σ : St} {H : Hp} {x : Str} {u : Value} {pos : Pos} {Q : Value → Shared → Prop} (I : Inv X pins σ H s) (hg : Gl X x) (hm : X.mg x = none) (hv : bootBuiltins x = some u) (h : Q u s)
    (hn : x ≠ "__name__" := by decide) (hd : (x == ("__debug__" : Str)) = false := by decide) : wpAny (model X.prog X.w) X.A (eval (.Name x pos) X.env) Q E s := by
  obtain ⟨mb, h1, h2⟩ := I.mod.blt
  exact Calls.Name_function_global I.ok.kind hg (Calls.loadGlobal_builtin (by rw [I.ok.glob]; exact I.mod.glob.keeps I.bk) hm (by rw [I.ok.blt]; exact h1.keeps I.bk) ((h2 x hn).trans hv) h) hd
theorem zalj {x : Str} {v : V} {u : Value} {pos : Pos} (hg : Gl X x) (hm : X.mg x = none) (hv : bootBuiltins x = some u) (r : RelV v u) (hn : x ≠ "__name__" := by decide) (hd : (x == ("__debug__" : Str)) = false := by decide) : PE X (.Name x pos) (tC v) :=
  fun _ _ _ H _ I h => zsv I hg hm hv ⟨v, H, I, r, h⟩ hn hd
variable {a b : Expr} {ta tb : TE} {pos : Pos}
noncomputable def PC (X : Cx) (op : CmpOp) (a b : Expr) (t : TE) : Prop :=
  ∀ (pins : List (Addr × Obj)) (s : Shared) (σ : St) (H : Hp) (Q : VK), Inv X pins σ H s → t σ H Q →
    wpAny (model X.prog X.w) X.A (eval a X.env) (fun v s₁ => wpAny (model X.prog X.w) X.A (eval b X.env) (fun u s₂ => wpAny (model X.prog X.w) X.A (compareOp op v u) (EP X pins σ Q) X.xe s₂) X.xe s₁) X.xe s
noncomputable def tB (t : TE) : TT := fun σ H Q => t σ H fun x H1 => ∃ c, x = .bl c ∧ Q c H1
theorem zaob {op : CmpOp} {t : TE} (h : PC X op a b t) (h1 : behindInMarks op b = false := by rfl) : PE X (.Compare a [op] [b] pos) t := fun pins s σ H Q I hw => wpAny_Compare1 (h pins s σ H Q I hw) h1
variable {tA tB' : TT} {rest : List Expr}
noncomputable def tAnd (t u : TT) : TT := fun σ H Q => t σ H fun c H1 => if c = true then u σ H1 Q else Q false H1
noncomputable def tOr (t u : TT) : TT := fun σ H Q => t σ H fun c H1 => if c = true then Q true H1 else u σ H1 Q
noncomputable def tNot (t : TT) : TT := fun σ H Q => t σ H fun c H1 => Q (!c) H1
theorem zalk (ha : PT X a tA) : PW X (.BoolOp .And [a] pos) tA := by
  intro wh pins s σ H Q I h
  refine isTrue_and (thn (ha pins s σ H Q I h) fun c s1 e => ?_)
  cases c with
  | true => exact isTrue_and_nil e
  | false => exact e
theorem zaoc (ha : PT X a tA) : PW X (.BoolOp .Or [a] pos) tA := by
  intro wh pins s σ H Q I h
  refine isTrue_or (thn (ha pins s σ H Q I h) fun c s1 e => ?_)
  cases c with
  | false => exact isTrue_or_nil e
  | true => exact e
theorem zaod (ha : PT X a tA) (hb : PW X (.BoolOp .And (b :: rest) pos) tB') : PW X (.BoolOp .And (a :: b :: rest) pos) (tAnd tA tB') := by
  intro wh pins s σ H Q I h
  refine isTrue_and (thn (ha pins s σ H _ I h) fun c s1 ⟨H1, I1, q1⟩ => ?_)
  cases c with
  | true => exact hb wh pins s1 σ H1 Q I1 q1
  | false => exact ⟨H1, I1, q1⟩
theorem zarh (ha : PT X a tA) (hb : PW X (.BoolOp .Or (b :: rest) pos) tB') : PW X (.BoolOp .Or (a :: b :: rest) pos) (tOr tA tB') := by
  intro wh pins s σ H Q I h
  refine isTrue_or (thn (ha pins s σ H _ I h) fun c s1 ⟨H1, I1, q1⟩ => ?_)
  cases c with
  | true => exact ⟨H1, I1, q1⟩
  | false => exact hb wh pins s1 σ H1 Q I1 q1
theorem zaoe (ha : PT X a tA) : PT X (.UnaryOp .Not a pos) (tNot tA) := by
  intro pins s σ H Q I h
  exact isTrue_not (ha pins s σ H (fun c H1 => Q (!c) H1) I h)
noncomputable def tAndV (ta tb : TE) : TE := fun σ H Q => ta σ H fun x H1 => ∃ c, x = .bl c ∧ if c = true then tb σ H1 Q else Q (.bl false) H1
noncomputable def tNotV (ta : TE) : TE := fun σ H Q => ta σ H fun x H1 => ∃ c, x = .bl c ∧ Q (.bl (!c)) H1
theorem zaof {op} {t : TE} (h : PE X a t) : PE X (.BoolOp op [a] pos) t := fun pins s σ H Q I hw => BoolOp_one (h pins s σ H Q I hw)
theorem zaog (ha : PE X a ta) (hb : PE X (.BoolOp .And (b :: rest) pos) tb) : PE X (.BoolOp .And (a :: b :: rest) pos) (tAndV ta tb) := by
  intro pins s σ H Q I h
  refine BoolOp_and (thn (ha pins s σ H _ I h) fun v s1 ⟨x, H1, I1, r1, q1⟩ => ?_)
  obtain ⟨c, rfl, q1⟩ := q1
  cases r1
  refine wpAny_truthy_bool ?_
  cases c with
  | true => exact hb pins s1 σ H1 Q I1 q1
  | false => exact ⟨.bl false, H1, I1, rfl, q1⟩
theorem zaoh (ha : PE X a ta) : PE X (.UnaryOp .Not a pos) (tNotV ta) := by
  intro pins s σ H Q I h
  refine UnaryOp_ (thn (ha pins s σ H _ I h) fun v s1 ⟨x, H1, I1, r1, q1⟩ => ?_)
  obtain ⟨c, rfl, q1⟩ := q1
  cases r1
  exact not_of (wpAny_truthy_bool ⟨.bl (!c), H1, I1, rfl, q1⟩)
end
end L2
namespace L2
open PySem PySem.Spec PyProof.Rows
noncomputable def SqL (K : PySem.W.Frag) (H : Hp) (a : Addr) (xs : List V) : Prop :=
  Rd H a (.lst xs) ∨
    ∃ (o : Obj) (its : Array Value) (n : Nat), K.lookup a = some o ∧ o.cls = .type "list" ∧ o.dict = none ∧ o.data = .seq its n ∧ its.size ≤ sizeLine ∧ Vals xs its.toList
noncomputable def SqT (K : PySem.W.Frag) (H : Hp) (a : Addr) (xs : List V) : Prop :=
  Rd H a (.tup xs) ∨
    ∃ (o : Obj) (its : Array Value) (n : Nat), K.lookup a = some o ∧ o.cls = .type "tuple" ∧ o.data = .seq its n ∧ its.size ≤ sizeLine ∧ Vals xs its.toList
noncomputable def absV : Value → Option V
  | .none => some .non
  | .bool b => some (.bl b)
  | .int i _ => some (.int i)
  | .str x _ => some (.str x)
  | .bytes b _ => some (.byt b)
  | .float b _ => some (.flt b)
  | .ref a => some (.ref a)
  | .type n => some (.ty n)
  | _ => none
theorem RelV.abs {x : V} {u : Value} (r : RelV x u) : absV u = some x := by
  cases x with
  | non => cases r; rfl
  | bl _ => cases r; rfl
  | int _ => obtain ⟨t, rfl⟩ := r; rfl
  | str _ => obtain ⟨t, rfl⟩ := r; rfl
  | byt _ => obtain ⟨t, rfl⟩ := r; rfl
  | flt _ => obtain ⟨t, rfl⟩ := r; rfl
  | ref _ => cases r; rfl
  | ty _ => cases r; rfl
theorem RelV.inj {x y : V} {u : Value} (r : RelV x u) (q : RelV y u) : x = y := Option.some.inj (r.abs.symm.trans q.abs)
theorem Vals.inj : ∀ {xs ys : List V} {us : List Value}, Vals xs us → Vals ys us → xs = ys
  | _, _, _, .nil, .nil => rfl
  | _, _, _, .cons r t, .cons r' t' => by rw [r.inj r', Vals.inj t t']
section
variable {X : Cx} {pins : List (Addr × Obj)} {σ : St} {H : Hp} {s : Shared} {a : Addr} {xs ys : List V}
theorem SqL.of {K : PySem.W.Frag} (h : H a = some (.lst xs)) : SqL K H a xs := .inl (.inl h)
theorem SqT.of {K : PySem.W.Frag} (h : H a = some (.tup xs)) : SqT K H a xs := .inl (.inl h)
theorem Inv.list (I : Inv X pins σ H s) (h : SqL X.K H a xs) : ∃ its : List Value, Vals xs its ∧ PlainL s.heap a its.toArray ∧ xs.length ≤ sizeLine := by
  rcases h with h | ⟨o, its, n, hk, hc, hd, hs, hz, r⟩
  · obtain ⟨z, its, n, r, e⟩ := h.ok I.hok
    exact ⟨its, r, ⟨_, n, e, rfl, rfl, rfl⟩, z⟩
  · refine ⟨its.toList, r, ⟨o, n, I.kIn a o hk, hc, hd, by simpa using hs⟩, ?_⟩
    have e := r.length
    simp only [Array.length_toList] at e
    omega
theorem Inv.tuple (I : Inv X pins σ H s) (h : SqT X.K H a xs) : ∃ its : List Value, Vals xs its ∧ IsTup s.heap a its.toArray ∧ xs.length ≤ sizeLine := by
  rcases h with h | ⟨o, its, n, hk, hc, hs, hz, r⟩
  · obtain ⟨z, its, r, p⟩ := h.ok I.hok
    exact ⟨its, r, p, z⟩
  · refine ⟨its.toList, r, ⟨o, I.kIn a o hk, hc, n, by simpa using hs⟩, ?_⟩
    have e := r.length
    simp only [Array.length_toList] at e
    omega
theorem Inv.list_inj (I : Inv X pins σ H s) (h : SqL X.K H a xs) (h' : SqL X.K H a ys) : xs = ys := by
  obtain ⟨its, r, ⟨o, n, e, _, _, d⟩, _⟩ := I.list h
  obtain ⟨its', r', ⟨o', n', e', _, _, d'⟩, _⟩ := I.list h'
  rw [e] at e'; cases e'
  rw [d] at d'
  injection d' with d1 _
  have : its = its' := by simpa using congrArg Array.toList d1
  subst this
  exact r.inj r'
theorem Inv.tuple_inj (I : Inv X pins σ H s) (h : SqT X.K H a xs) (h' : SqT X.K H a ys) : xs = ys := by
  obtain ⟨its, r, ⟨o, e, _, n, d⟩, _⟩ := I.tuple h
  obtain ⟨its', r', ⟨o', e', _, n', d'⟩, _⟩ := I.tuple h'
  rw [e] at e'; cases e'
  rw [d] at d'
  injection d' with d1 _
  have : its = its' := by simpa using congrArg Array.toList d1
  subst this
  exact r.inj r'
end
noncomputable abbrev Cx.wish (X : Cx) (E : Value → Shared → Prop) : Cx := { X with xe := E }
noncomputable abbrev Cx.nox (X : Cx) : Cx := X.wish fun _ _ => False
theorem Cx.Ok.wish {X : Cx} (ok : X.Ok) (E : Value → Shared → Prop) : (X.wish E).Ok :=
  ⟨ok.mod, ok.kind, ok.glob, ok.blt, ok.above, ok.inj, ok.has, ok.cab, ok.hd, ok.frames, ok.stk, ok.exf, ok.bs, ok.bsz, ok.noex, ok.exfs, ok.funs, ok.frf⟩
theorem Cx.Ok.unwish {X : Cx} {E : Value → Shared → Prop} (ok : (X.wish E).Ok) : X.Ok :=
  ⟨ok.mod, ok.kind, ok.glob, ok.blt, ok.above, ok.inj, ok.has, ok.cab, ok.hd, ok.frames, ok.stk, ok.exf, ok.bs, ok.bsz, ok.noex, ok.exfs, ok.funs, ok.frf⟩
section
variable {X : Cx} {pins : List (Addr × Obj)} {σ : St} {H : Hp} {s : Shared} {E : Value → Shared → Prop}
theorem Inv.wish (I : Inv X pins σ H s) (E : Value → Shared → Prop) : Inv (X.wish E) pins σ H s := ⟨I.ok.wish E, I.os, I.bare, I.base, I.loc, I.cell, I.free, I.freeC, I.pin, I.hok, I.len⟩
theorem Inv.unwish (I : Inv (X.wish E) pins σ H s) : Inv X pins σ H s := ⟨I.ok.unwish, I.os, I.bare, I.base, I.loc, I.cell, I.free, I.freeC, I.pin, I.hok, I.len⟩
theorem SP.unwish {D : Ends} {f : Flow} {s' : Shared} (h : SP (X.wish E) pins D f s') : SP X pins D f s' := by
  cases f with
  | next => obtain ⟨σ', H', I, q⟩ := h; exact ⟨σ', H', I.unwish, q⟩
  | brk => obtain ⟨σ', H', I, q⟩ := h; exact ⟨σ', H', I.unwish, q⟩
  | cont => obtain ⟨σ', H', I, q⟩ := h; exact ⟨σ', H', I.unwish, q⟩
  | ret u => obtain ⟨v, σ', H', I, r, q⟩ := h; exact ⟨v, σ', H', I.unwish, r, q⟩
theorem PSs.nox {st : List Stmt} {t : TS} (h : PSs X.nox st t) : PSs X st t := fun pins s σ H D I hw =>
  wpAny_mono (h pins s σ H D (I.wish _) hw) (fun _ _ q => q.unwish) fun _ _ z => False.elim z
end
section
variable {X : Cx} {st : Stmt} {rest : List Stmt} {t u : TS} {e : Expr} {te : TE} {pos : Pos}
noncomputable def tNext : TS := fun D σ H => D.nx σ H
noncomputable def tSeq (t u : TS) : TS := fun D σ H => t { D with nx := u D } σ H
theorem zall : PSs X [] tNext := fun _ _ σ H _ I h => wpAny_execs_nil ⟨σ, H, I, h⟩
theorem zahq (h1 : PS X st t) (h2 : PSs X rest u) : PSs X (st :: rest) (tSeq t u) := by
  intro pins s σ H D I h
  refine wpAny_execs_cons (thn (h1 pins s σ H { D with nx := u D } I h) fun f s1 q => ?_)
  cases f with
  | next =>
    obtain ⟨σ', H', I', q⟩ := q
    exact h2 pins s1 σ' H' D I' q
  | ret v => exact q
  | brk => exact q
  | cont => exact q
theorem zalm (h1 : PS X st t) : PSs X [st] t := by
  intro pins s σ H D I h
  refine wpAny_execs_cons (thn (h1 pins s σ H D I h) fun f s1 q => ?_)
  cases f with
  | next => exact wpAny_execs_nil q
  | ret v => exact q
  | brk => exact q
  | cont => exact q
theorem Inv.quiet {pins : List (Addr × Obj)} {σ : St} {H : Hp} {s : Shared} (I : Inv X pins σ H s) : interactive X.env = false := by simp [interactive, I.ok.kind]
noncomputable def tDrop (te : TE) : TS := fun D σ H => te σ H fun _ H1 => D.nx σ H1
theorem zaln (he : PE X e te) (hs : swapsWith e none pos.line X.env = pure false := by rfl) : PS X (.Expr e pos) (tDrop te) := by
  intro pins s σ H D I h
  exact wpAny_Expr_any (thn (he pins s σ H _ I h) fun v s1 ⟨x, H1, I1, r1, q1⟩ => ⟨σ, H1, I1, q1⟩) I.quiet hs
noncomputable def tRet (te : TE) : TS := fun D σ H => te σ H D.rt
theorem zaoi (he : PE X e te) : PS X (.Return (some e) pos) (tRet te) := by
  intro pins s σ H D I h
  exact wpAny_Return_some (thn (he pins s σ H _ I h) fun v s1 ⟨x, H1, I1, r1, q1⟩ => ⟨x, σ, H1, I1, r1, q1⟩)
noncomputable def tIfS (c : TT) (t u : TS) : TS := fun D σ H => c σ H fun b H1 => if b = true then t D σ H1 else u D σ H1
theorem zari {c : Expr} {a b : List Stmt} {tc : TT} (hc : PT X c tc) (ha : PSs X a t) (hb : PSs X b u) : PS X (.If c a b pos) (tIfS tc t u) := by
  intro pins s σ H D I h
  refine wpAny_If (thn (hc pins s σ H _ I h) fun d s1 ⟨H1, I1, q1⟩ => ?_)
  cases d with
  | true => exact ha pins s1 σ H1 D I1 q1
  | false => exact hb pins s1 σ H1 D I1 q1
noncomputable def tNever : TS := fun _ _ _ => False
theorem zahr : PS X st tNever := fun _ _ _ _ _ _ h => h.elim
end
noncomputable abbrev TG := V → St → Hp → (St → Hp → Prop) → Prop
noncomputable abbrev TGs := List V → St → Hp → (St → Hp → Prop) → Prop
noncomputable def PG (X : Cx) (target : Expr) (t : TG) : Prop :=
  ∀ (pins : List (Addr × Obj)) (s : Shared) (σ : St) (H : Hp) (v : V) (u : Value) (Q : St → Hp → Prop), Inv X pins σ H s → RelV v u → t v σ H Q →
    wpAny (model X.prog X.w) X.A (assign target X.env u) (fun _ s' => ∃ σ' H', Inv X pins σ' H' s' ∧ Q σ' H') X.xe s
noncomputable def PGs (X : Cx) (ts : List Expr) (t : TGs) : Prop :=
  ∀ (pins : List (Addr × Obj)) (s : Shared) (σ : St) (H : Hp) (vs : List V) (us : List Value) (Q : St → Hp → Prop), Inv X pins σ H s → Vals vs us → t vs σ H Q →
    wpAny (model X.prog X.w) X.A (assignInOrder ((assignEach ts X.env).map (·.2)) us) (fun _ s' => ∃ σ' H', Inv X pins σ' H' s' ∧ Q σ' H') X.xe s
noncomputable abbrev TSet := V → V → V → Hp → (Hp → Prop) → Prop
noncomputable def PSet (X : Cx) (t : TSet) : Prop :=
  ∀ (pins : List (Addr × Obj)) (s : Shared) (σ : St) (H : Hp) (o i v : V) (ov iv u : Value) (Q : Hp → Prop), Inv X pins σ H s → RelV o ov → RelV i iv → RelV v u → t o i v H Q →
    wpAny (model X.prog X.w) X.A (setItem ov iv u) (fun _ s' => ∃ H', Inv X pins σ H' s' ∧ Q H') X.xe s
section
variable {X : Cx} {pos : Pos}
noncomputable def gName (i : Nat) : TG := fun v σ H Q => Q (σ.set i (some v)) H
theorem zalo {i : Nat} {x : Str} (hN : X.N.Nodup) (hi : X.N[i]? = some x) (hx : Loc X.env.scope x) (hf : X.fn x = true ∨ X.env.scope.names.lookup x = some .local := by assumption) : PG X (.Name x pos) (gName i) := by
  intro pins s σ H v u Q I r h
  exact wpAny_assign_Name (zabd I hN hi hx r (fun s' I' => ⟨_, H, I', h⟩) hf)
noncomputable def gNil : TGs := fun vs σ H Q => vs = [] ∧ Q σ H
noncomputable def gCons (t : TG) (u : TGs) : TGs := fun vs σ H Q => ∃ v r, vs = v :: r ∧ t v σ H fun σ' H' => u r σ' H' Q
theorem zalp : PGs X [] gNil := by
  intro pins s σ H vs us Q I r h
  obtain ⟨e, h⟩ := h
  subst e
  cases r
  exact assignInOrder_nil ⟨σ, H, I, h⟩
theorem zahs {e : Expr} {es : List Expr} {t : TG} {u : TGs} (h1 : PG X e t) (h2 : PGs X es u)
    (hs : (assignEach (e :: es) X.env).map (·.2) = assign e X.env :: (assignEach es X.env).map (·.2) := by rfl) : PGs X (e :: es) (gCons t u) := by
  intro pins s σ H vs us Q I r h
  obtain ⟨v, vr, e1, h⟩ := h
  subst e1
  cases r with
  | cons r rr =>
    rw [hs]
    refine assignInOrder_cons (thn (h1 pins s σ H _ _ _ I r h) fun _ s1 ⟨σ1, H1, I1, q1⟩ => ?_)
    exact h2 pins s1 σ1 H1 _ _ Q I1 rr q1
noncomputable def gTup (K : PySem.W.Frag) (n : Nat) (t : TGs) : TG := fun v σ H Q => ∃ a xs, v = .ref a ∧ SqT K H a xs ∧ xs.length = n ∧ t xs σ H Q
theorem zaoj {es : List Expr} {k : Nat} {t : TGs} {n : Nat} (hc : X.calm = true) (h : PGs X es t)
    (hn : (assignEach es X.env).length = n := by rfl) (hst : (assignEach es X.env).findIdx? (·.1) = none := by rfl) : PG X (.Tuple es k pos) (gTup X.K n t) := by
  intro pins s σ H v u Q I r hw
  obtain ⟨a, xs, e1, hq, hl, hw⟩ := hw
  subst e1
  cases r
  obtain ⟨its, rv, ht, hz⟩ := I.tuple hq
  refine assign_Tuple_tuple (I.ok.hd hc) ht (by simp [hn, ← hl, rv.length]) hst fun h' hx => ?_
  have I1 : Inv X pins σ H { s with heap := h' } := I.kept (t' := s.toks) fun b o e => hx b o (Nat.ne_of_lt (Heap.lt_size e)) e
  exact h pins _ σ H xs _ Q I1 (by simpa using rv) hw
noncomputable def gSub (to ti : TE) (t : TSet) : TG := fun v σ H Q => to σ H fun o H1 => ti σ H1 fun i H2 => t o i v H2 fun H3 => Q σ H3
theorem zaok {o i : Expr} {to ti : TE} {t : TSet} (ho : PE X o to) (hi : PE X i ti) (hs : PSet X t)
    (ha : ∀ v, assign (.Subscript o i pos) X.env v = (do
      let ov ← holding [v] (eval o X.env)
      let iv ← holding [v, ov] (eval i X.env)
      standAt pos
      holding [v, ov, iv] (setItem ov iv v)
      release [v, ov, iv] []) := by intro _; rfl) : PG X (.Subscript o i pos) (gSub to ti t) := by
  intro pins s σ H v u Q I r h
  rw [ha]
  refine wpAny_bind (wpAny_holding (thn (ho pins s σ H _ I h) fun ov s1 ⟨x, H1, I1, r1, q1⟩ => ?_))
  refine wpAny_bind (wpAny_holding (thn (hi pins s1 σ H1 _ I1 q1) fun iv s2 ⟨y, H2, I2, r2, q2⟩ => ?_))
  refine wpAny_bind (wpAny_standAt (wpAny_bind (wpAny_holding (thn (hs pins s2 σ H2 x y v ov iv u _ I2 r1 r2 r q2) fun _ s3 ⟨H3, I3, q3⟩ => ?_))))
  exact wpAny_release ⟨σ, H3, I3, q3⟩
noncomputable def tAsg (te : TE) (g : TG) : TS := fun D σ H => te σ H fun x H1 => g x σ H1 D.nx
theorem zakq {tg e : Expr} {te : TE} {g : TG} (he : PE X e te) (hg : PG X tg g) (hs : swapsWithSole [tg] e pos.line X.env = pure false := by rfl) (hw : swappedStores [tg] e X.env = pure none := by rfl)
    (h1 : (assignEach [tg] X.env).map (·.2) = [assign tg X.env] := by rfl) : PS X (.Assign [tg] e pos) (tAsg te g) := by
  intro pins s σ H D I h
  refine wpAny_Assign_stores (thn (he pins s σ H _ I h) fun v s1 ⟨x, H1, I1, r1, q1⟩ => ?_) hs hw
  rw [h1]
  exact thn (hg pins s1 σ H1 x v _ I1 r1 q1) fun _ s2 q => q
theorem zaol {i : Nat} {x : Str} {e : Expr} {te : TE} {pos' : Pos} (hN : X.N.Nodup) (hi : X.N[i]? = some x) (hx : Loc X.env.scope x) (he : PE X e te) (hs : swapsWith e (some (.Name x pos')) pos.line X.env = pure false := by rfl) (hf : X.fn x = true ∨ X.env.scope.names.lookup x = some .local := by assumption) :
    PS X (.Assign [.Name x pos'] e pos) (tAsg te (gName i)) := by
  intro pins s σ H D I h
  refine wpAny_Assign_Name (thn (he pins s σ H _ I h) fun v s1 ⟨y, H1, I1, r1, q1⟩ => ?_) hs
  exact zabd I1 hN hi hx r1 (fun s2 I2 => ⟨_, H1, I2, q1⟩) hf
end
section
variable {X : Cx} {pos : Pos}
noncomputable def tWhile (c : TT) (tb : TS) : TS := fun D σ H => ∃ W : Nat → St → Hp → Prop, (∃ m, W m σ H) ∧ ∀ m σ H, W m σ H →
  c σ H fun b H1 => if b = true then ∃ N : St → Hp → Prop, (∀ σ' H', N σ' H' → ∃ m', m' < m ∧ W m' σ' H') ∧ tb { D with nx := N, ct := N, bk := D.nx } σ H1 else D.nx σ H1
theorem zaht {c : Expr} {body : List Stmt} {tc : TT} {tb : TS} (hp : PassesOwn (model X.prog X.w) X.A X.env X.xe) (hc : PT X c tc) (hb : PSs X body tb) : PS X (.While c body [] pos) (tWhile tc tb) := by
  intro pins s σ H D I h
  obtain ⟨W, ⟨m0, w0⟩, turn⟩ := h
  refine wpAny_While (codeAny_whileLoop (fun n s' => ∃ σ' H', Inv X pins σ' H' s' ∧ W n σ' H') ?_ m0 ⟨σ, H, I, w0⟩)
  rintro n s1 ⟨σ1, H1, I1, w1⟩
  refine wpAny_passesOwn hp (thn (hc pins s1 σ1 H1 _ I1 (turn n σ1 H1 w1)) fun b s2 ⟨H2, I2, q2⟩ => ?_)
  cases b with
  | true =>
    obtain ⟨N, hN, q2⟩ := q2
    rw [if_pos rfl]
    refine wpAny_passesOwn hp (thn (hb pins s2 σ1 H2 _ I2 q2) fun f s3 q3 => ?_)
    cases f with
    | next =>
      obtain ⟨σ3, H3, I3, n3⟩ := q3
      obtain ⟨m', hm, w3⟩ := hN σ3 H3 n3
      exact ⟨m', hm, σ3, H3, I3, w3⟩
    | cont =>
      obtain ⟨σ3, H3, I3, n3⟩ := q3
      obtain ⟨m', hm, w3⟩ := hN σ3 H3 n3
      exact ⟨m', hm, σ3, H3, I3, w3⟩
    | brk => exact q3
    | ret v => exact q3
  | false =>
    rw [if_neg Bool.false_ne_true]
    exact wpAny_execs_nil ⟨σ1, H2, I2, q2⟩
end
set_option genInjectivity false in
structure It where
  go : Nat → Hp → Prop
  yld : Nat → Hp → V → Hp → Prop
  stop : Nat → Hp → Prop
noncomputable def FpOk (X : Cx) (pins : List (Addr × Obj)) (H : Hp) (b : Addr) : Prop :=
  H b = none ∧ b ≠ X.env.locals ∧ b ∉ X.fs ∧ (b ∈ X.ex ∨ X.s₀.heap.objs.size ≤ b) ∧ (∀ x c, X.env.cells.lookup x = some c → c ≠ b) ∧ ∀ p ∈ X.pn ++ pins, p.1 ≠ b
theorem Inv.fpOk {X : Cx} {pins : List (Addr × Obj)} {σ : St} {H H' : Hp} {s : Shared} {b : Addr} (I : Inv X pins σ H s) (hb : s.heap.objs.size ≤ b) (hn : H' b = none) : FpOk X pins H' b := by
  refine ⟨hn, Nat.ne_of_gt (Nat.lt_of_lt_of_le I.lt hb), I.nofs hb, .inr (Nat.le_trans I.sz hb), fun x c e z => ?_, fun p hp z => ?_⟩
  · obtain ⟨v, q⟩ := I.cell x c e
    exact absurd (Nat.lt_of_lt_of_le q.lt (by rw [z]; exact hb)) (Nat.lt_irrefl _)
  · exact absurd (Nat.lt_of_lt_of_le (Heap.lt_size (I.pin p hp).1) (by rw [z]; exact hb)) (Nat.lt_irrefl _)
set_option genInjectivity false in
structure Turn (P : Program) (w : World) (K : PySem.W.Frag) (tg : Expr) (J : It) (fp : List Addr) (it : Addr) (tn : Nat → Heap → Prop) : Prop where
  mem : it ∈ fp
  obj : ∀ i h, tn i h → ∀ b ∈ fp, ∃ o, h.get? b = some o ∧ ∀ v, o.data ≠ .cell v
  keep : ∀ i h h', tn i h → (∀ b ∈ fp, ∀ o, h.get? b = some o → h'.get? b = some o) → tn i h'
  item : ∀ (X : Cx), X.prog = P → X.w = w → X.K = K → X.calm = true → ∀ (i : Nat) (pins : List (Addr × Obj)) (s : Shared) (σ : St) (H : Hp) (E : Value → Shared → Prop), Inv X pins σ H s → (∀ b ∈ fp, FpOk X pins H b) → tn i s.heap → J.go i H →
    wpAny (model P w) X.A (pyNext (.ref it)) (fun r s1 => ∃ u, r = some u ∧
      wpAny (model P w) X.A (letOwnedTupleGo tg (.ref it) u) (fun _ s2 => ∃ x H', Inv X pins σ H' s2 ∧ RelV x u ∧ J.yld i H x H' ∧ tn (i + 1) s2.heap ∧ ∀ b ∈ fp, H' b = none) E s1) E s
  done : ∀ (X : Cx), X.prog = P → X.w = w → X.K = K → X.calm = true → ∀ (i : Nat) (pins : List (Addr × Obj)) (s : Shared) (σ : St) (H : Hp) (E : Value → Shared → Prop), Inv X pins σ H s → (∀ b ∈ fp, FpOk X pins H b) → tn i s.heap → J.stop i H →
    wpAny (model P w) X.A (pyNext (.ref it)) (fun r s1 => r = none ∧ Inv X pins σ H s1) E s
  self : ∀ (A : Around) (i : Nat) (s : Shared) (Q : Value → Shared → Prop) (E : Value → Shared → Prop), tn i s.heap → Q (.ref it) s → wpAny (model P w) A (pyIter (.ref it)) Q E s
noncomputable abbrev TI := St → Hp → (It → Hp → Prop) → Prop
noncomputable def PIE (X : Cx) (pins : List (Addr × Obj)) (σ : St) (tg : Expr) (R : It → Hp → Prop) (itv : Value) (s2 : Shared) : Prop :=
  ∃ (it : Addr) (fp : List Addr) (tn : Nat → Heap → Prop) (J : It) (H' : Hp), itv = .ref it ∧ Inv X pins σ H' s2 ∧ Turn X.prog X.w X.K tg J fp it tn ∧ tn 0 s2.heap ∧ (∀ b ∈ fp, FpOk X pins H' b) ∧ R J H'
noncomputable def PI (X : Cx) (tg iter : Expr) (wi : TI) : Prop :=
  ∀ (pins : List (Addr × Obj)) (s : Shared) (σ : St) (H : Hp) (R : It → Hp → Prop), Inv X pins σ H s → wi σ H R →
    wpAny (model X.prog X.w) X.A (eval iter X.env) (fun v s1 => wpAny (model X.prog X.w) X.A (pyIter v) (PIE X pins σ tg R) X.xe s1) X.xe s
theorem zahu {M : Model} {A : Around} {E : Value → Shared → Prop} {s : Shared} {tg : Expr} {it : Addr} {u : Value} {o : Obj} {n : String} {vs : Array Value} {Q : Unit → Shared → Prop} (ho : s.heap.get? it = some o) (hc : o.cls = .type n) (hd : o.data = .fields vs)
    (hn : ["enumerate", "zip", "dict_itemiterator", "dict_reverseitemiterator", "odict_iterator", "itertools.zip_longest", "itertools.pairwise"].contains n = false) (hQ : Q () s) : wpAny M A (letOwnedTupleGo tg (.ref it) u) Q E s := by
  unfold letOwnedTupleGo
  cases tg <;> first
    | exact wpAny_pure hQ
    | (cases u <;> first
        | exact wpAny_pure hQ
        | (refine wpAny_bind (wpAny_load ho ?_)
           rw [hc, hd]
           show wpAny M A (if (["enumerate", "zip", "dict_itemiterator", "dict_reverseitemiterator", "odict_iterator", "itertools.zip_longest", "itertools.pairwise"].contains n && vs[0]? == some (rawInt _)) = true then _ else _) Q E s
           rw [if_neg (by intro h; rw [hn, Bool.false_and] at h; cases h)]
           exact wpAny_pure hQ))
noncomputable def Itl (K : PySem.W.Frag) (a : Addr) : It :=
  ⟨fun i H => ∃ xs x, SqL K H a xs ∧ xs[i]? = some x, fun i H x H' => H' = H ∧ ∀ xs, SqL K H a xs → xs[i]? = some x, fun i H => ∃ xs, SqL K H a xs ∧ xs.length ≤ i⟩
noncomputable def Itt (K : PySem.W.Frag) (a : Addr) : It :=
  ⟨fun i H => ∃ xs x, SqT K H a xs ∧ xs[i]? = some x, fun i H x H' => H' = H ∧ ∀ xs, SqT K H a xs → xs[i]? = some x, fun i H => ∃ xs, SqT K H a xs ∧ xs.length ≤ i⟩
noncomputable def Itr (lo : Int) (n : Nat) : It := ⟨fun i _ => i < n, fun i H x H' => H' = H ∧ x = .int (lo + i), fun i _ => n ≤ i⟩
theorem zadz {P : Program} {w : World} {K : PySem.W.Frag} {tg : Expr} (a it : Addr) : Turn P w K tg (Itl K a) [it] it (fun i h => h.IsListIter it a i) where
  mem := by simp
  obj := fun i h st b hb => by
    have e : b = it := by simpa using hb
    subst e
    obtain ⟨o, e, c, d⟩ := st
    exact ⟨o, e, fun v z => by rw [d] at z; cases z⟩
  keep := fun i h h' st k => st.at fun o e => k it (by simp) o e
  item := by
    intro X hP hw hK hc i pins s σ H E I hf st hg
    subst hP hw hK
    obtain ⟨xs, x, hq, hx⟩ := hg
    obtain ⟨its, rv, p, hz⟩ := I.list hq
    obtain ⟨u, hu, ru⟩ := rv.get hx
    obtain ⟨f0, f1, f2, f3, f4, f5⟩ := hf it (by simp)
    refine wpAny_pyNext_list_item st p.isList (x := u) (by simpa using hu) fun h' st' sb => ?_
    have I1 : Inv X pins σ H { s with heap := h' } := I.turned (t' := s.toks) (fun b o hb e => (sb.2 b hb).trans e) f0 f1 f3 f4 f5
    obtain ⟨o, e, c, d⟩ := id st'
    exact ⟨u, rfl, zahu (s := { s with heap := h' }) e c d (by decide) ⟨x, H, I1, ru, ⟨rfl, fun ys hy => by rw [I.list_inj hy hq]; exact hx⟩, st', fun b hb => (hf b hb).1⟩⟩
  done := by
    intro X hP hw hK hc i pins s σ H E I hf st hg
    subst hP hw hK
    obtain ⟨xs, hq, hx⟩ := hg
    obtain ⟨its, rv, p, hz⟩ := I.list hq
    obtain ⟨f0, f1, f2, f3, f4, f5⟩ := hf it (by simp)
    have hl := rv.length
    exact wpAny_pyNext_list_end (I.ok.hd hc) st p.isList (by simp; omega) fun h' eb => ⟨rfl, I.turned (t' := s.toks) (fun b o hb e => eb b o hb e) f0 f1 f3 f4 f5⟩
  self := fun _ _ _ _ _ st h => wpAny_pyIter_listiter st h
theorem zacr {P : Program} {w : World} {K : PySem.W.Frag} {tg : Expr} (a it : Addr) : Turn P w K tg (Itt K a) [it] it (fun i h => h.IsTupleIter it a i) where
  mem := by simp
  obj := fun i h st b hb => by
    have e : b = it := by simpa using hb
    subst e
    obtain ⟨o, e, c, d⟩ := st
    exact ⟨o, e, fun v z => by rw [d] at z; cases z⟩
  keep := fun i h h' st k => st.at fun o e => k it (by simp) o e
  item := by
    intro X hP hw hK hc i pins s σ H E I hf st hg
    subst hP hw hK
    obtain ⟨xs, x, hq, hx⟩ := hg
    obtain ⟨its, rv, p, hz⟩ := I.tuple hq
    obtain ⟨u, hu, ru⟩ := rv.get hx
    obtain ⟨f0, f1, f2, f3, f4, f5⟩ := hf it (by simp)
    refine wpAny_pyNext_tuple_item st (show s.heap.IsTuple a its.toArray from p) (x := u) (by simpa using hu) fun h' st' sb => ?_
    have I1 : Inv X pins σ H { s with heap := h' } := I.turned (t' := s.toks) (fun b o hb e => (sb.2 b hb).trans e) f0 f1 f3 f4 f5
    obtain ⟨o, e, c, d⟩ := id st'
    exact ⟨u, rfl, zahu (s := { s with heap := h' }) e c d (by decide) ⟨x, H, I1, ru, ⟨rfl, fun ys hy => by rw [I.tuple_inj hy hq]; exact hx⟩, st', fun b hb => (hf b hb).1⟩⟩
  done := by
    intro X hP hw hK hc i pins s σ H E I hf st hg
    subst hP hw hK
    obtain ⟨xs, hq, hx⟩ := hg
    obtain ⟨its, rv, p, hz⟩ := I.tuple hq
    obtain ⟨f0, f1, f2, f3, f4, f5⟩ := hf it (by simp)
    have hl := rv.length
    exact wpAny_pyNext_tuple_end (I.ok.hd hc) st (show s.heap.IsTuple a its.toArray from p) (by simp; omega) fun h' eb => ⟨rfl, I.turned (t' := s.toks) (fun b o hb e => eb b o hb e) f0 f1 f3 f4 f5⟩
  self := fun _ _ _ _ _ st h => wpAny_pyIter_tupleiter st h
theorem zacs {P : Program} {w : World} {K : PySem.W.Frag} {tg : Expr} (it : Addr) (lo : Int) (n : Nat) : Turn P w K tg (Itr lo n) [it] it (fun i h => IsRangeIter h it (lo + (i : Nat) * 1) ((n : Int) - (i : Nat)) 1) where
  mem := by simp
  obj := fun i h st b hb => by
    have e : b = it := by simpa using hb
    subst e
    exact ⟨_, st, fun v z => by
      have z' : Data.fields _ = Data.cell v := z
      cases z'⟩
  keep := fun i h h' st k => k it (by simp) _ st
  item := by
    intro X hP hw hK hc i pins s σ H E I hf st hg
    subst hP hw hK
    obtain ⟨f0, f1, f2, f3, f4, f5⟩ := hf it (by simp)
    have W := Walks.range (prog := X.prog) (w := X.w) (I.ok.hd hc) it lo 1 n
    refine W.item i s _ _ hg st fun v h' tk hv st' kk => ?_
    obtain ⟨t, rfl⟩ := hv
    have I1 : Inv X pins σ H { s with heap := h', toks := tk } := I.turned (fun b o hb e => kk b o (by simpa using hb) e) f0 f1 f3 f4 f5
    refine ⟨_, rfl, zahu (s := { s with heap := h', toks := tk }) (n := "range_iterator") st' rfl rfl (by decide) ⟨.int (lo + i), H, I1, ⟨t, ?_⟩, ⟨rfl, rfl⟩, st', fun b hb => (hf b hb).1⟩⟩
    rw [Int.mul_one]
  done := by
    intro X hP hw hK hc i pins s σ H E I hf st hg
    subst hP hw hK
    obtain ⟨f0, f1, f2, f3, f4, f5⟩ := hf it (by simp)
    exact wpAny_pyNext_range_end (I.ok.hd hc) st (by have : n ≤ i := hg; omega) fun h' eb => ⟨rfl, I.turned (t' := s.toks) (fun b o hb e => eb b o hb e) f0 f1 f3 f4 f5⟩
  self := fun _ _ _ _ _ st h => wpAny_pyIter_rangeiter st h
end L2
namespace L2
open PySem PySem.Spec PyProof.Rows
section
variable {X : Cx} {tg : Expr}
theorem zahv {pins : List (Addr × Obj)} {σ : St} {H : Hp} {s : Shared} {R : It → Hp → Prop} {E : Value → Shared → Prop} {lo hi : Int} {t u v : Tok} {tk : Nat} (I : Inv X pins σ H s) (h1 : -(2 ^ 62) ≤ lo) (h2 : lo < 2 ^ 62) (h3 : -(2 ^ 62) ≤ hi) (h4 : hi < 2 ^ 62)
    (q : R (Itr lo (hi - lo).toNat) H) : wpAny (model X.prog X.w) X.A (pyIter (.ref s.heap.objs.size)) (PIE X pins σ tg R) E { s with heap := s.heap.push { cls := .type "range", data := .fields #[.int lo t, .int hi u, .int 1 v] }, toks := tk } := by
  refine wpAny_pyIter_range (IsRange.new ..) (small_one h1 h2 h3 h4) ?_
  have I1 : Inv X pins σ H { s with heap := s.heap.push { cls := .type "range", data := .fields #[.int lo t, .int hi u, .int 1 v] }, toks := tk } := I.kept fun b o e => Heap.get?_push_of_some _ e
  refine ⟨(s.heap.push { cls := .type "range", data := .fields #[.int lo t, .int hi u, .int 1 v] }).objs.size, [(s.heap.push { cls := .type "range", data := .fields #[.int lo t, .int hi u, .int 1 v] }).objs.size], _, _, H, rfl,
    I1.kept (t' := tk) fun b o e => Heap.get?_push_of_some _ e, zacs _ lo (hi - lo).toNat, ?_, fun b hb => ?_, q⟩
  · have e1 : lo + ((0 : Nat) : Int) * 1 = lo := by simp
    have e2 : (((hi - lo).toNat : Nat) : Int) - ((0 : Nat) : Int) = Builtin.Range.rangeSize lo hi 1 := by rw [rangeSize_one]; split <;> omega
    show IsRangeIter _ _ (lo + ((0 : Nat) : Int) * 1) ((((hi - lo).toNat : Nat) : Int) - ((0 : Nat) : Int)) 1
    rw [e1, e2]
    exact Heap.get?_push_size _ rfl
  · have e : b = (s.heap.push { cls := .type "range", data := .fields #[.int lo t, .int hi u, .int 1 v] }).objs.size := by simpa using hb
    subst e
    exact I1.fpOk (Nat.le_refl _) (I1.hok.fresh (Nat.le_refl _))
noncomputable def iRng1 (ta : TA) : TI := fun σ H R => ta σ H fun vs H1 => ∃ j : Int, vs = [.int j] ∧ -(2 ^ 62) ≤ j ∧ j < 2 ^ 62 ∧ R (Itr 0 j.toNat) H1
theorem zaea {a : Expr} {ta : TA} {p pos : Pos} (hg : Gl X "range") (hm : X.mg "range" = none) (ha : PA X [a] ta) (hs : starEach [a] X.env = [(false, eval a X.env)] := by rfl) : PI X tg (.Call (.Name "range" p) [a] [] pos) (iRng1 ta) := by
  intro pins s σ H R I h
  refine Call_ (zsv I hg hm boot_range (PyProof.Rows.callWith_type1 (thn (ha pos pins s σ H _ I h) fun us s1 ⟨vs, H1, I1, r1, q1⟩ => ?_) hs rfl))
  obtain ⟨j, e, q1, q2, q⟩ := q1
  subst e
  cases r1 with
  | cons r rr =>
    cases rr
    obtain ⟨t, rfl⟩ := r
    exact call_range_1 (zahv I1 (by omega) (by omega) q1 q2 (by simpa using q))
noncomputable def tFor (wi : TI) (g : TG) (tb : TS) : TS := fun D σ H => wi σ H fun J H1 => ∃ W : Nat → Nat → St → Hp → Prop, (∃ m, W 0 m σ H1) ∧ ∀ i m σ H, W i m σ H →
  (J.stop i H ∧ D.nx σ H) ∨ (J.go i H ∧ ∃ N : St → Hp → Prop, (∀ σ' H', N σ' H' → ∃ m', m' < m ∧ W (i + 1) m' σ' H') ∧ ∀ x H', J.yld i H x H' → g x σ H' fun σ2 H2 => tb { D with nx := N, ct := N, bk := D.nx } σ2 H2)
noncomputable def zwf (fp : List Addr) (h : Heap) : List (Addr × Obj) := fp.filterMap fun b => (h.get? b).map fun o => (b, o)
theorem zky {fp : List Addr} {h : Heap} {b : Addr} {o : Obj} (hb : b ∈ fp) (e : h.get? b = some o) : (b, o) ∈ zwf fp h := List.mem_filterMap.mpr ⟨b, hb, by rw [e]; rfl⟩
theorem zaeb {fp : List Addr} {h : Heap} {p : Addr × Obj} (hp : p ∈ zwf fp h) : p.1 ∈ fp ∧ h.get? p.1 = some p.2 := by
  obtain ⟨b, hb, e⟩ := List.mem_filterMap.mp hp
  cases q : h.get? b with
  | none => rw [q] at e; cases e
  | some o =>
    rw [q] at e
    have e' : (b, o) = p := Option.some.inj e
    subst e'
    exact ⟨hb, q⟩
theorem Inv.pinned {pins : List (Addr × Obj)} {σ : St} {H : Hp} {s : Shared} {fp : List Addr} (I : Inv X pins σ H s) (hf : ∀ b ∈ fp, FpOk X pins H b) (ho : ∀ b ∈ fp, ∃ o, s.heap.get? b = some o ∧ ∀ v, o.data ≠ .cell v) : Inv X (pins ++ zwf fp s.heap) σ H s :=
  I.pins_of fun p hp => (List.mem_append.mp hp).elim (fun z => I.pin p (List.mem_append_right _ z)) fun z => by
    obtain ⟨hb, e⟩ := zaeb z
    obtain ⟨f0, f1, f2, _⟩ := hf p.1 hb
    obtain ⟨o, e', d⟩ := ho p.1 hb
    rw [e] at e'; cases e'
    exact ⟨e, f0, f1, f2, d⟩
theorem Inv.unpinned {pins pl : List (Addr × Obj)} {σ : St} {H : Hp} {s : Shared} (I : Inv X (pins ++ pl) σ H s) : Inv X pins σ H s := I.pins_of fun p hp => I.pin p (List.mem_append_right _ (List.mem_append_left _ hp))
theorem zaom {iter : Expr} {body : List Stmt} {wi : TI} {g : TG} {tb : TS} {pos : Pos} (hp : PassesOwn (model X.prog X.w) X.A X.env X.xe) (hc : X.calm = true) (hi : PI X tg iter wi) (hg : PG X tg g) (hb : PSs X body tb)
    (hs : ∀ x, foldedSetIterable iter X.env x = pure x := by intro _; rfl) : PS X (.For tg iter body [] pos) (tFor wi g tb) := by
  intro pins s σ H D I h
  refine wpAny_For (thn (hi pins s σ H _ I h) fun v s1 h1 => thn h1 fun itv s2 h2 => ?_) hs
  obtain ⟨it, fp, tn, J, H2, e, I2, T, st2, f2, W, ⟨m0, w0⟩, turn⟩ := h2
  subst e
  have stat : ∀ {H' : Hp}, (∀ b ∈ fp, H' b = none) → ∀ b ∈ fp, FpOk X pins H' b := fun hn b hb => ⟨hn b hb, (f2 b hb).2⟩
  refine codeAny_forLoop_any (fun n s' => ∃ i σ' H', Inv X pins σ' H' s' ∧ tn i s'.heap ∧ (∀ b ∈ fp, H' b = none) ∧ W i n σ' H') ?_ m0 ⟨0, σ, H2, I2, st2, fun b hb => (f2 b hb).1, w0⟩
  rintro n s3 ⟨i, σ3, H3, I3, st3, fr3, w3⟩
  rcases turn i n σ3 H3 w3 with ⟨stop, qn⟩ | ⟨go, N, hN, step⟩
  · refine wpAny_passesOwn hp (thn (T.done X rfl rfl rfl hc i pins s3 σ3 H3 X.xe I3 (stat fr3) st3 stop) fun r s4 ⟨hr, I4⟩ => ?_)
    subst hr
    exact wpAny_execs_nil ⟨σ3, H3, I4, qn⟩
  · refine wpAny_passesOwn hp (thn (T.item X rfl rfl rfl hc i pins s3 σ3 H3 X.xe I3 (stat fr3) st3 go) fun r s4 ⟨u, hr, h4⟩ => ?_)
    subst hr
    refine wpAny_passesOwn hp (thn h4 fun _ s5 ⟨x, H5, I5, r5, y5, st5, fr5⟩ => ?_)
    have I5' := I5.pinned (stat fr5) (T.obj _ _ st5)
    refine wpAny_passesOwn hp (thn (hg _ s5 σ3 H5 x u _ I5' r5 (step x H5 y5)) fun _ s6 ⟨σ6, H6, I6, q6⟩ => ?_)
    refine wpAny_passesOwn hp (thn (hb _ s6 σ6 H6 _ I6 q6) fun f s7 q7 => ?_)
    have again : ∀ {σ7 : St} {H7 : Hp}, Inv X (pins ++ zwf fp s5.heap) σ7 H7 s7 → N σ7 H7 → ∃ m, m < n ∧ ∃ i σ' H', Inv X pins σ' H' s7 ∧ tn i s7.heap ∧ (∀ b ∈ fp, H' b = none) ∧ W i m σ' H' := fun {σ7 H7} I7 n7 => by
      obtain ⟨m', hm, w7⟩ := hN σ7 H7 n7
      refine ⟨m', hm, i + 1, σ7, H7, I7.unpinned, T.keep _ _ _ st5 fun b hb o e => (I7.pin (b, o) (List.mem_append_right _ (List.mem_append_right _ (zky hb e)))).1, fun b hb => ?_, w7⟩
      obtain ⟨o, e, d⟩ := T.obj _ _ st5 b hb
      exact (I7.pin (b, o) (List.mem_append_right _ (List.mem_append_right _ (zky hb e)))).2.1
    cases f with
    | next => obtain ⟨σ7, H7, I7, n7⟩ := q7; exact again I7 n7
    | cont => obtain ⟨σ7, H7, I7, n7⟩ := q7; exact again I7 n7
    | brk => obtain ⟨σ7, H7, I7, q7⟩ := q7; exact ⟨σ7, H7, I7.unpinned, q7⟩
    | ret v => obtain ⟨x7, σ7, H7, I7, r7, q7⟩ := q7; exact ⟨x7, σ7, H7, I7.unpinned, r7, q7⟩
end
end L2
namespace L2
open PySem PySem.Spec PyProof.Rows
noncomputable abbrev R2 := V → V → Hp → VK → Prop
noncomputable def OpR (X : Cx) (f : Value → Value → Sem Value) (r : R2) : Prop :=
  ∀ (pins : List (Addr × Obj)) (s : Shared) (σ : St) (H : Hp) (x y : V) (v u : Value) (Q : VK), Inv X pins σ H s → RelV x v → RelV y u → r x y H Q →
    wpAny (model X.prog X.w) X.A (f v u) (EP X pins σ Q) X.xe s
noncomputable def UnR (X : Cx) (f : Value → Sem Value) (r : V → Hp → VK → Prop) : Prop :=
  ∀ (pins : List (Addr × Obj)) (s : Shared) (σ : St) (H : Hp) (x : V) (v : Value) (Q : VK), Inv X pins σ H s → RelV x v → r x H Q →
    wpAny (model X.prog X.w) X.A (f v) (EP X pins σ Q) X.xe s
noncomputable def CallR (X : Cx) (f : Value) (r : List V → Hp → VK → Prop) : Prop :=
  ∀ (pins : List (Addr × Obj)) (s : Shared) (σ : St) (H : Hp) (xs : List V) (us : List Value) (Q : VK), Inv X pins σ H s → Vals xs us → r xs H Q →
    wpAny (model X.prog X.w) X.A (call f us) (EP X pins σ Q) X.xe s
noncomputable def TruR (X : Cx) (r : V → Hp → (Bool → Hp → Prop) → Prop) : Prop :=
  ∀ (pins : List (Addr × Obj)) (s : Shared) (σ : St) (H : Hp) (x : V) (v : Value) (Q : Bool → Hp → Prop), Inv X pins σ H s → RelV x v → r x H Q →
    wpAny (model X.prog X.w) X.A (truthy v) (TP X pins σ Q) X.xe s
noncomputable def tOp (r : R2) (ta tb : TE) : TE := fun σ H Q => ta σ H fun x H1 => tb σ H1 fun y H2 => r x y H2 Q
noncomputable def tUn (r : V → Hp → VK → Prop) (ta : TE) : TE := fun σ H Q => ta σ H fun x H1 => r x H1 Q
noncomputable def rI (C : Int → Int → Prop) (g : Int → Int → V) : R2 := fun x y H Q => ∃ i j, x = .int i ∧ y = .int j ∧ C i j ∧ Q (g i j) H
noncomputable def rI0 (g : Int → Int → V) : R2 := fun x y H Q => ∃ i j, x = .int i ∧ y = .int j ∧ Q (g i j) H
noncomputable def rU (g : Int → V) : V → Hp → VK → Prop := fun x H Q => ∃ i, x = .int i ∧ Q (g i) H
section
variable {X : Cx} {a b c : Expr} {ta tb tc : TE} {pos : Pos}
theorem binT (ha : PE X a ta) (hb : PE X b tb) {pins : List (Addr × Obj)} {s : Shared} {σ : St} {H : Hp} {R : V → V → Hp → Prop} (I : Inv X pins σ H s)
    (h : ta σ H fun x H1 => tb σ H1 fun y H2 => R x y H2) {Q : Value → Shared → Prop} {f : Value → Value → Sem Value}
    (hf : ∀ v u s2 x y H2, Inv X pins σ H2 s2 → RelV x v → RelV y u → R x y H2 → wpAny (model X.prog X.w) X.A (f v u) Q X.xe s2) :
    wpAny (model X.prog X.w) X.A (eval a X.env) (fun v s₁ => wpAny (model X.prog X.w) X.A (eval b X.env) (fun u s₂ => wpAny (model X.prog X.w) X.A (f v u) Q X.xe s₂) X.xe s₁) X.xe s := by
  refine thn (ha pins s σ H _ I h) fun v s1 ⟨x, H1, I1, r1, q1⟩ => ?_
  refine thn (hb pins s1 σ H1 _ I1 q1) fun u s2 ⟨y, H2, I2, r2, q2⟩ => ?_
  exact hf v u s2 x y H2 I2 r1 r2 q2
theorem zarj {op : Operator} {r : R2} (ho : OpR X (binaryOp op) r) (ha : PE X a ta) (hb : PE X b tb) : PE X (.BinOp a op b pos) (tOp r ta tb) := by
  intro pins s σ H Q I h
  exact wpAny_BinOp (binT ha hb I h fun v u s2 x y H2 I2 rx ry q => ho pins s2 σ H2 x y v u Q I2 rx ry q)
theorem zark {op : UnaryOp} {r : V → Hp → VK → Prop} (ho : UnR X (unaryOp op) r) (ha : PE X a ta) : PE X (.UnaryOp op a pos) (tUn r ta) := by
  intro pins s σ H Q I h
  exact UnaryOp_ (thn (ha pins s σ H _ I h) fun v s1 ⟨x, H1, I1, r1, q1⟩ => ho pins s1 σ H1 x v Q I1 r1 q1)
theorem opI {f : Value → Value → Sem Value} {C : Int → Int → Prop} {g : Int → Int → Int}
    (rule : ∀ (i j : Int) (t u : Tok) (s : Shared) (Q : Value → Shared → Prop) (E : Value → Shared → Prop), C i j → Q (.int (g i j) s.toks) { s with toks := s.toks + 1 } → wpAny (model X.prog X.w) X.A (f (.int i t) (.int j u)) Q E s) :
    OpR X f (rI C fun i j => .int (g i j)) := by
  intro pins s σ H x y v u Q I rx ry h
  obtain ⟨i, j, rfl, rfl, hc, q⟩ := h
  obtain ⟨t, rfl⟩ := rx
  obtain ⟨t', rfl⟩ := ry
  exact rule i j t t' s _ _ hc ⟨.int (g i j), H, I.tok _, ⟨_, rfl⟩, q⟩
theorem opI0 {f : Value → Value → Sem Value} {g : Int → Int → Int}
    (rule : ∀ (i j : Int) (t u : Tok) (s : Shared) (Q : Value → Shared → Prop) (E : Value → Shared → Prop), Q (.int (g i j) s.toks) { s with toks := s.toks + 1 } → wpAny (model X.prog X.w) X.A (f (.int i t) (.int j u)) Q E s) :
    OpR X f (rI0 fun i j => .int (g i j)) := by
  intro pins s σ H x y v u Q I rx ry h
  obtain ⟨i, j, rfl, rfl, q⟩ := h
  obtain ⟨t, rfl⟩ := rx
  obtain ⟨t', rfl⟩ := ry
  exact rule i j t t' s _ _ ⟨.int (g i j), H, I.tok _, ⟨_, rfl⟩, q⟩
theorem opB0 {f : Value → Value → Sem Value} {g : Int → Int → Bool}
    (rule : ∀ (i j : Int) (t u : Tok) (s : Shared) (Q : Value → Shared → Prop) (E : Value → Shared → Prop), Q (.bool (g i j)) s → wpAny (model X.prog X.w) X.A (f (.int i t) (.int j u)) Q E s) :
    OpR X f (rI0 fun i j => .bl (g i j)) := by
  intro pins s σ H x y v u Q I rx ry h
  obtain ⟨i, j, rfl, rfl, q⟩ := h
  obtain ⟨t, rfl⟩ := rx
  obtain ⟨t', rfl⟩ := ry
  exact rule i j t t' s _ _ ⟨.bl (g i j), H, I, rfl, q⟩
noncomputable def CDiv (i j : Int) : Prop := 0 < j ∧ j < 1073741824
noncomputable def CMul (i j : Int) : Prop := (-(2 ^ 64) < i ∧ i < 2 ^ 64) ∨ (-(2 ^ 64) < j ∧ j < 2 ^ 64)
theorem CMul.ok {i j : Int} (h : CMul i j) : IntMulOk i j := by
  rcases h with ⟨h1, h2⟩ | ⟨h1, h2⟩
  · exact .of_left (intBits_le_64 h1 h2)
  · exact .of_right (intBits_le_64 h1 h2)
theorem zaon : OpR X (binaryOp .Add) (rI0 fun i j => .int (i + j)) := opI0 fun _ _ _ _ _ _ _ q => add_int q
theorem zakr : OpR X (binaryOp .Sub) (rI0 fun i j => .int (i - j)) := opI0 fun _ _ _ _ _ _ _ q => sub_int q
theorem zaoo : OpR X (binaryOp .Mult) (rI CMul fun i j => .int (i * j)) := opI fun _ _ _ _ _ _ _ hc q => mul_int q hc.ok
theorem zyz : OpR X (binaryOp .FloorDiv) (rI CDiv fun i j => .int (i / j)) := opI fun i j _ _ _ _ _ hc q => by
  have h1 : (0 : Int) < j := hc.1
  have h2 : j < 1073741824 := hc.2
  exact floordiv_int (by omega) (by rw [Int.fdiv_eq_ediv_of_nonneg i (by omega)]; exact q) (.inl (PyProof.noPylong_small (by omega)))
theorem zpz : OpR X (binaryOp .Mod) (rI (fun _ j => 0 < j) fun i j => .int (i % j)) := opI fun i j _ _ _ _ _ hc q => by
  have h1 : (0 : Int) < j := hc
  exact mod_int' (by omega) (by rw [Int.fmod_eq_emod_of_nonneg i (by omega)]; exact q)
theorem unI {f : Value → Sem Value} {g : Int → Int}
    (rule : ∀ (i : Int) (t : Tok) (s : Shared) (Q : Value → Shared → Prop) (E : Value → Shared → Prop), Q (.int (g i) s.toks) { s with toks := s.toks + 1 } → wpAny (model X.prog X.w) X.A (f (.int i t)) Q E s) :
    UnR X f (rU fun i => .int (g i)) := by
  intro pins s σ H x v Q I rx h
  obtain ⟨i, rfl, q⟩ := h
  obtain ⟨t, rfl⟩ := rx
  exact rule i t s _ _ ⟨.int (g i), H, I.tok _, ⟨_, rfl⟩, q⟩
theorem zaop : UnR X (unaryOp .USub) (rU fun i => .int (-i)) := unI fun _ _ _ _ _ q => neg_int q
end
noncomputable def scal : V → V → Bool
  | .non, .non => true | .non, .int _ => true | .int _, .non => true | .non, .bl _ => true | .bl _, .non => true | .non, .str _ => true | .str _, .non => true
  | .int _, .int _ => true | .bl _, .bl _ => true | .str _, .str _ => true | .byt _, .byt _ => true
  | .int _, .str _ => true | .str _, .int _ => true | .bl _, .str _ => true | .str _, .bl _ => true
  | _, _ => false
noncomputable def rEq : R2 := fun x y H Q => scal x y = true ∧ Q (.bl (decide (x = y))) H
noncomputable def rNe : R2 := fun x y H Q => scal x y = true ∧ Q (.bl (!decide (x = y))) H
theorem zza {i j : Int} : decide (V.int i = V.int j) = (i == j) := by
  rw [Bool.eq_iff_iff]
  simp
theorem zaec {i j : Bool} : decide (V.bl i = V.bl j) = (i == j) := by
  rw [Bool.eq_iff_iff]
  simp
theorem zzb {i j : Str} : decide (V.str i = V.str j) = (i == j) := by
  rw [Bool.eq_iff_iff]
  simp
theorem zaed {i j : Array UInt8} : decide (V.byt i = V.byt j) = (i.toList == j.toList) := by
  rw [Bool.eq_iff_iff]
  cases i
  cases j
  simp
section
variable {X : Cx} {a b c : Expr} {ta tb tc : TE} {pos : Pos}
theorem zct {pins : List (Addr × Obj)} {σ : St} {H : Hp} {s : Shared} {Q : VK} {k k' : Bool} (I : Inv X pins σ H s) (q : Q (.bl k) H) (e : k = k') : EP X pins σ Q (.bool k') s := by
  subst e
  exact ⟨.bl k, H, I, rfl, q⟩
theorem zarl : OpR X (compareOp .Eq) rEq := by
  intro pins s σ H x y v u Q I rx ry h
  obtain ⟨hs, q⟩ := h
  cases x with
  | non =>
    cases rx
    cases y with
    | non => cases ry; exact PySem.EqNone.eq_none_none (zct I q (by simp))
    | bl j => cases ry; exact PySem.EqNone.eq_none_bool (zct I q (by simp))
    | int j => obtain ⟨t', rfl⟩ := ry; exact PySem.EqNone.eq_none_int (zct I q (by simp))
    | str j => obtain ⟨t', rfl⟩ := ry; exact PySem.EqNone.eq_none_str (zct I q (by simp))
    | _ => exact absurd (show false = true from hs) Bool.false_ne_true
  | bl i =>
    cases rx
    cases y with
    | non => cases ry; exact PySem.EqNone.eq_bool_none (zct I q (by simp))
    | bl j => cases ry; exact eq_bool (zct I q zaec)
    | str j => obtain ⟨t', rfl⟩ := ry; exact PySem.EqMixed.eq_bool_str (zct I q (by simp))
    | _ => exact absurd (show false = true from hs) Bool.false_ne_true
  | int i =>
    obtain ⟨t, rfl⟩ := rx
    cases y with
    | non => cases ry; exact PySem.EqNone.eq_int_none (zct I q (by simp))
    | int j => obtain ⟨t', rfl⟩ := ry; exact eq_int (zct I q zza)
    | str j => obtain ⟨t', rfl⟩ := ry; exact PySem.EqMixed.eq_int_str (zct I q (by simp))
    | _ => exact absurd (show false = true from hs) Bool.false_ne_true
  | str i =>
    obtain ⟨t, rfl⟩ := rx
    cases y with
    | non => cases ry; exact PySem.EqNone.eq_str_none (zct I q (by simp))
    | bl j => cases ry; exact PySem.EqMixed.eq_str_bool (zct I q (by simp))
    | int j => obtain ⟨t', rfl⟩ := ry; exact PySem.EqMixed.eq_str_int (zct I q (by simp))
    | str j => obtain ⟨t', rfl⟩ := ry; exact eq_str (zct I q zzb)
    | _ => exact absurd (show false = true from hs) Bool.false_ne_true
  | byt i =>
    obtain ⟨t, rfl⟩ := rx
    cases y with
    | byt j => obtain ⟨t', rfl⟩ := ry; exact PySem.W.eq_bytes (zct I q zaed)
    | _ => exact absurd (show false = true from hs) Bool.false_ne_true
  | _ => cases y <;> exact absurd (show false = true from hs) Bool.false_ne_true
theorem zarm : OpR X (compareOp .NotEq) rNe := by
  intro pins s σ H x y v u Q I rx ry h
  obtain ⟨hs, q⟩ := h
  cases x with
  | non =>
    cases rx
    cases y with
    | non => cases ry; exact PySem.EqNone.ne_none_none (zct I q (by simp))
    | bl j => cases ry; exact PySem.EqNone.ne_none_bool (zct I q (by simp))
    | int j => obtain ⟨t', rfl⟩ := ry; exact PySem.EqNone.ne_none_int (zct I q (by simp))
    | str j => obtain ⟨t', rfl⟩ := ry; exact PySem.EqNone.ne_none_str (zct I q (by simp))
    | _ => exact absurd (show false = true from hs) Bool.false_ne_true
  | bl i =>
    cases rx
    cases y with
    | non => cases ry; exact PySem.EqNone.ne_bool_none (zct I q (by simp))
    | bl j => cases ry; exact ne_bool (zct I q (congrArg not zaec))
    | str j => obtain ⟨t', rfl⟩ := ry; exact PySem.EqMixed.ne_bool_str (zct I q (by simp))
    | _ => exact absurd (show false = true from hs) Bool.false_ne_true
  | int i =>
    obtain ⟨t, rfl⟩ := rx
    cases y with
    | non => cases ry; exact PySem.EqNone.ne_int_none (zct I q (by simp))
    | int j => obtain ⟨t', rfl⟩ := ry; exact ne_int (zct I q (congrArg not zza))
    | str j => obtain ⟨t', rfl⟩ := ry; exact PySem.EqMixed.ne_int_str (zct I q (by simp))
    | _ => exact absurd (show false = true from hs) Bool.false_ne_true
  | str i =>
    obtain ⟨t, rfl⟩ := rx
    cases y with
    | non => cases ry; exact PySem.EqNone.ne_str_none (zct I q (by simp))
    | bl j => cases ry; exact PySem.EqMixed.ne_str_bool (zct I q (by simp))
    | int j => obtain ⟨t', rfl⟩ := ry; exact PySem.EqMixed.ne_str_int (zct I q (by simp))
    | str j => obtain ⟨t', rfl⟩ := ry; exact ne_str (zct I q (congrArg not zzb))
    | _ => exact absurd (show false = true from hs) Bool.false_ne_true
  | byt i =>
    obtain ⟨t, rfl⟩ := rx
    cases y with
    | byt j => obtain ⟨t', rfl⟩ := ry; exact PySem.W.ne_bytes (zct I q (congrArg not zaed))
    | _ => exact absurd (show false = true from hs) Bool.false_ne_true
  | _ => cases y <;> exact absurd (show false = true from hs) Bool.false_ne_true
theorem zaoq : OpR X (compareOp .Lt) (rI0 fun i j => .bl (decide (i < j))) := opB0 fun _ _ _ _ _ _ _ q => lt_int q
theorem zarn : OpR X (compareOp .GtE) (rI0 fun i j => .bl (decide (j ≤ i))) := opB0 fun _ _ _ _ _ _ _ q => ge_int q
theorem OpR.or {f : Value → Value → Sem Value} {r r' : R2} (h : OpR X f r) (h' : OpR X f r') : OpR X f (fun x y H Q => r x y H Q ∨ r' x y H Q) := by
  intro pins s σ H x y v u Q I rx ry q
  rcases q with q | q
  · exact h pins s σ H x y v u Q I rx ry q
  · exact h' pins s σ H x y v u Q I rx ry q
theorem zgx (b : Expr) {op : CmpOp} (h : op ≠ .In := by decide) (h2 : op ≠ .NotIn := by decide) : behindInMarks op b = false := by
  have e1 : (op == CmpOp.In) = false := by cases op <;> first | rfl | exact absurd rfl h
  have e2 : (op == CmpOp.NotIn) = false := by cases op <;> first | rfl | exact absurd rfl h2
  cases b <;> simp [behindInMarks, e1, e2]
theorem zalq {op : CmpOp} {r : R2} (ho : OpR X (compareOp op) r) (ha : PE X a ta) (hb : PE X b tb) (hm : behindInMarks op b = false) : PE X (.Compare a [op] [b] pos) (tOp r ta tb) := by
  intro pins s σ H Q I h
  exact wpAny_Compare1 (binT ha hb I h fun v u s2 x y H2 I2 rx ry q => ho pins s2 σ H2 x y v u Q I2 rx ry q) hm
noncomputable def tTest (t : TE) : TT := fun σ H Q => t σ H fun x H' => ∃ k, x = .bl k ∧ Q k H'
theorem zalr {op : CmpOp} {r : R2} (ho : OpR X (compareOp op) r) (ha : PE X a ta) (hb : PE X b tb) (hm : behindInMarks op b = false) : PT X (.Compare a [op] [b] pos) (tTest (tOp r ta tb)) := by
  intro pins s σ H Q I h
  refine wpAny_isTrue_Compare1 (thn (ha pins s σ H _ I h) fun v s1 ⟨x, H1, I1, r1, q1⟩ => thn (hb pins s1 σ H1 _ I1 q1) fun u s2 ⟨y, H2, I2, r2, q2⟩ =>
    thn (ho pins s2 σ H2 x y v u _ I2 r1 r2 q2) fun c s3 ⟨z, H3, I3, r3, k, e, q3⟩ => ?_) hm
  subst e
  cases r3
  exact wpAny_truthy_bool ⟨H3, I3, q3⟩
noncomputable def TruV (K : PySem.W.Frag) (x : V) (H : Hp) (k : Bool) : Prop :=
  match x with
  | .non => k = false
  | .bl b => k = b
  | .int i => k = (i != 0)
  | .str y => y.length ≤ sizeLine ∧ k = ((y.length : Int) != 0)
  | .byt y => y.size ≤ sizeLine ∧ k = ((y.size : Int) != 0)
  | .ref p => (∃ xs, SqL K H p xs ∧ k = !xs.isEmpty) ∨ (∃ xs, SqT K H p xs ∧ k = !xs.isEmpty) ∨ ∃ kvs, H p = some (.dK kvs) ∧ k = !kvs.isEmpty
  | _ => False
theorem zact {κ : Type} {kvs : List (κ × V)} {vs : List (κ × Value)} (r : KV kvs vs) : (!vs.isEmpty) = !kvs.isEmpty := by
  cases r <;> rfl
theorem zsw {xs : List V} {its : List Value} (r : Vals xs its) : (!its.toArray.isEmpty) = !xs.isEmpty := by
  cases r <;> simp
theorem zsx : (sizeLine : Nat) < 2 ^ 63 := by rw [sizeLine_eq]; decide
theorem zaor : TruR X (fun x H Q => ∃ k, TruV X.K x H k ∧ Q k H) := by
  intro pins s σ H x v Q I rx h
  obtain ⟨k, e, q⟩ := h
  have hl := zsx
  have hs : sizeLine = 16777216 := sizeLine_eq
  cases x with
  | non =>
    cases rx
    have e' : k = false := e
    subst e'
    exact truthy_none ⟨H, I, q⟩
  | bl b =>
    cases rx
    have e' : k = b := e
    subst e'
    exact wpAny_truthy_bool ⟨H, I, q⟩
  | int i =>
    obtain ⟨t, rfl⟩ := rx
    have e' : k = (i != 0) := e
    subst e'
    exact PySem.P.truthy_int ⟨H, I, q⟩
  | str y =>
    obtain ⟨t, rfl⟩ := rx
    obtain ⟨hy, e'⟩ : y.length ≤ sizeLine ∧ k = ((y.length : Int) != 0) := e
    subst e'
    exact PySem.P.truthy_str (by omega) ⟨H, I.tok _, q⟩
  | byt y =>
    obtain ⟨t, rfl⟩ := rx
    obtain ⟨hy, e'⟩ : y.size ≤ sizeLine ∧ k = ((y.size : Int) != 0) := e
    subst e'
    exact PySem.W.truthy_bytes (by omega) ⟨H, I.tok _, q⟩
  | ref p =>
    cases rx
    have e' : (∃ xs, SqL X.K H p xs ∧ k = !xs.isEmpty) ∨ (∃ xs, SqT X.K H p xs ∧ k = !xs.isEmpty) ∨ ∃ kvs, H p = some (.dK kvs) ∧ k = !kvs.isEmpty := e
    rcases e' with ⟨xs, hx, e'⟩ | ⟨xs, hx, e'⟩ | ⟨kvs, hx, e'⟩
    · subst e'
      obtain ⟨its, r, pl, hz⟩ := I.list hx
      have hlen := r.length
      exact wpAny_truthy_list pl.isList (by simp only [List.size_toArray]; omega) ⟨H, I.tok _, by rw [zsw r]; exact q⟩
    · subst e'
      obtain ⟨its, r, pl, hz⟩ := I.tuple hx
      have hlen := r.length
      exact truthy_tuple pl (by simp only [List.size_toArray]; omega) ⟨H, I.tok _, by rw [zsw r]; exact q⟩
    · subst e'
      obtain ⟨hz, hS, vs, r, m⟩ : kvs.length ≤ sizeLine ∧ (p == sysModules) = false ∧ ∃ vs, KV kvs vs ∧ s.heap.DictOf (zef X.prog X.w) p vs := I.hok p _ hx
      have hlen : kvs.length = vs.length := Paired.length r
      exact wpAny_truthy_dict hS m (by omega) ⟨H, I.tok _, by rw [zact r]; exact q⟩
  | _ => exact (show False from e).elim
theorem zahw (ha : PE X a ta) (he : ∀ whole, isTrue a X.env whole = (do let v ← whole; standAt a.pos; holding [v] (truthy v))) :
    PT X a (fun σ H Q => ta σ H fun x H' => ∃ k, TruV X.K x H' k ∧ Q k H') := by
  intro pins s σ H Q I h
  exact isTrue_plain (thn (ha pins s σ H _ I h) fun v s1 ⟨x, H1, I1, r1, q1⟩ => zaor pins s1 σ H1 x v Q I1 r1 q1) (he _)
theorem zacu : OpR X (binaryOp .Add) (fun x y H Q => ∃ i j, x = .str i ∧ y = .str j ∧ i.length + j.length ≤ sizeLine ∧ Q (.str (i ++ j)) H) := by
  intro pins s σ H x y v u Q I rx ry h
  obtain ⟨i, j, rfl, rfl, hz, q⟩ := h
  obtain ⟨t, rfl⟩ := rx
  obtain ⟨t', rfl⟩ := ry
  exact add_str (fun t' tk => ⟨.str (i ++ j), H, I.tok _, ⟨_, rfl⟩, q⟩) hz
theorem zacv {x : V} {us : List Value} (r : Vals [x] us) : ∃ u, us = [u] ∧ RelV x u := by
  cases r with
  | cons r1 r2 => cases r2; exact ⟨_, rfl, r1⟩
theorem zals {x y : V} {us : List Value} (r : Vals [x, y] us) : ∃ u w', us = [u, w'] ∧ RelV x u ∧ RelV y w' := by
  cases r with
  | cons r1 r2 =>
    cases r2 with
    | cons r3 r4 => cases r4; exact ⟨_, _, rfl, r1, r3⟩
theorem zaee (hc : X.calm = true) : CallR X (.builtin "min") (fun xs H Q => ∃ i j, xs = [.int i, .int j] ∧ Q (.int (if j < i then j else i)) H) := by
  intro pins s σ H xs us Q I r h
  obtain ⟨i, j, rfl, q⟩ := h
  obtain ⟨u, w', rfl, ⟨t, rfl⟩, ⟨t', rfl⟩⟩ := zals r
  refine min_two_ints (I.ok.hd hc) fun h' tk k => ⟨_, H, I.kept k, ?_, q⟩
  by_cases hj : j < i
  · rw [if_pos hj, if_pos hj]; exact ⟨_, rfl⟩
  · rw [if_neg hj, if_neg hj]; exact ⟨_, rfl⟩
noncomputable def LenV (K : PySem.W.Frag) (x : V) (H : Hp) (n : Nat) : Prop :=
  match x with
  | .str y => y.length ≤ sizeLine ∧ n = y.length
  | .byt y => y.size ≤ sizeLine ∧ n = y.size
  | .ref p => (∃ xs, SqL K H p xs ∧ n = xs.length) ∨ ∃ xs, SqT K H p xs ∧ n = xs.length
  | _ => False
theorem zahx : CallR X (.builtin "len") (fun xs H Q => ∃ x n, xs = [x] ∧ LenV X.K x H n ∧ Q (.int n) H) := by
  intro pins s σ H xs us Q I r h
  obtain ⟨x, n, rfl, e, q⟩ := h
  obtain ⟨u, rfl, rx⟩ := zacv r
  have hl := zsx
  have hs : sizeLine = 16777216 := sizeLine_eq
  cases x with
  | str y =>
    obtain ⟨t, rfl⟩ := rx
    obtain ⟨hy, e'⟩ : y.length ≤ sizeLine ∧ n = y.length := e
    subst e'
    exact len_str (by omega) ⟨.int _, H, I.tok _, ⟨_, rfl⟩, q⟩
  | byt y =>
    obtain ⟨t, rfl⟩ := rx
    obtain ⟨hy, e'⟩ : y.size ≤ sizeLine ∧ n = y.size := e
    subst e'
    exact PySem.W.len_bytes (by omega) ⟨.int _, H, I.tok _, ⟨_, rfl⟩, q⟩
  | ref p =>
    cases rx
    have e' : (∃ xs, SqL X.K H p xs ∧ n = xs.length) ∨ ∃ xs, SqT X.K H p xs ∧ n = xs.length := e
    rcases e' with ⟨xs, hx, e'⟩ | ⟨xs, hx, e'⟩
    · subst e'
      obtain ⟨its, r', pl, hz⟩ := I.list hx
      have hlen := r'.length
      exact Calls.call_len_list pl.isList (by simp only [List.size_toArray]; omega) ⟨.int xs.length, H, I.tok _, ⟨_, by simp only [List.size_toArray]; rw [hlen]⟩, q⟩
    · subst e'
      obtain ⟨its, r', pl, hz⟩ := I.tuple hx
      have hlen := r'.length
      exact len_tuple pl (by simp only [List.size_toArray]; omega) ⟨.int xs.length, H, I.tok _, ⟨_, by simp only [List.size_toArray]; rw [hlen]⟩, q⟩
  | _ => exact (show False from e).elim
end
end L2
namespace L2
open PySem PySem.Spec PyProof.Rows
set_option genInjectivity false in
structure ObjM (h : Heap) (x dx C : Addr) (mA : Str → Option Value) : Prop where
  obj : h.get? x = some (PySem.W.instObj C dx)
  ns : h.Ns1 dx mA
  ne : dx ≠ x
theorem zaef {h : Heap} {dx : Addr} {mA : Str → Option Value} (n : h.Ns1 dx mA) : ∃ od, h.get? dx = some od ∧ ∀ name, PySem.W.lookIn name od = some (mA name) := by
  obtain ⟨o, es, ep, ho, hd, hk, _, hm⟩ := n
  refine ⟨o, ho, fun name => ?_⟩
  have e := hm name
  unfold nsFind findBy at e
  rw [← Array.find?_toList] at e
  unfold PySem.W.lookIn
  rw [hd]
  dsimp only
  split
  · rename_i y q
    rw [q] at e
    exact congrArg some e
  · rename_i q
    rw [q] at e
    have a : es.toList.any (·.refKey) = false := by
      rw [List.any_eq_false]
      intro y hy
      obtain ⟨z, t, hkey⟩ := hk y (Array.mem_toList_iff.mp hy)
      simp [DictEntry.refKey, hkey]
    have a' : ¬ es.toList.any (·.refKey) = true := by rw [a]; exact Bool.false_ne_true
    rw [if_neg a']
    exact congrArg some e
theorem ObjM.look {h : Heap} {x dx C : Addr} {mA : Str → Option Value} (I : ObjM h x dx C mA) : ∃ od, PySem.W.InstAt h x (PySem.W.instObj C dx) C (some od) ∧ ∀ name, PySem.W.lookIn name od = some (mA name) :=
  let ⟨od, ho, hl⟩ := zaef I.ns
  ⟨od, ⟨I.obj, rfl, rfl, ho⟩, hl⟩
section
variable {prog : Program} {w : World} {A : Around} {E : Value → Shared → Prop} {s : Shared} {K : PySem.W.Frag} {x dx C f : Addr} {mA : Str → Option Value} {name : Str} {v : Value}
end
theorem RelO.some_of {v : V} {o : Option Value} (r : RelO (some v) o) : ∃ u, o = some u ∧ RelV v u := by
  cases o with
  | none => exact (show False from r).elim
  | some u => exact ⟨u, rfl, r⟩
section
variable {P : Program} {w : World} {H H' : Hp} {h h' : Heap} {a C dx : Addr} {fs fs' : List (Str × V)}
theorem zalt (hok : HOk P w H h) (e : H a = some (.ins C dx fs)) : ∃ mA, ObjM h a dx C mA ∧ (∀ f, RelO (fs.lookup f) (mA f)) ∧ PySem.Within mA (fs.map (·.1)) ∧ fs.length ≤ 1000 ∧ H dx = some (.own a) := by
  obtain ⟨d, z, ne, ob, mA, n, r, q⟩ := (show zfy P w H h a (.ins C dx fs) from hok a _ e)
  exact ⟨mA, ⟨ob, n, ne⟩, r, q, z, d⟩
end
set_option genInjectivity false in
structure Cls (K : PySem.W.Frag) (C : Addr) : Prop where
  pg : PySem.W.plainGet K C Str.empty = true
  hd : PySem.W.hasDictIn K C = true
  po : PySem.W.plainOver K C = true
  sa : PySem.W.findIn K (.ref C) "__setattr__" = some (some (.builtin "object.__setattr__"))
theorem Cls.get {K : PySem.W.Frag} {C : Addr} (c : Cls K C) (f : Str) : PySem.W.plainGet K C f = true := c.pg
set_option genInjectivity false in
set_option genInjectivity false in
section
variable {X : Cx} {pins : List (Addr × Obj)} {σ : St} {H : Hp} {s : Shared} {a C dx : Addr} {fs : List (Str × V)} {f : Str} {v : V} {A : Around} {E : Value → Shared → Prop}
end
section
variable {X : Cx} {o e value : Expr} {f : Str} {pos pos' tpos : Pos} {ta tv : TE}
end
section
variable {X : Cx} {pins : List (Addr × Obj)} {σ : St} {H : Hp} {s : Shared} {A : Around} {E : Value → Shared → Prop} {Q : Value → Shared → Prop} {c : Value} {b : Bool}
inductive TyOf (K : PySem.W.Frag) (H : Hp) : V → Value → Prop where
  | non : TyOf K H .non (.type "NoneType")
  | bl (x : Bool) : TyOf K H (.bl x) (.type "bool")
  | int (i : Int) : TyOf K H (.int i) (.type "int")
  | str (x : Str) : TyOf K H (.str x) (.type "str")
  | flt (x : UInt64) : TyOf K H (.flt x) (.type "float")
  | lst {a : Addr} {xs : List V} (e : H a = some (.lst xs)) : TyOf K H (.ref a) (.type "list")
  | frz {a : Addr} {o : Obj} {xs : List V} (e : H a = some (.frz o (.lst xs))) : TyOf K H (.ref a) (.type "list")
  | tup {a : Addr} {xs : List V} (e : H a = some (.tup xs)) : TyOf K H (.ref a) (.type "tuple")
  | dK {a : Addr} {kvs : List (Key × V)} (e : H a = some (.dK kvs)) : TyOf K H (.ref a) (.type "dict")
  | dT {a : Addr} {kvs : List (List Key × V)} (e : H a = some (.dT kvs)) : TyOf K H (.ref a) (.type "dict")
  | ins {a C dx : Addr} {fs : List (Str × V)} (e : H a = some (.ins C dx fs)) (cl : Cls K C) (ha : PySem.W.findIn K (.ref C) "__class__" = some (some (.builtin "object.__class__")))
      (hn : PySem.W.specialIn K (.builtin "object.__class__") "__get__" = some (some (.builtin "getset_descriptor.__get__"))) (htk : PySem.W.takesIn K (.builtin "object.__class__") = some true)
      (hm : PySem.W.mroIn K C (.type "object") = some true) : TyOf K H (.ref a) (.ref C)
theorem zaeg {x : V} {u t : Value} (I : Inv X pins σ H s) (rx : RelV x u) (ty : TyOf X.K H x t) (e : PySem.W.kitOne X.K t c = some b) (h : ∀ tk, Q (.bool b) { s with toks := tk }) :
    wpAny (model X.prog X.w) A (call (.builtin "isinstance") [u, c]) Q E s := by
  cases ty with
  | non => cases (show u = Value.none from rx); exact PySem.W.kia_one PySem.W.kitx_none I.kIn True.intro e (fun z => nomatch z) h
  | bl y => cases (show u = Value.bool y from rx); exact PySem.W.kia_one PySem.W.kitx_bool I.kIn True.intro e (fun z => nomatch z) h
  | int i => obtain ⟨t, q⟩ := (show ∃ t, u = Value.int i t from rx); cases q; exact PySem.W.kia_one PySem.W.kitx_int I.kIn True.intro e (fun z => nomatch z) h
  | str y => obtain ⟨t, q⟩ := (show ∃ t, u = Value.str y t from rx); cases q; exact PySem.W.kia_one PySem.W.kitx_str I.kIn True.intro e (fun z => nomatch z) h
  | flt y => obtain ⟨t, q⟩ := (show ∃ t, u = Value.float y t from rx); cases q; exact PySem.W.kia_one PySem.W.kitx_float I.kIn True.intro e (fun z => nomatch z) h
  | @lst a xs ea =>
    cases (show u = Value.ref a from rx)
    obtain ⟨_, _, n, _, h1⟩ := (show zfy X.prog X.w H s.heap a (.lst xs) from I.hok a _ ea)
    exact PySem.W.kia_one PySem.W.kitx_list I.kIn ⟨_, h1, rfl⟩ e (fun z => nomatch z) h
  | @frz a ob xs ea =>
    cases (show u = Value.ref a from rx)
    obtain ⟨_, _, _, n, _, h1⟩ := (show zfy X.prog X.w H s.heap a (.frz ob (.lst xs)) from I.hok a _ ea)
    exact PySem.W.kia_one PySem.W.kitx_list I.kIn ⟨_, h1, rfl⟩ e (fun z => nomatch z) h
  | @tup a xs ea =>
    cases (show u = Value.ref a from rx)
    obtain ⟨_, _, _, p⟩ := (show zfy X.prog X.w H s.heap a (.tup xs) from I.hok a _ ea)
    obtain ⟨o, h1, h2, _⟩ := p
    exact PySem.W.kia_one PySem.W.kitx_tuple I.kIn ⟨o, h1, h2⟩ e (fun z => nomatch z) h
  | @dK a kvs ea =>
    cases (show u = Value.ref a from rx)
    obtain ⟨_, _, vs, _, p⟩ := (show zfy X.prog X.w H s.heap a (.dK kvs) from I.hok a _ ea)
    obtain ⟨o, es, ep, h1, h2, _⟩ := p
    exact PySem.W.kia_one PySem.W.kitx_dict I.kIn ⟨o, h1, h2.1⟩ e (fun z => nomatch z) h
  | @dT a kvs ea =>
    cases (show u = Value.ref a from rx)
    obtain ⟨_, _, xs, _, o, es, ep, h1, h2, _⟩ := (show zfy X.prog X.w H s.heap a (.dT kvs) from I.hok a _ ea)
    exact PySem.W.kia_one PySem.W.kitx_dict I.kIn ⟨o, h1, h2.1⟩ e (fun z => nomatch z) h
  | @ins a C dx fs ea cl ha hn htk hm =>
    cases (show u = Value.ref a from rx)
    obtain ⟨mA, O, _⟩ := zalt I.hok ea
    obtain ⟨od, J, _⟩ := O.look
    exact PySem.W.kia_one (PySem.W.kitx_own (cl.get _) cl.hd ha hn htk hm) I.kIn J e (fun z => nomatch z) h
end
end L2
namespace L2
open PySem PySem.Spec PyProof.Rows
set_option genInjectivity false in
structure Room (k : Nat) (A : Around) : Prop where
  hd : A.handled = none
  dp : A.depth + 3 * k + 5 < recursionLimit
  un : A.units + 16 * k + 200 < cLine
theorem Room.mono {j k : Nat} {A : Around} (r : Room k A) (h : j ≤ k) : Room j A := ⟨r.hd, by have := r.dp; omega, by have := r.un; omega⟩
theorem Room.deeper {k : Nat} {A : Around} (r : Room (k + 1) A) (env : Env) : Room k (A.deeper env) :=
  ⟨r.hd, by have := r.dp; show A.depth + 1 + 3 * k + 5 < _; omega, by have := r.un; show A.units + 3 + 16 * k + 200 < _; omega⟩
theorem Room.depth {k : Nat} {A : Around} (r : Room k A) : A.depth < recursionLimit := by have := r.dp; omega
theorem Room.units {k : Nat} {A : Around} (r : Room k A) : A.units + 64 < cLine := by have := r.un; omega
noncomputable def tNil : TA := fun _ H Q => Q [] H
noncomputable def tCons (ta : TE) (tr : TA) : TA := fun σ H Q => ta σ H fun x H1 => tr σ H1 fun xs H2 => Q (x :: xs) H2
section
variable {X : Cx} {e : Expr} {es : List Expr} {te : TE} {t : TA} {pos : Pos}
theorem zaos : PA X [] tNil := fun _ _ _ _ H Q I h => Calls.spliced_nil ⟨[], H, I, .nil, h⟩
theorem zalu (ha : PE X e te) (hr : PA X es t) (hs : starEach (e :: es) X.env = (false, eval e X.env) :: starEach es X.env := by rfl) : PA X (e :: es) (tCons te t) := by
  intro pos pins s σ H Q I h
  rw [hs]
  show wpAny _ _ (spliced ((false, eval e X.env) :: backTo pos (starEach es X.env))) _ _ s
  refine Calls.spliced_cons (thn (ha pins s σ H _ I h) fun u s1 ⟨x, H1, I1, r1, q1⟩ => ?_)
  exact thn (hr pos pins s1 σ H1 _ I1 q1) fun us s2 ⟨xs, H2, I2, r2, q2⟩ => ⟨x :: xs, H2, I2, .cons r1 r2, q2⟩
noncomputable def tTup (t : TA) : TE := fun σ H Q => t σ H fun xs H1 => xs.length ≤ sizeLine ∧ ∀ p, H1 p = none → Q (.ref p) (upd H1 p (.tup xs))
noncomputable def tLst (t : TA) : TE := fun σ H Q => t σ H fun xs H1 => xs.length ≤ sizeLine ∧ ∀ p, H1 p = none → Q (.ref p) (upd H1 p (.lst xs))
theorem zaot {x1} (h : PA X es t) : PE X (.Tuple es x1 pos) (tTup t) := by
  intro pins s σ H Q I hq
  refine wpAny_Tuple_spliced (thn (h pos pins s σ H _ I hq) fun us s1 ⟨xs, H1, I1, r, z, q⟩ => ⟨by rw [← r.length]; exact z, ?_⟩)
  have hf : H1 s1.heap.objs.size = none := I1.hok.fresh (Nat.le_refl _)
  refine ⟨.ref s1.heap.objs.size, upd H1 s1.heap.objs.size (.tup xs), I1.laid (t' := s1.toks) (fun b u e => Heap.get?_push_of_some _ e) (Nat.le_refl _) ?_, rfl, q _ hf⟩
  exact ⟨z, us, r, ⟨_, Heap.get?_push_size _ rfl, rfl, _, rfl⟩⟩
theorem zaou (h : PA X es t) : PE X (.List es pos) (tLst t) := by
  intro pins s σ H Q I hq
  refine wpAny_List_spliced (thn (h pos pins s σ H _ I hq) fun us s1 ⟨xs, H1, I1, r, z, q⟩ => ⟨by rw [← r.length]; exact z, ?_⟩)
  have hf : H1 s1.heap.objs.size = none := I1.hok.fresh (Nat.le_refl _)
  refine ⟨.ref s1.heap.objs.size, upd H1 s1.heap.objs.size (.lst xs), I1.laid (t' := s1.toks) (fun b u e => Heap.get?_push_of_some _ e) (Nat.le_refl _) ?_, rfl, q _ hf⟩
  exact ⟨z, us, 0, r, Heap.get?_push_size _ rfl⟩
end
noncomputable abbrev Sp := List V → Hp → VK → XK → Prop
noncomputable abbrev CXT := List Env → Hp → Shared → XK → Value → Shared → Prop
set_option genInjectivity false in
structure Env0 (P : Program) (w : World) (K : PySem.W.Frag) (mg : Str → Option Value) (base : Heap) (A : Around) (outer : List Env) (s : Shared) (H : Hp) : Prop where
  frames : A.frames = some outer
  mod : Mod K mg base
  bs : ∀ b o, base.get? b = some o → s.heap.get? b = some o ∧ H b = none
  bsz : base.objs.size ≤ s.heap.objs.size
  funs : s.heap.FunFrames base outer
  frf : ∀ b ∈ frs outer, H b = none
  hok : HOk P w H s.heap
  bare : AllBare s.gens
noncomputable def CE (outer : List Env) (P : Program) (w : World) (H : Hp) (s : Shared) (Q : VK) (u : Value) (s' : Shared) : Prop :=
  ∃ v H', s'.os = s.os ∧ AllBare s'.gens ∧ Un (frs outer) [] H H' s.heap s'.heap ∧ HOk P w H' s'.heap ∧ RelV v u ∧ Q v H'
noncomputable def CR (CX : CXT) (outer : List Env) (P : Program) (w : World) (H : Hp) (s : Shared) (Q : VK) (E : XK) (r : Result) (s' : Shared) : Prop :=
  match r with
  | .ok (.ret u) => CE outer P w H s Q u s'
  | .ok _ => False
  | .error e => CX outer H s E e s'
set_option genInjectivity false in
structure FnOk (P : Program) (w : World) (K : PySem.W.Frag) (mg : Str → Option Value) (base : Heap) (CX : CXT) (k : Nat) (f : Addr) (fd : FuncData) (ps : List Str) (sp : Sp) : Prop where
  len : ∀ vs H Q E, sp vs H Q E → vs.length = ps.length
  run : ∀ (A : Around) (outer : List Env) (s : Shared) (H : Hp) (args : Args) (us : List Value) (vs : List V) (Q : VK) (E : XK), Room k A → Env0 P w K mg base A outer s H → BindsTo s fd args (ps.zip us) → Vals vs us → sp vs H Q E →
    codeAny (model P w) A (.call (.ref f) args) (CR CX outer P w H s Q E) s
section
variable {X : Cx} {pins : List (Addr × Obj)} {σ : St} {H : Hp} {s s' : Shared}
theorem Inv.env0 (I : Inv X pins σ H s) : Env0 X.prog X.w X.K X.mg X.base X.A X.stack s H :=
  ⟨I.ok.frames, I.ok.mod, I.bs, Nat.le_trans I.ok.bsz I.sz, I.stack, I.stkFree, I.hok, I.bare⟩
theorem Inv.after {Q : VK} {u : Value} (I : Inv X pins σ H s) (h : CE X.stack X.prog X.w H s Q u s') : EP X pins σ Q u s' := by
  obtain ⟨v, H', os, bare, un, hok, r, q⟩ := h
  obtain ⟨hh, g, d, t, os'⟩ := s'
  obtain rfl : os' = s.os := os
  exact ⟨v, H', I.call (h' := hh) (g' := g) (d' := d) (t' := t) (ch := []) un hok bare (fun b z => absurd z (by simp)), r, q⟩
end
noncomputable def tCall (sp : Sp) (dvs : List V) (E : XK) (t : TA) : TE := fun σ H Q => t σ H fun vs H1 => sp (vs ++ dvs) H1 Q E
noncomputable def zzc (K : PySem.W.Frag) (fd : FuncData) (ps : List Str) (ds : List Value) : Prop :=
  ∀ (s : Shared) (us : List Value), K.In s.heap → (us ++ ds).length = ps.length → BindsTo s fd ⟨us, []⟩ (ps.zip (us ++ ds))
theorem zzc.all {K : PySem.W.Frag} {fd : FuncData} {ps : List Str} (h : ∀ us : List Value, us.length = ps.length → bindArgs fd ⟨us, []⟩ = pure (ps.zip us)) : zzc K fd ps [] := fun s us _ hl => by
  rw [List.append_nil] at hl ⊢
  exact .of_eq (h us hl)
noncomputable def zaeh (CX : CXT) (X : Cx) (E : XK) : Prop := ∀ (pins : List (Addr × Obj)) (σ : St) (H : Hp) (s : Shared) (e : Value) (s' : Shared), Inv X pins σ H s → CX X.stack H s E e s' → X.xe e s'
section
variable {X : Cx} {CX : CXT} {k : Nat} {f C : Addr} {fd : FuncData} {ps : List Str} {sp : Sp} {dvs : List V} {ds : List Value} {E : XK} {x m : Str} {p pos apos : Pos} {e o : Expr} {es : List Expr} {ta : TE} {t : TA}
theorem zaov {pins : List (Addr × Obj)} {σ : St} {H : Hp} {s : Shared} {Q : VK} {us : List Value} {vs : List V} (F : FnOk X.prog X.w X.K X.mg X.base CX k f fd ps sp) (hr : Room k X.A) (hb : zzc X.K fd ps ds) (hd : Vals dvs ds) (hx : zaeh CX X E)
    (I : Inv X pins σ H s) (r : Vals vs us) (h : sp (vs ++ dvs) H Q E) : wpAny (model X.prog X.w) X.A (call (.ref f) us) (EP X pins σ Q) X.xe s := by
  have r2 : Vals (vs ++ dvs) (us ++ ds) := r.append hd
  have hl : (us ++ ds).length = ps.length := by rw [← r2.length]; exact F.len _ _ _ _ h
  refine wpAny_call (codeAny_mono (F.run X.A X.stack s H ⟨us, []⟩ (us ++ ds) (vs ++ dvs) Q E hr I.env0 (hb s us I.kIn hl) r2 h) fun r s' hq => ?_)
  cases r with
  | error e => exact hx pins σ H s e s' I hq
  | ok fl =>
    cases fl with
    | ret u => exact I.after hq
    | next => exact False.elim hq
    | brk => exact False.elim hq
    | cont => exact False.elim hq
theorem zalv (F : FnOk X.prog X.w X.K X.mg X.base CX k f fd ps sp) (hr : Room k X.A) (hg : Gl X x) (hm : X.mg x = some (.ref f)) (hk : PySem.W.keepIn X.K (.ref f) = true) (hb : zzc X.K fd ps ds) (hd : Vals dvs ds) (hx : zaeh CX X E)
    (ha : PA X (e :: es) t) (hdb : (x == ("__debug__" : Str)) = false := by decide) (he : starEach (e :: es) X.env = (false, eval e X.env) :: starEach es X.env := by rfl) (hpl : (backTo pos (starEach es X.env)).any (·.1) = false := by rfl) :
    PE X (.Call (.Name x p) (e :: es) [] pos) (tCall sp dvs E t) := by
  intro pins s σ H Q I h
  refine wpAny_Call_Name_kw (zali I hg hm ?_ hdb)
  refine PySem.W.callWith_K (h₀ := X.base) I.ok.mod.kin hk (thn (ha pos pins s σ H _ I h) fun us s1 ⟨vs, H1, I1, r, q⟩ => ⟨I1.kIn, ?_⟩) he hpl
  exact zaov F hr hb hd hx I1 r q
set_option genInjectivity false in
end
section
variable {X : Cx} {CX : CXT} {k : Nat} {f C : Addr} {fd : FuncData} {ps ks : List Str} {sp : Sp} {E : XK} {x m : Str} {p pos apos kpos : Pos} {e o : Expr} {es : List Expr} {kws : List Keyword} {te ta : TE} {t tk : TA} {nm : Option Str}
set_option genInjectivity false in
variable {g : List Value → List Value → List Value} {gV : List V → List V → List V}
end
set_option genInjectivity false in
structure FnScope (N P : List Str) (sc : Scope) : Prop where
  kind : sc.kind = .function
  co : sc.isCoroutine = false
  gen : sc.isGenerator = false
  nd : N.Nodup
  pre : N.take P.length = P
  par : ∀ x ∈ P, sc.names.lookup x = some .local ∨ sc.names.lookup x = some .cell
  nofree : ∀ y ∈ sc.names, y.2 ≠ .free
theorem zwg {kindOf : Str → Option NameKind} {x : Str} : ∀ {binds : List (Str × Value)} {m : Str → Option Value}, (∀ v, (x, v) ∉ binds) → bindL kindOf binds m x = m x
  | [], _, _ => rfl
  | (n, v) :: r, m, h => by
    unfold bindL
    rw [zwg fun w hw => h w (List.mem_cons_of_mem _ hw)]
    split
    · have : x ≠ n := by rintro rfl; exact h v List.mem_cons_self
      simp [this]
    · rfl
theorem zwh {kindOf : Str → Option NameKind} {x : Str} : ∀ {binds : List (Str × Value)} {m : Str → Option Value}, (∀ v, (x, v) ∉ binds) → bindC kindOf binds m x = m x
  | [], _, _ => rfl
  | (n, v) :: r, m, h => by
    unfold bindC
    rw [zwh fun w hw => h w (List.mem_cons_of_mem _ hw)]
    split
    · rfl
    · have : x ≠ n := by rintro rfl; exact h v List.mem_cons_self
      simp [this]
theorem zwi {kindOf : Str → Option NameKind} {x : Str} {v : Value} : ∀ {P : List Str} {vs : List Value} {i : Nat} {m : Str → Option Value}, P.Nodup → P[i]? = some x → vs[i]? = some v → kindOf x = some .local →
    bindL kindOf (P.zip vs) m x = some v
  | [], _, _, _, _, h, _, _ => by simp at h
  | _ :: _, [], _, _, _, _, h, _ => by simp at h
  | p :: P, w :: vs, 0, m, nd, h1, h2, hk => by
    simp at h1 h2; subst h1; subst h2
    show bindL kindOf ((p, w) :: P.zip vs) m p = _
    unfold bindL
    rw [zwg fun v hv => (List.nodup_cons.mp nd).1 (List.of_mem_zip hv).1, if_pos hk]
    simp
  | p :: P, w :: vs, i + 1, m, nd, h1, h2, hk => by
    show bindL kindOf ((p, w) :: P.zip vs) m x = _
    unfold bindL
    exact zwi (i := i) (List.nodup_cons.mp nd).2 (by simpa using h1) (by simpa using h2) hk
theorem zwj {kindOf : Str → Option NameKind} {x : Str} {v : Value} : ∀ {P : List Str} {vs : List Value} {i : Nat} {m : Str → Option Value}, P.Nodup → P[i]? = some x → vs[i]? = some v → kindOf x ≠ some .local →
    bindC kindOf (P.zip vs) m x = some v
  | [], _, _, _, _, h, _, _ => by simp at h
  | _ :: _, [], _, _, _, _, h, _ => by simp at h
  | p :: P, w :: vs, 0, m, nd, h1, h2, hk => by
    simp at h1 h2; subst h1; subst h2
    show bindC kindOf ((p, w) :: P.zip vs) m p = _
    unfold bindC
    rw [zwh fun v hv => (List.nodup_cons.mp nd).1 (List.of_mem_zip hv).1, if_neg hk]
    simp
  | p :: P, w :: vs, i + 1, m, nd, h1, h2, hk => by
    show bindC kindOf ((p, w) :: P.zip vs) m x = _
    unfold bindC
    exact zwj (i := i) (List.nodup_cons.mp nd).2 (by simpa using h1) (by simpa using h2) hk
noncomputable def zhs (N : List Str) (vs : List V) : St := vs.map some ++ List.replicate (N.length - vs.length) none
noncomputable def cxOf (CX : CXT) (P : Program) (w : World) (K : PySem.W.Frag) (mg : Str → Option Value) (base : Heap) (N : List Str) (qual : Str) (scope : Scope) (f : Addr) (cd : Value) (A : Around) (outer : List Env) (s : Shared) (H : Hp) (E : XK) : Cx where
  prog := P
  w := w
  K := K
  mg := mg
  base := base
  A := A.deeper (envOfC qual scope s.heap.objs.size f cd)
  N := N
  s₀ := s
  H₀ := H
  env := envOfC qual scope s.heap.objs.size f cd
  outer := outer
  stack := envOfC qual scope s.heap.objs.size f cd :: outer
  ex := []
  calm := true
  fn := fun _ => true
  pn := []
  xe := fun e s' => wpAny (model P w) (A.deeper (envOfC qual scope s.heap.objs.size f cd)) (leaving (envOfC qual scope s.heap.objs.size f cd) e) (fun _ s'' => CX outer H s E e s'') (fun e' s'' => CX outer H s E e' s'') s'
theorem zum {sc : Scope} {n : Nat} {x : Str} (h : sc.names.lookup x = some .cell) : ∃ c, (cellsFrom n sc.names []).lookup x = some c := by
  have q := PySem.W.cellsFrom_some sc.names n [] (.inl h)
  exact Option.isSome_iff_exists.mp q
theorem zaei {CX : CXT} {P : Program} {w : World} {K : PySem.W.Frag} {mg : Str → Option Value} {base : Heap} {N ps : List Str} {qual : Str} {scope : Scope} {f : Addr} {cd : Value} {A : Around} {outer : List Env} {s s1 : Shared} {H : Hp} {E : XK} {us : List Value} {vs : List V}
    (S : FnScope N ps scope) (hd : A.handled = none) (e0 : Env0 P w K mg base A outer s H) (hl : vs.length = ps.length) (r : Vals vs us)
    (x : InCallC s s.heap.objs.size (bindL (envOfC qual scope s.heap.objs.size f cd).kindOf (ps.zip us) fun _ => none) (cellsFrom (s.heap.objs.size + 1) scope.names []) (bindC (envOfC qual scope s.heap.objs.size f cd).kindOf (ps.zip us) fun _ => none) s1) :
    Inv (cxOf CX P w K mg base N qual scope f cd A outer s H E) [] (zhs N vs) H s1 := by
  have hpl : ps.length ≤ N.length := by have := congrArg List.length S.pre; rw [List.length_take] at this; omega
  obtain ⟨h1, tk, rfl, hk⟩ := x.done
  have noA : ∀ b : Addr, b ∉ (cxOf CX P w K mg base N qual scope f cd A outer s H E).ex := fun b z => absurd (show b ∈ ([] : List Addr) from z) (by simp)
  refine ⟨⟨e0.mod, S.kind, rfl, rfl, Nat.le_refl _, fun y z c h1 h2 => ?_, fun y hy => ?_, fun y c _ h => ?_, fun _ => hd, Around.frames_deeper e0.frames, .inr ⟨rfl, rfl⟩, fun b z => absurd z (noA b), e0.bs, e0.bsz, fun b _ _ => noA b, fun b z => absurd z (noA b), e0.funs, e0.frf⟩,
    rfl, e0.bare, Un.kept hk, ⟨_, x.toInCall.ns, fun i y v h1 h2 h3 => ?_⟩, fun y c h => ⟨_, x.cell y c h⟩, e0.hok.fresh (Nat.le_refl _), fun y c h => ?_, fun p hp => absurd (show p ∈ ([] : List (Addr × Obj)) from hp) (by simp), e0.hok.kept hk, ?_⟩
  · exact name_of_addr x.apart (PySem.mem_of_lookup h1) (PySem.mem_of_lookup h2)
  · have hy : scope.names.lookup y = some .cell ∨ scope.names.lookup y = some .free := hy
    rcases hy with hy | hy
    · exact zum hy
    · exact absurd rfl (S.nofree _ (PySem.mem_of_lookup hy))
  · exact Nat.le_of_lt (x.above y c (PySem.mem_of_lookup h))
  · have hi : i < vs.length := by
      unfold zhs at h2
      by_cases hi : i < vs.length
      · exact hi
      · rw [List.getElem?_append_right (by simpa using hi)] at h2
        rw [List.getElem?_replicate] at h2
        split at h2 <;> cases h2
    have ha : vs[i]? = some v := by
      unfold zhs at h2
      rw [List.getElem?_append_left (by simpa using hi), List.getElem?_map] at h2
      cases e : vs[i]? with
      | none => rw [e] at h2; cases h2
      | some a => rw [e] at h2; cases h2; rfl
    obtain ⟨u, hu, rv⟩ := r.get ha
    have hp : ps[i]? = some y := by
      rw [← S.pre, List.getElem?_take_of_lt (by omega)]; exact h1
    have ndP : ps.Nodup := by rw [← S.pre]; exact S.nd.sublist (List.take_sublist _ _)
    refine ⟨u, rv, ?_⟩
    rcases S.par y (List.mem_of_getElem? hp) with k | k
    · exact .inl ⟨k, zwi ndP hp hu k⟩
    · obtain ⟨c, e⟩ := zum (n := s.heap.objs.size + 1) k
      refine .inr ⟨.inl k, c, e, ?_⟩
      have q := x.cell y c e
      rw [zwj ndP hp hu (by show scope.names.lookup y ≠ _; rw [k]; decide)] at q
      exact q
  · exact e0.hok.fresh (Nat.le_of_lt (x.above y c (PySem.mem_of_lookup h)))
  · unfold zhs
    show _ = N.length
    rw [List.length_append, List.length_map, List.length_replicate]
    omega
theorem zaro {CX : CXT} {P : Program} {w : World} {K : PySem.W.Frag} {mg : Str → Option Value} {base : Heap} {k : Nat} {f : Addr} {name qual : Str} {params : Arguments} {body : List Stmt} {scope : Scope} {dV kV doc pm cdv ct oc : Value} {an od : Option Addr}
    {osl : Array (Option Value)} {N ps : List Str} {sp : Sp} (lk : K.lookup f = some ⟨oc, od, .func (PySem.W.fnOf name qual params body scope dV kV doc pm an cdv ct), osl⟩) (hcd : PySem.W.codeIn K cdv qual = true) (S : FnScope N ps scope)
    (len : ∀ vs H Q E, sp vs H Q E → vs.length = ps.length)
    (hbody : ∀ (A : Around) (outer : List Env) (s : Shared) (H : Hp) (vs : List V) (Q : VK) (E : XK), Room k (A.deeper (envOfC qual scope s.heap.objs.size f cdv)) → sp vs H Q E →
      ∃ t, PSs (cxOf CX P w K mg base N qual scope f cdv A outer s H E) body t ∧ t { nx := fun _ H' => Q .non H', rt := Q } (zhs N vs) H) :
    FnOk P w K mg base CX (k + 1) f (PySem.W.fnOf name qual params body scope dV kV doc pm an cdv ct) ps sp := by
  refine ⟨len, fun A outer s H args us vs Q E hr e0 hb r hsp => ?_⟩
  have hl := len _ _ _ _ hsp
  have KX : K.In s.heap := e0.mod.kin.keeps fun b o e => (e0.bs b o e).1
  have lim : s.heap.NoLimit := e0.mod.nolimit.keeps fun b o e => (e0.bs b o e).1
  have hkind : ∀ y ∈ ps.zip us, scope.names.lookup y.1 = some .local ∨ (scope.names.lookup y.1 = some .cell ∧ ((cellsFrom (s.heap.objs.size + 1) scope.names []).lookup y.1).isSome = true) := fun ⟨n, v⟩ hy => by
    rcases S.par n (List.of_mem_zip hy).1 with q | q
    · exact .inl q
    · exact .inr ⟨q, PySem.W.cellsFrom_some _ _ _ (.inl q)⟩
  refine codeAny_call_function hr.depth (KX _ _ lk) rfl S.co S.gen rfl (PySem.W.codeRec_of KX hcd) (hb _ _ _ _ ?_)
  refine wpAny_newFunctionEnv_cells S.kind hkind fun env he s1 x => ?_
  subst he
  refine ⟨lim.keeps x.toInCall.keep, codeAny_func ?_⟩
  obtain ⟨t, ht, hq⟩ := hbody A outer s H vs Q E (hr.deeper _) hsp
  have I : Inv (cxOf CX P w K mg base N qual scope f cdv A outer s H E) [] (zhs N vs) H s1 := zaei S hr.hd e0 hl r x
  refine wpAny_mono (ht [] s1 (zhs N vs) H _ I hq) (fun fl s' hs => ?_) fun e s' hs => hs
  have fin : ∀ {σ' : St} {H' : Hp} {v : V} {u : Value}, Inv (cxOf CX P w K mg base N qual scope f cdv A outer s H E) [] σ' H' s' → RelV v u → Q v H' → CE outer P w H s Q u s' :=
    fun {σ' H' v u} J rv q => ⟨v, H', J.os, J.bare, J.base, J.hok, rv, q⟩
  cases fl with
  | ret u =>
    obtain ⟨v, σ', H', J, rv, q⟩ := hs
    exact fin J rv q
  | next =>
    obtain ⟨σ', H', J, q⟩ := hs
    exact fin (v := V.non) (u := Value.none) J rfl q
  | brk =>
    obtain ⟨_, _, _, q⟩ := hs
    exact False.elim q
  | cont =>
    obtain ⟨_, _, _, q⟩ := hs
    exact False.elim q
end L2
namespace L2
open PySem PySem.Spec PyProof.Rows
section
variable {X : Cx} {x : Str} {p pos : Pos} {e : Expr} {es : List Expr} {t : TA} {id T : String} {r : List V → Hp → VK → Prop}
noncomputable def tCB (r : List V → Hp → VK → Prop) (t : TA) : TE := fun σ H Q => t σ H fun vs H1 => r vs H1 Q
theorem zahy (hc : CallR X (.builtin id) r) (hg : Gl X x) (hm : X.mg x = none) (hv : bootBuiltins x = some (.builtin id)) (ha : PA X (e :: es) t) (hn : x ≠ "__name__" := by decide) (hdb : (x == ("__debug__" : Str)) = false := by decide)
    (he : starEach (e :: es) X.env = (false, eval e X.env) :: starEach es X.env := by rfl) (hpl : (backTo pos (starEach es X.env)).any (·.1) = false := by rfl) : PE X (.Call (.Name x p) (e :: es) [] pos) (tCB r t) := by
  intro pins s σ H Q I h
  refine wpAny_Call_Name_kw (zsv I hg hm hv ?_ hn hdb)
  exact PyProof.Rows.callWith_builtin1 (thn (ha pos pins s σ H _ I h) fun us s1 ⟨vs, H1, I1, r1, q1⟩ => hc pins s1 σ H1 vs us Q I1 r1 q1) he hpl
theorem zaej (hc : CallR X (.type T) r) (hg : Gl X x) (hm : X.mg x = none) (hv : bootBuiltins x = some (.type T)) (ha : PA X (e :: es) t) (hn : x ≠ "__name__" := by decide) (hdb : (x == ("__debug__" : Str)) = false := by decide)
    (he : starEach (e :: es) X.env = (false, eval e X.env) :: starEach es X.env := by rfl) (hpl : (backTo pos (starEach es X.env)).any (·.1) = false := by rfl) : PE X (.Call (.Name x p) (e :: es) [] pos) (tCB r t) := by
  intro pins s σ H Q I h
  refine wpAny_Call_Name_kw (zsv I hg hm hv ?_ hn hdb)
  exact PyProof.Rows.callWith_type1 (thn (ha pos pins s σ H _ I h) fun us s1 ⟨vs, H1, I1, r1, q1⟩ => hc pins s1 σ H1 vs us Q I1 r1 q1) he hpl
end
end L2
namespace HT
open PySem PyProof.Rows
section
open PySem.SeqAt
open PySem.AutoSeq1 (wpAny_loadPart')
open PySem.MeetsSeq PySem.MeetsSeq2 PySem.MeetsSeq3
end
section
variable {prog : Program} {w : World} {A : Around} {E : Value → Shared → Prop} {s : Shared}
theorem cat_tup {t b : Addr} {vs ws : List Value} {Q : Value → Shared → Prop} (ht : IsTup s.heap t vs.toArray) (hb : IsTup s.heap b ws.toArray) (hv : vs ≠ [])
    (h1 : ws = [] → Q (.ref t) s) (h2 : ws ≠ [] → Q (.ref s.heap.objs.size) { s with heap := s.heap.push { cls := .type "tuple", data := .seq (vs ++ ws).toArray } })
    (hsz : vs.length + ws.length ≤ sizeLine) : wpAny (model prog w) A (binaryOp .Add (.ref t) (.ref b)) Q E s := by
  obtain ⟨⟨cls, dd, data, sl⟩, ho, hc, n, hd⟩ := id ht
  obtain ⟨⟨cls2, dd2, data2, sl2⟩, ho2, hc2, n2, hd2⟩ := id hb
  simp only at hc hd hc2 hd2
  subst hc hd hc2 hd2
  have e : vs.toArray ++ ws.toArray = (vs ++ ws).toArray := by simp
  by_cases hw : ws = []
  · exact concat_meets ⟨_, ho, rfl⟩ ⟨_, ho2, rfl⟩ noFill_tuple_add seq_tuple_add PySem.F.slot_tuple_add PySem.F.entry_tuple_add (PySem.F.args_tuple_add_2 _ _)
      (tuple_addW1 t b vs.toArray ws.toArray n n2 dd dd2 sl sl2 (by simpa using hv) (by simp [hw])) ⟨ho, ho2, h1 hw⟩
  · refine concat_meets ⟨_, ho, rfl⟩ ⟨_, ho2, rfl⟩ noFill_tuple_add seq_tuple_add PySem.F.slot_tuple_add PySem.F.entry_tuple_add (PySem.F.args_tuple_add_2 _ _)
      (tuple_addW2 t b vs.toArray ws.toArray n n2 dd dd2 sl sl2 (by simpa using hv) (by simpa using hw) (by rw [List.size_toArray, List.size_toArray]; exact hsz)) ⟨ho, ho2, ?_⟩
    rw [e]
    exact h2 hw
noncomputable def sIx (n d : Nat) : Option Int → Nat
  | none => d
  | some v => if v < 0 then (v + (n : Int)).toNat else min v.toNat n
theorem sIx_nat (n d k : Nat) : sIx n d (some (k : Int)) = min k n := by
  show (if (k : Int) < 0 then ((k : Int) + (n : Int)).toNat else min (k : Int).toNat n) = min k n
  rw [if_neg (by omega), Int.toNat_natCast]
end
end HT
namespace L2
open PySem PySem.Spec PyProof.Rows
noncomputable abbrev TO := St → Hp → (Option Int → Hp → Prop) → Prop
noncomputable def PO (X : Cx) (e : Option Expr) (t : TO) : Prop :=
  ∀ (pins : List (Addr × Obj)) (s : Shared) (σ : St) (H : Hp) (Q : Option Int → Hp → Prop), Inv X pins σ H s → t σ H Q →
    wpAny (model X.prog X.w) X.A (evalPart e X.env) (fun u s' => ∃ o H', Inv X pins σ H' s' ∧ IsPart u o ∧ Q o H') X.xe s
noncomputable def tNoPart : TO := fun _ H Q => Q none H
noncomputable def tPart (t : TE) : TO := fun σ H Q => t σ H fun x H1 => ∃ i, x = .int i ∧ Q (some i) H1
section
variable {X : Cx} {e : Expr} {te : TE} {lo hi : Option Expr} {tl th : TO} {pos p2 : Pos}
theorem zalw : PO X none tNoPart := by
  intro pins s σ H Q I h
  rw [evalPart_none]
  exact wpAny_pure ⟨none, H, I, .none, h⟩
theorem zalx (h : PE X e te) : PO X (some e) (tPart te) := by
  intro pins s σ H Q I hw
  rw [evalPart_some]
  refine thn (h pins s σ H _ I hw) fun u s1 ⟨x, H1, I1, r1, q1⟩ => ?_
  obtain ⟨i, rfl, q⟩ := q1
  obtain ⟨t, rfl⟩ := r1
  exact ⟨some i, H1, I1, .int i t, q⟩
noncomputable def SlR (X : Cx) (r : V → Option Int → Option Int → Hp → VK → Prop) : Prop :=
  ∀ (pins : List (Addr × Obj)) (s : Shared) (σ : St) (H : Hp) (x : V) (v vl vu : Value) (lo hi : Option Int) (sl : Addr) (Q : VK), Inv X pins σ H s → RelV x v → s.heap.IsSliceOf sl vl vu .none → IsPart vl lo → IsPart vu hi → r x lo hi H Q →
    ∃ T id, typeLookup (.type T) "__getitem__" = pure (some (.builtin id)) ∧ s.TypeIs v T ∧ wpAny (model X.prog X.w) X.A (getItem v (.ref sl)) (EP X pins σ Q) X.xe s
noncomputable def tSl (r : V → Option Int → Option Int → Hp → VK → Prop) (te : TE) (tl th : TO) : TE := fun σ H Q => te σ H fun x H1 => tl σ H1 fun l H2 => th σ H2 fun u H3 => r x l u H3 Q
theorem zahz {r : V → Option Int → Option Int → Hp → VK → Prop} (hr : SlR X r) (he : PE X e te) (hl : PO X lo tl) (hu : PO X hi th) : PE X (.Subscript e (.Slice lo hi none p2) pos) (tSl r te tl th) := by
  intro pins s σ H Q I h
  refine Subscript_ (thn (he pins s σ H _ I h) fun v s1 ⟨x, H1, I1, r1, q1⟩ => ?_)
  refine wpAny_Slice (thn (hl pins s1 σ H1 _ I1 q1) fun vl s2 ⟨l, H2, I2, pl, q2⟩ => thn (hu pins s2 σ H2 _ I2 q2) fun vu s3 ⟨u, H3, I3, pu, q3⟩ => ?_)
  rw [evalPart_none]
  refine wpAny_pure ?_
  have I4 : Inv X pins σ H3 { s3 with heap := s3.heap.push { cls := .type "slice", data := .fields #[vl, vu, .none] } } := I3.kept (t' := s3.toks) fun b ob q => Heap.get?_push_of_some _ q
  obtain ⟨T, id, hT, ht, hg⟩ := hr pins { s3 with heap := s3.heap.push { cls := .type "slice", data := .fields #[vl, vu, .none] } } σ H3 x v vl vu l u s3.heap.objs.size Q I4 r1 (Heap.IsSliceOf.new ..) pl pu q3
  show wpAny (model X.prog X.w) X.A (subscriptTail e (.Slice lo hi none p2) v (.ref s3.heap.objs.size)) (EP X pins σ Q) X.xe { s3 with heap := s3.heap.push { cls := .type "slice", data := .fields #[vl, vu, .none] } }
  exact tail_any (ops := [.ref s3.heap.objs.size, v]) ht hT hg (by with_unfolding_all rfl)
noncomputable def cutV (xs : List V) (lo hi : Option Int) : List V := (xs.drop (HT.sIx xs.length 0 lo)).take (HT.sIx xs.length xs.length hi - HT.sIx xs.length 0 lo)
theorem zzd (xs : List V) (lo hi : Option Int) : (cutV xs lo hi).length ≤ xs.length := by
  unfold cutV
  rw [List.length_take, List.length_drop]
  omega
noncomputable def zaow (K : PySem.W.Frag) : R2 := fun x y H Q => ∃ a b xs ys, x = .ref a ∧ y = .ref b ∧ SqT K H a xs ∧ SqT K H b ys ∧ xs ≠ [] ∧ xs.length + ys.length ≤ sizeLine ∧
  (ys = [] → Q (.ref a) H) ∧ (ys ≠ [] → ∀ p, H p = none → Q (.ref p) (upd H p (.tup (xs ++ ys))))
theorem Vals.nil_iff {xs : List V} {us : List Value} (r : Vals xs us) : us = [] ↔ xs = [] := by
  cases r with
  | nil => simp
  | cons _ _ => simp
theorem zaly : OpR X (binaryOp .Add) (zaow X.K) := by
  intro pins s σ H x y v u Q I rx ry h
  obtain ⟨a, b, xs, ys, rfl, rfl, ha, hb, hx, hz, q1, q2⟩ := h
  cases rx
  cases ry
  obtain ⟨its, r1, p1, _⟩ := I.tuple ha
  obtain ⟨its2, r2, p2, _⟩ := I.tuple hb
  refine HT.cat_tup p1 p2 (fun z => hx (r1.nil_iff.mp z)) (fun z => ⟨.ref a, H, I, rfl, q1 (r2.nil_iff.mp z)⟩) (fun z => ?_) (by rw [← r1.length, ← r2.length]; exact hz)
  refine ⟨.ref s.heap.objs.size, _, I.laid (t' := s.toks) (o := .tup (xs ++ ys)) (fun b ob q => Heap.get?_push_of_some _ q) (Nat.le_refl _) ?_, rfl, q2 (fun w => z (r2.nil_iff.mpr w)) _ (I.hok.fresh (Nat.le_refl _))⟩
  exact ⟨by rw [List.length_append]; exact hz, _, r1.append r2, IsTup.new _ _⟩
end
end L2
namespace L2
open PySem PySem.Spec PyProof.Rows
noncomputable def ixN (n : Nat) (i : Int) : Option Nat := if 0 ≤ i then (if i < n then some i.toNat else none) else if -(n : Int) ≤ i then some (i + n).toNat else none
noncomputable def atI {α : Type} (xs : List α) (i : Int) : Option α := (ixN xs.length i).bind fun j => xs[j]?
theorem zaek {n : Nat} {i : Int} {j : Nat} (h : ixN n i = some j) : seqIndex? i n = some j ∧ j < n ∧ -(n : Int) ≤ i ∧ i < n := by
  unfold ixN at h
  by_cases h0 : 0 ≤ i
  · rw [if_pos h0] at h
    by_cases h1 : i < n
    · rw [if_pos h1] at h
      have e : i.toNat = j := Option.some.inj h
      exact ⟨by rw [seqIndex_of h0 h1, e], by omega, by omega, h1⟩
    · rw [if_neg h1] at h; cases h
  · rw [if_neg h0] at h
    by_cases h1 : -(n : Int) ≤ i
    · rw [if_pos h1] at h
      have e : (i + n).toNat = j := Option.some.inj h
      exact ⟨by rw [seqIndex_neg (by omega) h1, e], by omega, h1, by omega⟩
    · rw [if_neg h1] at h; cases h
theorem zze {α : Type} {xs : List α} {i : Int} {v : α} (h : atI xs i = some v) : ∃ j, seqIndex? i xs.length = some j ∧ xs[j]? = some v ∧ j < xs.length ∧ -(xs.length : Int) ≤ i ∧ i < xs.length := by
  unfold atI at h
  cases e : ixN xs.length i with
  | none => rw [e] at h; cases h
  | some j =>
    rw [e] at h
    obtain ⟨h1, h2, h3, h4⟩ := zaek e
    exact ⟨j, h1, h, h2, h3, h4⟩
theorem zun {α : Type} {xs : List α} {j : Nat} {v : α} (h : xs[j]? = some v) : atI xs (j : Int) = some v := by
  have hj : j < xs.length := (List.getElem?_eq_some_iff.mp h).1
  have e : ixN xs.length (j : Int) = some j := by
    unfold ixN
    rw [if_pos (by omega), if_pos (by omega)]; simp
  unfold atI; rw [e]; exact h
noncomputable def PlainIx (b : Expr) : Prop := ∀ o i, subscripted b false o i = operate [o, i] (getItem o i)
noncomputable def IxR (X : Cx) (r : R2) : Prop :=
  ∀ (value slice : Expr) (pins : List (Addr × Obj)) (s : Shared) (σ : St) (H : Hp) (x y : V) (v u : Value) (Q : VK), Inv X pins σ H s → RelV x v → RelV y u → r x y H Q →
    subscripted slice false v u = operate [v, u] (getItem v u) → wpAny (model X.prog X.w) X.A (subscriptTail value slice v u) (EP X pins σ Q) X.xe s
noncomputable def MtR (X : Cx) (id : String) (r : V → List V → Hp → VK → Prop) : Prop :=
  ∀ (pins : List (Addr × Obj)) (s : Shared) (σ : St) (H : Hp) (x : V) (xs : List V) (v : Value) (us : List Value) (Q : VK), Inv X pins σ H s → RelV x v → Vals xs us → r x xs H Q →
    wpAny (model X.prog X.w) X.A (call (.builtin id) (v :: us)) (EP X pins σ Q) X.xe s
section
variable {X : Cx} {a b : Expr} {ta tb : TE} {pos : Pos}
theorem zarp {r : R2} (hr : IxR X r) (ha : PE X a ta) (hb : PE X b tb) (hs : PlainIx b) : PE X (.Subscript a b pos) (tOp r ta tb) := by
  intro pins s σ H Q I h
  exact Subscript_ (binT ha hb I h fun v u s2 x y H2 I2 rx ry q => hr a b pins s2 σ H2 x y v u Q I2 rx ry q (hs _ _))
noncomputable def rIxL (K : PySem.W.Frag) : R2 := fun x y H Q => ∃ p xs i v, x = .ref p ∧ y = .int i ∧ SqL K H p xs ∧ atI xs i = some v ∧ Q v H
noncomputable def rIxT (K : PySem.W.Frag) : R2 := fun x y H Q => ∃ p xs i v, x = .ref p ∧ y = .int i ∧ SqT K H p xs ∧ atI xs i = some v ∧ Q v H
noncomputable def rIxS : R2 := fun x y H Q => ∃ z i c, x = .str z ∧ y = .int i ∧ z.length ≤ sizeLine ∧ atI z.cps.toList i = some c ∧ Q (.str ⟨#[c]⟩) H
theorem zalz : IxR X (rIxL X.K) := by
  intro value slice pins s σ H x y v u Q I rx ry h hs
  obtain ⟨p, xs, i, z, rfl, rfl, hq, he, q⟩ := h
  cases rx
  obtain ⟨t, rfl⟩ := ry
  obtain ⟨its, r, pl, hz⟩ := I.list hq
  obtain ⟨j, h1, h2, h3, h4, h5⟩ := zze he
  obtain ⟨w, ew, rw'⟩ := r.get h2
  have hl := r.length
  have hn := zsx
  have fin : EP X pins σ Q w s := ⟨z, H, I, rw', q⟩
  by_cases h0 : 0 ≤ i
  · have hj : i.toNat = j := by
      rw [seqIndex_of h0 h5] at h1
      exact Option.some.inj h1
    exact item_listR pl.isList h0 (by omega) (by rw [hj]; simpa using ew) fin hs
  · have hj : (i + (its.toArray.size : Int)).toNat = j := by
      rw [seqIndex_neg (by omega) h4] at h1
      rw [List.size_toArray, ← hl]
      exact Option.some.inj h1
    exact subscriptTail_builtinR (x := w) pl.isList.typeIs slot_list_getitem.lookup
      (wpAny_getItem_list_neg (Q := fun r s' => r = w ∧ EP X pins σ Q r s') pl.isList (by omega) (by rw [List.size_toArray] <;> omega) (by omega) (by rw [hj]; simpa using ew) ⟨rfl, fin⟩) hs
theorem zaox : IxR X (rIxT X.K) := by
  intro value slice pins s σ H x y v u Q I rx ry h hs
  obtain ⟨p, xs, i, z, rfl, rfl, hq, he, q⟩ := h
  cases rx
  obtain ⟨t, rfl⟩ := ry
  obtain ⟨its, r, pl, hz⟩ := I.tuple hq
  obtain ⟨j, h1, h2, h3, h4, h5⟩ := zze he
  obtain ⟨w, ew, rw'⟩ := r.get h2
  have hl := r.length
  have hn := zsx
  have fin : EP X pins σ Q w s := ⟨z, H, I, rw', q⟩
  exact subscriptTail_builtinR (x := w) pl.typeIs slot_tuple_getitem.lookup
    (getItem_tuple (j := j) (Q := fun r s' => r = w ∧ EP X pins σ Q r s') pl (by omega) (by omega) (by rw [List.size_toArray, ← hl]; exact h1) (by simpa using ew) ⟨rfl, fin⟩) hs
theorem zaoy : IxR X rIxS := by
  intro value slice pins s σ H x y v u Q I rx ry h hs
  obtain ⟨z, i, c, rfl, rfl, hz, he, q⟩ := h
  obtain ⟨t, rfl⟩ := rx
  obtain ⟨t', rfl⟩ := ry
  obtain ⟨j, h1, h2, h3, h4, h5⟩ := zze he
  have hl : z.cps.toList.length = z.length := by simp [Str.length]
  rw [hl] at h1 h4 h5
  have hn := zsx
  exact tail_any (typeIs_str s z t) slot_str_getitem.lookup (getItem_str (c := c) (by
    have e1 : decide (i < -(2 ^ 63 : Int)) = false := decide_eq_false (by omega)
    have e2 : decide (i ≥ 2 ^ 63) = false := decide_eq_false (by omega)
    rw [e1, e2, Bool.or_false]) (by rw [h1]; simpa using h2) ⟨.str ⟨#[c]⟩, H, I.tok _, ⟨_, rfl⟩, q⟩) hs
theorem zacw (its : List Value) (n j : Nat) (u : Value) : Obj.mapSeq (·.setIfInBounds j u) { cls := .type "list", data := .seq its.toArray n } = { cls := .type "list", data := .seq (its.set j u).toArray n } := by
  simp [Obj.mapSeq]
theorem Inv.lst {pins : List (Addr × Obj)} {σ : St} {H : Hp} {s : Shared} {p : Addr} {xs : List V} (I : Inv X pins σ H s) (h : H p = some (.lst xs)) :
    ∃ (its : List Value) (n : Nat), Vals xs its ∧ s.heap.get? p = some { cls := .type "list", data := .seq its.toArray n } ∧ xs.length ≤ sizeLine := by
  obtain ⟨z, its, n, r, e⟩ := I.hok p _ h
  exact ⟨its, n, r, e, z⟩
theorem Inv.lstUpd {pins : List (Addr × Obj)} {σ : St} {H : Hp} {s : Shared} {p : Addr} {xs ys : List V} {its its' : List Value} {n n' : Nat} {f : Obj → Obj} (I : Inv X pins σ H s) (h : H p = some (.lst xs))
    (ho : s.heap.get? p = some { cls := .type "list", data := .seq its.toArray n }) (hf : f { cls := .type "list", data := .seq its.toArray n } = { cls := .type "list", data := .seq its'.toArray n' }) (r : Vals ys its') (hz : ys.length ≤ sizeLine) (t : Nat) :
    Inv X pins σ (upd H p (.lst ys)) { s with heap := s.heap.update p f, toks := t } := by
  have e : (s.heap.update p f).get? p = some { cls := .type "list", data := .seq its'.toArray n' } := by
    rw [Heap.get?_update_self f ho (by rw [hf] <;> rfl), hf]
  refine I.write (x := p) (e := p) (by rw [h]; trivial) (.inl rfl) (fun b u hb q => (Heap.get?_update_other _ _ (Ne.symm hb)).trans q) ⟨_, e⟩ ?_
  exact ⟨hz, its', n', r, e⟩
noncomputable def zaia : V → V → V → Hp → (Hp → Prop) → Prop := fun o i v H Q => ∃ p xs k j, o = .ref p ∧ i = .int k ∧ H p = some (.lst xs) ∧ ixN xs.length k = some j ∧ Q (upd H p (.lst (xs.set j v)))
theorem zaib : PSet X zaia := by
  intro pins s σ H o i v ov iv u Q I ro ri rv h
  obtain ⟨p, xs, k, j, rfl, rfl, hp, hj, q⟩ := h
  cases ro
  obtain ⟨t, rfl⟩ := ri
  obtain ⟨its, n, r, ho, hz⟩ := I.lst hp
  obtain ⟨h1, h2, h3, h4⟩ := zaek hj
  have hl := r.length
  have hn := zsx
  have I' : Inv X pins σ (upd H p (.lst (xs.set j v))) { s with heap := s.heap.update p (Obj.mapSeq (·.setIfInBounds j u)) } :=
    I.lstUpd hp ho (zacw its n j u) (r.set rv j) (by rw [List.length_set]; exact hz) s.toks
  by_cases h0 : 0 ≤ k
  · have hk : k.toNat = j := by
      rw [seqIndex_of h0 h4] at h1
      exact Option.some.inj h1
    exact PySem.W.ki_setAt ho h0 (by omega) (by rw [List.size_toArray, ← hl]; exact h4) (by rw [hk]; exact ⟨_, I', q⟩)
  · have hk : (k + (its.toArray.size : Int)).toNat = j := by
      rw [seqIndex_neg (by omega) h3] at h1
      rw [List.size_toArray, ← hl]
      exact Option.some.inj h1
    exact PySem.W.ki_setBack ho (by omega) (by rw [List.size_toArray, ← hl]; exact h3) (by omega) (by rw [hk]; exact ⟨_, I', q⟩)
theorem zwk (lo hi : Option Int) (n : Nat) : (sliceBounds lo hi none n).1 = ((HT.sIx n 0 lo : Nat) : Int) ∧ (sliceBounds lo hi none n).2.1 = ((HT.sIx n n hi : Nat) : Int) ∧ (sliceBounds lo hi none n).2.2 = 1 := by
  refine ⟨?_, ?_, rfl⟩
  · cases lo with
    | none => simp [sliceBounds, HT.sIx]
    | some i =>
      simp only [sliceBounds, HT.sIx, Option.getD_none, show (1 : Int) > 0 by decide, if_true]
      by_cases h : i < 0
      · simp only [h, if_true] <;> omega
      · simp only [h, if_false] <;> omega
  · cases hi with
    | none => simp [sliceBounds, HT.sIx]
    | some i =>
      simp only [sliceBounds, HT.sIx, Option.getD_none, show (1 : Int) > 0 by decide, if_true]
      by_cases h : i < 0
      · simp only [h, if_true] <;> omega
      · simp only [h, if_false] <;> omega
theorem zuo (its : List Value) (lo hi : Option Int) : slicePick its.toArray lo hi none = ((its.drop (HT.sIx its.length 0 lo)).take (HT.sIx its.length its.length hi - HT.sIx its.length 0 lo)).toArray := by
  obtain ⟨h1, h2, h3⟩ := zwk lo hi its.toArray.size
  unfold slicePick
  rw [h1, h2, h3]
  simp only [sliceRange_one, pick_run, List.size_toArray] <;> rfl
noncomputable def rSlL (K : PySem.W.Frag) : V → Option Int → Option Int → Hp → VK → Prop := fun x lo hi H Q => ∃ a xs, x = .ref a ∧ SqL K H a xs ∧ ∀ p, H p = none → Q (.ref p) (upd H p (.lst (cutV xs lo hi)))
theorem zama : SlR X (rSlL X.K) := by
  intro pins s σ H x v vl vu lo hi sl Q I rx hs pl pu h
  obtain ⟨a, xs, rfl, hx, q⟩ := h
  cases rx
  obtain ⟨its, r, ht, hz⟩ := I.list hx
  have hlen := r.length
  refine ⟨"list", _, slot_list_getitem.lookup, ht.isList.typeIs, ?_⟩
  refine wpAny_getItem_list_slice ht.isList hs pl pu .none (by simp) ?_ (by rw [List.size_toArray] <;> omega)
  rw [zuo, ← hlen]
  refine ⟨.ref s.heap.objs.size, _, I.laid (t' := s.toks) (o := .lst (cutV xs lo hi)) (fun b ob q => Heap.get?_push_of_some _ q) (Nat.le_refl _) ?_, rfl, q _ (I.hok.fresh (Nat.le_refl _))⟩
  exact ⟨Nat.le_trans (zzd xs lo hi) hz, _, 0, (r.drop (HT.sIx xs.length 0 lo)).take (HT.sIx xs.length xs.length hi - HT.sIx xs.length 0 lo), Heap.get?_push_size _ rfl⟩
noncomputable def zsi : V → Bool
  | .non => true
  | .bl _ => true
  | .int _ => true
  | .str _ => true
  | _ => false
noncomputable def eqV : V → V → Bool
  | .non, .non => true
  | .bl a, .bl b => a == b
  | .bl a, .int b => (if a then 1 else 0) == b
  | .int a, .bl b => a == (if b then 1 else 0)
  | .int a, .int b => a == b
  | .str a, .str b => a == b
  | _, _ => false
theorem zaoz {A : Around} {s : Shared} {y x : V} {u v : Value} (ry : RelV y u) (rx : RelV x v) (fy : zsi y = true) (fx : zsi x = true) : SeqAt.EqAt A s u v (eqV y x) := by
  cases y with
  | non =>
    cases ry
    cases x with
    | non => cases rx; exact SeqAt.EqAt.same _
    | bl b => cases rx; exact SeqAt.EqAt.none_bool b
    | int b => obtain ⟨t, rfl⟩ := rx; exact SeqAt.EqAt.none_int b t
    | str b => obtain ⟨t, rfl⟩ := rx; exact SeqAt.EqAt.none_str b t
    | _ => exact absurd (show false = true from fx) Bool.false_ne_true
  | bl a =>
    cases ry
    cases x with
    | non => cases rx; exact SeqAt.EqAt.bool_none a
    | bl b => cases rx; exact SeqAt.EqAt.bool_bool a b
    | int b => obtain ⟨t, rfl⟩ := rx; exact SeqAt.EqAt.bool_int a b t
    | str b => obtain ⟨t, rfl⟩ := rx; exact SeqAt.EqAt.bool_str a b t
    | _ => exact absurd (show false = true from fx) Bool.false_ne_true
  | int a =>
    obtain ⟨t', rfl⟩ := ry
    cases x with
    | non => cases rx; exact SeqAt.EqAt.int_none a t'
    | bl b => cases rx; exact SeqAt.EqAt.int_bool a t' b
    | int b => obtain ⟨t, rfl⟩ := rx; exact SeqAt.EqAt.int_int a t' b t
    | str b => obtain ⟨t, rfl⟩ := rx; exact SeqAt.EqAt.int_str a t' b t
    | _ => exact absurd (show false = true from fx) Bool.false_ne_true
  | str a =>
    obtain ⟨t', rfl⟩ := ry
    cases x with
    | non => cases rx; exact SeqAt.EqAt.str_none a t'
    | bl b => cases rx; exact SeqAt.EqAt.str_bool a t' b
    | int b => obtain ⟨t, rfl⟩ := rx; exact SeqAt.EqAt.str_int a t' b t
    | str b => obtain ⟨t, rfl⟩ := rx; exact SeqAt.EqAt.str_str a t' b t
    | _ => exact absurd (show false = true from fx) Bool.false_ne_true
  | _ => exact absurd (show false = true from fy) Bool.false_ne_true
noncomputable def eqU (x : V) (u : Value) : Bool := match u with
  | .none => eqV .non x
  | .bool b => eqV (.bl b) x
  | .int i _ => eqV (.int i) x
  | .str z _ => eqV (.str z) x
  | _ => false
theorem zaks {x y : V} {u : Value} (r : RelV y u) (f : zsi y = true) : eqU x u = eqV y x := by
  cases y with
  | non => cases r; rfl
  | bl b => cases r; rfl
  | int i => obtain ⟨t, rfl⟩ := r; rfl
  | str z => obtain ⟨t, rfl⟩ := r; rfl
  | _ => exact absurd (show false = true from f) Bool.false_ne_true
theorem zqa {x : V} : ∀ {xs : List V} {us : List Value}, Vals xs us → xs.all zsi = true → us.any (eqU x) = xs.any fun y => eqV y x
  | _, _, .nil, _ => rfl
  | y :: xs, u :: us, .cons r t, f => by
    rw [List.all_cons, Bool.and_eq_true] at f
    rw [List.any_cons, List.any_cons, zaks r f.1, zqa t f.2]
theorem zmd {A : Around} {s : Shared} {x : V} {v : Value} (rx : RelV x v) (fx : zsi x = true) : ∀ {xs : List V} {us : List Value}, Vals xs us → xs.all zsi = true → ∀ u ∈ us, SeqAt.EqAt A s u v (eqU x u)
  | _, _, .nil, _ => fun u hu => by cases hu
  | y :: xs, u :: us, .cons r t, f => fun u' hu => by
    rw [List.all_cons, Bool.and_eq_true] at f
    rcases List.mem_cons.mp hu with rfl | hu
    · rw [zaks r f.1]; exact zaoz r rx f.1 fx
    · exact zmd rx fx t f.2 u' hu
noncomputable def inV (x : V) (xs : List V) : Bool := xs.any fun y => eqV y x
noncomputable def rIn (K : PySem.W.Frag) (neg : Bool) : R2 := fun x y H Q => ∃ p xs, y = .ref p ∧ (SqL K H p xs ∨ SqT K H p xs) ∧ zsi x = true ∧ xs.all zsi = true ∧ Q (.bl (if neg then !inV x xs else inV x xs)) H
theorem zael : OpR X (compareOp .In) (rIn X.K false) := by
  intro pins s σ H x y v u Q I rx ry h
  obtain ⟨p, xs, rfl, hq, fx, fs, q⟩ := h
  cases ry
  rcases hq with hq | hq
  · obtain ⟨its, r, pl, hz⟩ := I.list hq
    refine SeqAt.in_listAt (eqU x) pl.isList (fun w hw => zmd rx fx r fs w (by simpa using hw)) ⟨.bl _, H, I, rfl, ?_⟩
    rw [show its.toArray.any (eqU x) = its.any (eqU x) by simp, zqa r fs]
    exact q
  · obtain ⟨its, r, pl, hz⟩ := I.tuple hq
    refine SeqAt.in_tupleAt (eqU x) pl (fun w hw => zmd rx fx r fs w (by simpa using hw)) ⟨.bl _, H, I, rfl, ?_⟩
    rw [show its.toArray.any (eqU x) = its.any (eqU x) by simp, zqa r fs]
    exact q
theorem zwl : OpR X (compareOp .NotIn) (rIn X.K true) := by
  intro pins s σ H x y v u Q I rx ry h
  obtain ⟨p, xs, rfl, hq, fx, fs, q⟩ := h
  cases ry
  rcases hq with hq | hq
  · obtain ⟨its, r, pl, hz⟩ := I.list hq
    refine SeqAt.notIn_listAt (eqU x) pl.isList (fun w hw => zmd rx fx r fs w (by simpa using hw)) ⟨.bl _, H, I, rfl, ?_⟩
    rw [show its.toArray.any (eqU x) = its.any (eqU x) by simp, zqa r fs]
    exact q
  · obtain ⟨its, r, pl, hz⟩ := I.tuple hq
    refine SeqAt.notIn_tupleAt (eqU x) pl (fun w hw => zmd rx fx r fs w (by simpa using hw)) ⟨.bl _, H, I, rfl, ?_⟩
    rw [show its.toArray.any (eqU x) = its.any (eqU x) by simp, zqa r fs]
    exact q
theorem zwm : CallR X (.type "list") (fun xs H Q => ∃ p ys, xs = [.ref p] ∧ (SqL X.K H p ys ∨ SqT X.K H p ys) ∧ ∀ l, H l = none → Q (.ref l) (upd H l (.lst ys))) := by
  intro pins s σ H xs us Q I r h
  obtain ⟨p, ys, rfl, hq, q⟩ := h
  obtain ⟨u, rfl, rx⟩ := zacv r
  cases rx
  have fin : ∀ (its : List Value), Vals ys its → ys.length ≤ sizeLine → ∀ (h' : Heap) (c' : Nat), (∀ b o', s.heap.get? b = some o' → h'.get? b = some o') →
      h'.get? s.heap.objs.size = some { cls := .type "list", dict := none, data := .seq its.toArray c', slots := #[] } → EP X pins σ Q (.ref s.heap.objs.size) { s with heap := h' } := fun its r' hz h' c' kp e =>
    ⟨.ref s.heap.objs.size, _, I.laid (t' := s.toks) kp (Nat.le_refl _) (show zfy X.prog X.w _ h' _ (.lst ys) from ⟨hz, its, c', r', e⟩), rfl, q _ (I.hok.fresh (Nat.le_refl _))⟩
  rcases hq with hq | hq
  · obtain ⟨its, r', pl, hz⟩ := I.list hq
    have hlen := r'.length
    obtain ⟨o, ho, hc, n, hd⟩ := pl.isList
    exact call_list_seq p (.inl rfl) ho hc hd (fun h' c' kp e => fin its r' hz h' c' kp e) (by simp only [List.size_toArray] <;> omega)
  · obtain ⟨its, r', pl, hz⟩ := I.tuple hq
    have hlen := r'.length
    obtain ⟨o, ho, hc, n, hd⟩ := pl
    exact call_list_seq p (.inr rfl) ho hc hd (fun h' c' kp e => fin its r' hz h' c' kp e) (by simp only [List.size_toArray] <;> omega)
theorem zup : CallR X (.type "tuple") (fun xs H Q => ∃ p ys, xs = [.ref p] ∧ ((SqL X.K H p ys ∧ ∀ l, H l = none → Q (.ref l) (upd H l (.tup ys))) ∨ (SqT X.K H p ys ∧ Q (.ref p) H))) := by
  intro pins s σ H xs us Q I r h
  obtain ⟨p, ys, rfl, h⟩ := h
  obtain ⟨u, rfl, rx⟩ := zacv r
  cases rx
  rcases h with ⟨hq, q⟩ | ⟨hq, q⟩
  · obtain ⟨its, r', pl, hz⟩ := I.list hq
    have hlen := r'.length
    refine call_tuple_list pl.isList (fun h' kp => ?_) (by simp only [List.size_toArray] <;> omega)
    have I1 : Inv X pins σ H { s with heap := h' } := I.kept (t' := s.toks) kp
    have I2 : Inv X pins σ (upd H h'.objs.size (.tup ys)) { s with heap := h'.push { cls := .type "tuple", data := .seq its.toArray } } :=
      I1.laid (t' := s.toks) (fun b o e => Heap.get?_push_of_some _ e) (Nat.le_refl _) (show zfy X.prog X.w _ _ _ (.tup ys) from ⟨hz, its, r', IsTup.new _ _⟩)
    exact ⟨.ref h'.objs.size, _, I2, rfl, q _ (I1.hok.fresh (Nat.le_refl _))⟩
  · obtain ⟨its, r', pl, hz⟩ := I.tuple hq
    exact call_tuple_same pl ⟨.ref p, H, I, rfl, q⟩
noncomputable def tyV (K : PySem.W.Frag) (T : String) (x : V) (H : Hp) : Prop := match x with
  | .str _ => T = "str"
  | .int _ => T = "int"
  | .ref p => (T = "list" ∧ ∃ xs, SqL K H p xs) ∨ (T = "tuple" ∧ ∃ o, K.lookup p = some o ∧ o.cls = .type "tuple" ∧ o.dict = none) ∨
      (T = "dict" ∧ ((∃ kvs, H p = some (.dK kvs)) ∨ ∃ kvs, H p = some (.dT kvs))) ∨ (T = "set" ∧ ∃ S n, H p = some (.set S n))
  | _ => False
theorem zapa {pins : List (Addr × Obj)} {σ : St} {H : Hp} {s : Shared} {T : String} {x : V} {v : Value} (I : Inv X pins σ H s) (r : RelV x v) (ty : tyV X.K T x H) :
    s.TypeIs v T ∧ ∀ a, v = .ref a → ∃ ob, s.heap.get? a = some ob ∧ ob.dict = none := by
  cases x with
  | str z =>
    obtain ⟨t, rfl⟩ := r
    cases (show T = "str" from ty)
    exact ⟨typeIs_str s z t, fun _ e => nomatch e⟩
  | int i =>
    obtain ⟨t, rfl⟩ := r
    cases (show T = "int" from ty)
    exact ⟨typeIs_int s i t, fun _ e => nomatch e⟩
  | ref p =>
    cases r
    rcases ty with ⟨rfl, xs, hq⟩ | ⟨rfl, o, hk, hc, hd⟩ | ⟨rfl, hk⟩ | ⟨rfl, S, n, hk⟩
    · obtain ⟨its, _, pl, _⟩ := I.list hq
      refine ⟨pl.isList.typeIs, fun a e => ?_⟩
      cases e
      obtain ⟨o, n, e, c, hd, _⟩ := pl
      exact ⟨o, e, hd⟩
    · refine ⟨⟨o, I.kIn p o hk, hc⟩, fun a e => ?_⟩
      cases e
      exact ⟨o, I.kIn _ o hk, hd⟩
    · have z : ∃ o, s.heap.get? p = some o ∧ o.ExactDict := by
        rcases hk with ⟨kvs, hk⟩ | ⟨kvs, hk⟩
        · obtain ⟨_, _, _, _, o, _, _, e, ex, _⟩ := I.hok p _ hk
          exact ⟨o, e, ex⟩
        · obtain ⟨_, _, _, _, o, _, _, e, ex, _⟩ := I.hok p _ hk
          exact ⟨o, e, ex⟩
      obtain ⟨o, e, ex⟩ := z
      refine ⟨⟨o, e, ex.1⟩, fun a e2 => ?_⟩
      cases e2
      exact ⟨o, e, ex.2.1⟩
    · obtain ⟨o, _, _, _, e, ex, _⟩ := I.hok p _ hk
      refine ⟨⟨o, e, ex.1⟩, fun a e2 => ?_⟩
      cases e2
      exact ⟨o, e, ex.2.1⟩
  | _ => exact False.elim ty
noncomputable def tBM (K : PySem.W.Frag) (T : String) (r : V → List V → Hp → VK → Prop) (to : TE) (t : TA) : TE := fun σ H Q => to σ H fun x H1 => tyV K T x H1 ∧ t σ H1 fun xs H2 => r x xs H2 Q
variable {o e : Expr} {es : List Expr} {to : TE} {t : TA} {name : Str} {apos cpos : Pos} {T id : String} {r : V → List V → Hp → VK → Prop}
theorem zarq (pa : PlainAttrs T) (slot : Slot T name id) (hty : typeOf (.builtin id) = pure (.type "method_descriptor")) (hm : MtR X id r) (ho : PE X o to) (ha : PA X (e :: es) t)
    (hbase : attributeBase o name X.env (eval o X.env) = eval o X.env := by rfl)
    (hfew : ((backTo cpos (starEach (e :: es) X.env)).all (fun x => !x.1) && (backToKw cpos (keywordEach [] X.env)).all (fun x => x.1.isSome)
      && decide ((e :: es).length + ([] : List Keyword).length + (if ([] : List Keyword).isEmpty then 0 else 1) < 30)) = true := by rfl)
    (hline : (apos.endLine == cpos.line) = true := by rfl) (hs : starEach (e :: es) X.env = (false, eval e X.env) :: starEach es X.env := by rfl) (hplain : (backTo cpos (starEach es X.env)).any (·.1) = false := by rfl) :
    PE X (.Call (.Attribute o name apos) (e :: es) [] cpos) (tBM X.K T r to t) := by
  intro pins s σ H Q I h
  refine wpAny_Call_method_late hbase hfew hline rfl (thn (ho pins s σ H _ I h) fun v s1 ⟨x, H1, I1, r1, ty, q1⟩ => ?_)
  obtain ⟨h1, h2⟩ := zapa I1 r1 ty
  refine ⟨T, id, pa, slot, hty, h1, h2, ?_⟩
  have hA := ha cpos pins s1 σ H1 _ I1 q1
  rw [hs] at hA ⊢
  refine Calls.callWith_builtin (by show (false || (backTo cpos (starEach es X.env)).any (·.1)) = false; rw [hplain] <;> rfl) (Calls.evalArgs_plain ?_)
  exact thn hA fun us s2 ⟨vs, H2, I2, r2, q2⟩ => hm pins s2 σ H2 x vs v us Q I2 r1 r2 q2
/- xs.append(e), list.index on a module's tuple .. are MtR facts of 06m -/
end
end L2
namespace L2
open PySem PySem.Spec PyProof.Rows
noncomputable def MtM (X : Cx) (id : String) (r : V → List V → Hp → VK → Prop) : Prop :=
  ∀ (pins : List (Addr × Obj)) (s : Shared) (σ : St) (H : Hp) (x : V) (xs : List V) (v : Value) (us : List Value) (Q : VK), Inv X pins σ H s → RelV x v → Vals xs us → r x xs H Q →
    wpAny (model X.prog X.w) X.A (call (.builtin id) (v :: us)) (EP X pins σ Q) X.xe s
theorem Vals.one : ∀ {x : V} {us : List Value}, Vals [x] us → ∃ u, us = [u] ∧ RelV x u
  | _, _, .cons r .nil => ⟨_, rfl, r⟩
theorem Vals.eraseIdx : ∀ {xs : List V} {us : List Value} (i : Nat), Vals xs us → Vals (xs.eraseIdx i) (us.eraseIdx i)
  | _, _, _, .nil => .nil
  | _, _, 0, .cons _ t => t
  | _, _, i + 1, .cons r t => .cons r (Vals.eraseIdx i t)
theorem Vals.rep {xs : List V} {us : List Value} (h : Vals xs us) : ∀ k : Nat, Vals (List.replicate k xs).flatten (List.replicate k us).flatten
  | 0 => .nil
  | k + 1 => by
    rw [List.replicate_succ, List.replicate_succ, List.flatten_cons, List.flatten_cons]
    exact Vals.append h (Vals.rep h k)
theorem zwn {α : Type} : ∀ (l : List α) (i : Nat), (l.eraseIdx i).length ≤ l.length
  | [], _ => Nat.le_refl _
  | _ :: _, 0 => Nat.le_succ _
  | _ :: r, i + 1 => Nat.succ_le_succ (zwn r i)
theorem zwo (its : List Value) : ∀ (k : Nat) (acc : List Value),
    List.foldl (fun x1 x2 => x1 ++ x2) acc.toArray (List.replicate k its.toArray) = (acc ++ (List.replicate k its).flatten).toArray
  | 0, acc => by simp
  | k + 1, acc => by
    have e : acc.toArray ++ its.toArray = (acc ++ its).toArray := by simp
    have e2 : (acc ++ its) ++ (List.replicate k its).flatten = acc ++ (List.replicate (k + 1) its).flatten := by
      rw [List.replicate_succ, List.flatten_cons, List.append_assoc]
    rw [← e2, ← zwo its k (acc ++ its), ← e, List.replicate_succ, List.foldl_cons]
section
variable {X : Cx} {pins : List (Addr × Obj)} {σ : St} {H : Hp} {s : Shared} {l b : Addr} {xs ys zs : List V}
theorem Inv.lset {its its' : List Value} {n : Nat} {f : Array Value → Array Value} {t' : Nat} (I : Inv X pins σ H s) (hH : H l = some (.lst xs))
    (e : s.heap.get? l = some { cls := .type "list", data := .seq its.toArray n }) (hf : f its.toArray = its'.toArray) (hv : Vals ys its') (hz : ys.length ≤ sizeLine) :
    Inv X pins σ (upd H l (.lst ys)) { s with heap := s.heap.update l (Obj.mapSeq f), toks := t' } := by
  have q := PySem.IsL.update e f
  rw [hf] at q
  refine I.write (x := l) (e := l) (by rw [hH]; exact trivial) (.inl rfl) (fun b' u hb hu => (Heap.get?_update_other s.heap (Obj.mapSeq f) (Ne.symm hb)).trans hu) ⟨_, q⟩ ?_
  exact ⟨hz, its', _, hv, q⟩
theorem Inv.lnew {its : List Value} {t' : Nat} (I : Inv X pins σ H s) (hv : Vals ys its) (hz : ys.length ≤ sizeLine) :
    Inv X pins σ (upd H s.heap.objs.size (.lst ys)) { s with heap := s.heap.push { cls := .type "list", data := .seq its.toArray }, toks := t' } :=
  I.laid (fun _ _ q => Heap.get?_push_of_some _ q) (Nat.le_refl _) ⟨hz, its, 0, hv, Heap.get?_push_size _ rfl⟩
theorem Inv.fresh (I : Inv X pins σ H s) : H s.heap.objs.size = none := I.hok.fresh (Nat.le_refl _)
theorem Inv.lstM (I : Inv X pins σ H s) (hH : H l = some (.lst xs)) : xs.length ≤ sizeLine ∧ ∃ (its : List Value) (n : Nat), Vals xs its ∧ xs.length = its.length ∧ s.heap.get? l = some { cls := .type "list", data := .seq its.toArray n } := by
  obtain ⟨z, its, n, r, e⟩ := I.hok l _ hH
  exact ⟨z, its, n, r, r.length, e⟩
theorem zabe {n : Nat} (h : n ≤ sizeLine) : Builtin.List.listTooLong n = false := by
  unfold Builtin.List.listTooLong
  exact decide_eq_false (by omega)
end
section
variable {X : Cx}
noncomputable def zzf : V → List V → Hp → VK → Prop := fun x vs H Q => ∃ l xs y, x = .ref l ∧ vs = [y] ∧ H l = some (.lst xs) ∧ xs.length < sizeLine ∧ Q .non (upd H l (.lst (xs ++ [y])))
theorem zgn : MtM X "list.append" zzf := by
  intro pins s σ H x vs v us Q I rx rv h
  obtain ⟨l, xs, y, rfl, rfl, hH, hz, q⟩ := h
  cases rx
  obtain ⟨u, rfl, ru⟩ := rv.one
  obtain ⟨z, its, n, r, hl, e⟩ := I.lstM hH
  refine call_meets F.slot_list_append ⟨_, e, rfl⟩ F.entry_list_append (F.args_list_append_2 _ _) (PySem.list_append l its.toArray n u (by rw [List.size_toArray]; omega)) ⟨e, ?_⟩
  refine ⟨.non, _, I.lset (its' := its ++ [u]) hH e (by simp) (r.append (.cons ru .nil)) ?_, rfl, q⟩
  rw [List.length_append, List.length_singleton]
  omega
noncomputable def zaem : V → List V → Hp → VK → Prop := fun x vs H Q => ∃ l b xs zs, x = .ref l ∧ vs = [.ref b] ∧ H l = some (.lst xs) ∧ H b = some (.lst zs) ∧ xs.length + zs.length ≤ sizeLine ∧ Q .non (upd H l (.lst (xs ++ zs)))
theorem zaen : MtM X "list.extend" zaem := by
  intro pins s σ H x vs v us Q I rx rv h
  obtain ⟨l, b, xs, zs, rfl, rfl, hH, hB, hz, q⟩ := h
  cases rx
  obtain ⟨u, rfl, ru⟩ := rv.one
  cases ru
  obtain ⟨z, its, n, r, hl, e⟩ := I.lstM hH
  obtain ⟨z2, its2, n2, r2, hl2, e2⟩ := I.lstM hB
  have hsz : its.toArray.size + its2.toArray.size ≤ sizeLine := by rw [List.size_toArray, List.size_toArray]; omega
  have hlong : ¬ (!its.toArray.isEmpty && Builtin.List.listTooLong (its.toArray.size + its2.toArray.size)) = true := by
    rw [zabe hsz, Bool.and_false]
    exact Bool.false_ne_true
  refine call_meets F.slot_list_extend ⟨_, e, rfl⟩ F.entry_list_extend (F.args_list_extend_2 _ _)
    (AutoSeq1.list_extend_list_list_0 l its.toArray n b its2.toArray n2 hlong (by rw [List.size_toArray]; omega) (by omega)) ⟨e, e2, ?_⟩
  refine ⟨.non, _, I.lset (its' := its ++ its2) hH e (by simp) (r.append r2) ?_, rfl, q⟩
  rw [List.length_append]
  omega
noncomputable def zakt : V → List V → Hp → VK → Prop := fun x vs H Q => ∃ l xs i k y, x = .ref l ∧ vs = [.int i] ∧ H l = some (.lst xs) ∧ -(2 ^ 63) ≤ i ∧ i < 2 ^ 63 ∧ seqIndex? i xs.length = some k ∧ xs[k]? = some y ∧ Q y (upd H l (.lst (xs.eraseIdx k)))
theorem zaic : MtM X "list.pop" zakt := by
  intro pins s σ H x vs v us Q I rx rv h
  obtain ⟨l, xs, i, k, y, rfl, rfl, hH, h1, h2, hk, hy, q⟩ := h
  cases rx
  obtain ⟨u, rfl, ru⟩ := rv.one
  obtain ⟨t, rfl⟩ := ru
  obtain ⟨z, its, n, r, hl, e⟩ := I.lstM hH
  obtain ⟨w, hw, rw'⟩ := r.get hy
  refine call_meets F.slot_list_pop ⟨_, e, rfl⟩ F.entry_list_pop (F.args_list_pop_2 _ _)
    (MeetsSeq.list_pop_at l its.toArray n i t k w (fitsIndex_both h1 h2) (by rw [List.size_toArray, ← hl]; exact hk) (by rw [← Array.getElem?_toList]; exact hw) (by rw [List.size_toArray]; omega)) ⟨e, ?_⟩
  refine ⟨y, _, I.lset (its' := its.eraseIdx k) hH e ?_ (r.eraseIdx k) ?_, rw', q⟩
  · show its.toArray.eraseIdxIfInBounds k = (its.eraseIdx k).toArray
    rw [List.eraseIdxIfInBounds_toArray]
  · have := zwn xs k
    omega
noncomputable def rCat : R2 := fun x y H Q => ∃ l b xs zs, x = .ref l ∧ y = .ref b ∧ H l = some (.lst xs) ∧ H b = some (.lst zs) ∧ xs.length + zs.length ≤ sizeLine ∧ ∀ p, H p = none → Q (.ref p) (upd H p (.lst (xs ++ zs)))
theorem zapb : OpR X (binaryOp .Add) rCat := by
  intro pins s σ H x y v u Q I rx ry h
  obtain ⟨l, b, xs, zs, rfl, rfl, hH, hB, hz, q⟩ := h
  cases rx
  cases ry
  obtain ⟨z, its, n, r, hl, e⟩ := I.lstM hH
  obtain ⟨z2, its2, n2, r2, hl2, e2⟩ := I.lstM hB
  refine PySem.P.add_list e e2 ?_ (by rw [List.size_toArray, List.size_toArray]; omega)
  have ea : its.toArray ++ its2.toArray = (its ++ its2).toArray := by simp
  rw [ea]
  exact ⟨.ref _, _, I.lnew (t' := s.toks) (r.append r2) (by rw [List.length_append]; omega), rfl, q _ I.fresh⟩
noncomputable def rRep : R2 := fun x y H Q => ∃ l k xs, x = .ref l ∧ y = .int k ∧ H l = some (.lst xs) ∧ -(2 ^ 63) ≤ k ∧ k < 2 ^ 63 ∧ xs.length * k.toNat ≤ sizeLine ∧
  ∀ p, H p = none → Q (.ref p) (upd H p (.lst (List.replicate k.toNat xs).flatten))
theorem zamb {α : Type} (xs : List α) (k : Nat) : (List.replicate k xs).flatten.length = k * xs.length := by
  induction k with
  | zero => simp
  | succ k ih => rw [List.replicate_succ, List.flatten_cons, List.length_append, ih, Nat.succ_mul, Nat.add_comm]
theorem zaku : OpR X (binaryOp .Mult) rRep := by
  intro pins s σ H x y v u Q I rx ry h
  obtain ⟨l, k, xs, rfl, rfl, hH, h1, h2, hz, q⟩ := h
  cases rx
  obtain ⟨t, rfl⟩ := ry
  obtain ⟨z, its, n, r, hl, e⟩ := I.lstM hH
  have hlen : its.toArray.size * k.toNat ≤ sizeLine := by rw [List.size_toArray, ← hl]; exact hz
  have hcap : ¬ its.toArray.size * k.toNat > (2 ^ 63 - 1) / 8 := by
    have : (sizeLine : Nat) ≤ (2 ^ 63 - 1) / 8 := by decide
    omega
  have hfit : ¬ (!Builtin.List.listFitsIndex k) = true := by
    rw [fitsIndex_both h1 h2]
    exact Bool.false_ne_true
  have hlong : ¬ Builtin.List.listTooLong (its.toArray.size * k.toNat) = true := by
    rw [zabe hlen]
    exact Bool.false_ne_true
  have hnew : List.foldl (fun x1 x2 => x1 ++ x2) #[] (List.replicate (if its.toArray.isEmpty = true then 0 else k.toNat) its.toArray) = (List.replicate k.toNat its).flatten.toArray := by
    have f0 : ∀ m : Nat, List.foldl (fun x1 x2 => x1 ++ x2) #[] (List.replicate m its.toArray) = (List.replicate m its).flatten.toArray := fun m => by
      have := zwo its m []
      rw [List.nil_append] at this
      exact this
    rw [f0]
    cases its with
    | nil => simp
    | cons a r' => rw [if_neg (by simp)]
  refine wpAny_binaryOp_repeat_ref (T := "list") (U := "int") (by decide) ⟨_, e, rfl⟩ (fun s' => typeIs_int s' k t) noFill_list_mul F.fills_int_mul F.slot_int_rmul repeat_list F.slot_int_index.lookup
    (call_meets F.slot_int_rmul (typeIs_int s k t) F.entry_int_rmul (F.args_int_rmul_2 _ _) (int___rmul___int_list k t l its.toArray n)
      ⟨e, rfl, ⟨_, e, rfl⟩, call_meets F.slot_list_mul ⟨_, e, rfl⟩ F.entry_list_mul (F.args_list_mul_2 _ _) (AutoListH.list___mul___list_int_3 l its.toArray n k t hfit hcap hlong) ⟨e, ?_⟩⟩)
  rw [hnew]
  exact ⟨.ref _, _, I.lnew (t' := s.toks) (r.rep k.toNat) (by rw [zamb, Nat.mul_comm]; exact hz), rfl, q _ I.fresh⟩
end
section
variable {prog : Program} {w : World} {A : Around} {E : Value → Shared → Prop} {s : Shared}
set_option maxRecDepth 100000 in
end
section
variable {X : Cx}
end
end L2
namespace L2
open PySem PySem.Spec PyProof.Rows
section
variable {κ : Type} [DecidableEq κ]
noncomputable def valV (kvs : List (κ × V)) (k : κ) : Option V := (kvs.find? fun kv => decide (kv.1 = k)).map (·.2)
noncomputable def putK (kvs : List (κ × V)) (k : κ) (v : V) : List (κ × V) :=
  if (kvs.any fun kv => decide (kv.1 = k)) = true then kvs.map (fun kv => if kv.1 = k then (kv.1, v) else kv) else kvs ++ [(k, v)]
theorem zpr {p : κ × V} {r : List (κ × V)} {k : κ} (e : p.1 = k) : valV (p :: r) k = some p.2 := by simp [valV, List.find?_cons, e]
theorem zps {p : κ × V} {r : List (κ × V)} {k : κ} (e : ¬ p.1 = k) : valV (p :: r) k = valV r k := by simp [valV, List.find?_cons, e]
theorem zabf (k : κ) : ∀ kvs : List (κ × V), (kvs.any fun kv => decide (kv.1 = k)) = (valV kvs k).isSome
  | [] => rfl
  | p :: r => by
    rw [List.any_cons]
    by_cases e : p.1 = k
    · simp only [zpr e, decide_eq_true e, Bool.true_or, Option.isSome_some]
    · rw [zps e, decide_eq_false e, Bool.false_or]; exact zabf k r
theorem zlu (kvs : List (κ × V)) (k : κ) (v : V) : (putK kvs k v).length ≤ kvs.length + 1 := by
  unfold putK
  split
  · rw [List.length_map]; omega
  · rw [List.length_append, List.length_cons, List.length_nil]; omega
theorem RelO.isSome_eq {o : Option V} {u : Option Value} (r : RelO o u) : o.isSome = u.isSome := by
  cases o with
  | none => cases u with
    | none => rfl
    | some _ => exact (show False from r).elim
  | some _ => cases u with
    | none => exact (show False from r).elim
    | some _ => rfl
theorem KV.val {kvs : List (κ × V)} {vs : List (κ × Value)} (r : KV kvs vs) (k : κ) : RelO (valV kvs k) (valueAt vs k) := by
  unfold KV at r
  induction r with
  | nil => exact True.intro
  | @cons p q ps qs h t ih =>
    obtain ⟨h1, h2⟩ := h
    by_cases e : p.1 = k
    · have e' : q.1 = k := h1.symm.trans e
      have b : valueAt (q :: qs) k = some q.2 := by simp [valueAt, List.find?_cons, e']
      rw [zpr e, b]; exact h2
    · have e' : ¬ q.1 = k := fun z => e (h1.trans z)
      have b : valueAt (q :: qs) k = valueAt qs k := by simp [valueAt, List.find?_cons, e']
      rw [zps e, b]; exact ih
theorem KV.any {kvs : List (κ × V)} {vs : List (κ × Value)} (r : KV kvs vs) (k : κ) : (kvs.any fun kv => decide (kv.1 = k)) = vs.any fun kv => decide (kv.1 = k) := by
  unfold KV at r
  induction r with
  | nil => rfl
  | cons h t ih => rw [List.any_cons, List.any_cons, ih, h.1]
theorem KV.repl {kvs : List (κ × V)} {vs : List (κ × Value)} (r : KV kvs vs) (k : κ) {y : V} {u : Value} (ry : RelV y u) :
    KV (kvs.map fun kv => if kv.1 = k then (kv.1, y) else kv) (vs.map fun kv => if kv.1 = k then (kv.1, u) else kv) := by
  unfold KV at r ⊢
  induction r with
  | nil => exact .nil
  | @cons p q ps qs h t ih =>
    rw [List.map_cons, List.map_cons]
    refine .cons ?_ ih
    obtain ⟨h1, h2⟩ := h
    by_cases e : p.1 = k
    · rw [if_pos e, if_pos (h1.symm.trans e)]; exact ⟨h1, ry⟩
    · rw [if_neg e, if_neg (fun z => e (h1.trans z))]; exact ⟨h1, h2⟩
theorem KV.put {kvs : List (κ × V)} {vs : List (κ × Value)} (r : KV kvs vs) (k : κ) {y : V} {u : Value} (ry : RelV y u) : KV (putK kvs k y) (stored vs k u) := by
  unfold putK stored
  rw [r.any k]
  by_cases e : (vs.any fun kv => decide (kv.1 = k)) = true
  · rw [if_pos e, if_pos e]; exact r.repl k ry
  · rw [if_neg e, if_neg e]; exact Paired.snoc r ⟨rfl, ry⟩
theorem KV.length {kvs : List (κ × V)} {vs : List (κ × Value)} (r : KV kvs vs) : kvs.length = vs.length := Paired.length r
end
theorem zaeo {P : Program} {w : World} {k : Key} {u : Value} (r : RelV (kV k) u) : (zef P w).is k u = true := by
  cases k with
  | inl i => obtain ⟨t, e⟩ := (show ∃ t, u = Value.int i t from r); subst e; exact zyx P w i t
  | inr x => obtain ⟨t, e⟩ := (show ∃ t, u = Value.str x t from r); subst e; exact zyy P w x t
theorem zwp {P : Program} {w : World} : ∀ {ks : List Key} {us : List Value}, Vals (ks.map kV) us → ItemsAre (zef P w) ks us
  | [], _, r => by rw [List.map_nil] at r; cases r; exact .nil
  | k :: ks, _, r => by
    rw [List.map_cons] at r
    cases r with
    | cons h t => exact .cons (zaeo h) (zwp t)
noncomputable abbrev KT (H : Hp) : List (List Key × V) → List (List Key × Addr × Value) → Prop := Paired fun p q => p.1 = q.1 ∧ H q.2.1 = some (.tup (p.1.map kV)) ∧ RelV p.2 q.2.2
theorem KT.val {H : Hp} {kvs : List (List Key × V)} {xs : List (List Key × Addr × Value)} (r : KT H kvs xs) (k : List Key) : RelO (valV kvs k) ((atKey xs k).map (·.2)) := by
  induction r with
  | nil => exact True.intro
  | @cons p q ps qs h t ih =>
    obtain ⟨h1, _, h2⟩ := h
    by_cases e : p.1 = k
    · have e' : q.1 = k := h1.symm.trans e
      have b : atKey (q :: qs) k = some q.2 := by simp [atKey, List.find?_cons, e']
      rw [zpr e, b]; exact h2
    · have e' : ¬ q.1 = k := fun z => e (h1.trans z)
      have b : atKey (q :: qs) k = atKey qs k := by simp [atKey, List.find?_cons, e']
      rw [zps e, b]; exact ih
theorem KT.repl {H : Hp} {kvs : List (List Key × V)} {xs : List (List Key × Addr × Value)} (r : KT H kvs xs) (k : List Key) {y : V} {u : Value} (ry : RelV y u) :
    KT H (kvs.map fun kv => if kv.1 = k then (kv.1, y) else kv) (xs.map (putAt k u)) := by
  induction r with
  | nil => exact .nil
  | @cons p q ps qs h t ih =>
    rw [List.map_cons, List.map_cons]
    refine .cons ?_ ih
    obtain ⟨h1, h2, h3⟩ := h
    unfold putAt
    by_cases e : p.1 = k
    · rw [if_pos e, if_pos (h1.symm.trans e)]; exact ⟨h1, h2, ry⟩
    · rw [if_neg e, if_neg (fun z => e (h1.trans z))]; exact ⟨h1, h2, h3⟩
theorem KT.put {H : Hp} {kvs : List (List Key × V)} {xs : List (List Key × Addr × Value)} (r : KT H kvs xs) (k : List Key) {b : Addr} {y : V} {u : Value} (hb : H b = some (.tup (k.map kV))) (ry : RelV y u) :
    KT H (putK kvs k y) (storedH xs k b u) := by
  have e : (kvs.any fun kv => decide (kv.1 = k)) = (atKey xs k).isSome := by
    rw [zabf, (r.val k).isSome_eq, Option.isSome_map]
  unfold putK storedH
  rw [e]
  by_cases q : (atKey xs k).isSome = true
  · rw [if_pos q, if_pos q]; exact r.repl k ry
  · rw [if_neg q, if_neg q]; exact Paired.snoc r ⟨rfl, hb, ry⟩
theorem KT.keeps {H H' : Hp} {kvs : List (List Key × V)} {xs : List (List Key × Addr × Value)} (r : KT H kvs xs) (ht : ∀ b ys, H b = some (.tup ys) → H' b = some (.tup ys)) : KT H' kvs xs :=
  Paired.mapP r fun _ _ z => ⟨z.1, ht _ _ z.2.1, z.2.2⟩
section
variable {P : Program} {w : World} {H : Hp} {h : Heap} {a : Addr}
theorem zapc {u : HO} (ok : HOk P w H h) (e : Rd H a u) : zfy P w H h a u := e.ok ok
theorem zaid {kvs : List (Key × V)} (ok : HOk P w H h) (e : Rd H a (.dK kvs)) : kvs.length ≤ sizeLine ∧ (a == sysModules) = false ∧ ∃ vs, KV kvs vs ∧ h.DictOf (zef P w) a vs :=
  show zfy P w H h a (.dK kvs) from zapc ok e
theorem zaie {kvs : List (Key × V)} (ok : HOk P w H h) (e : H a = some (.dK kvs)) : kvs.length ≤ sizeLine ∧ (a == sysModules) = false ∧ ∃ vs, KV kvs vs ∧ h.DictOf (zef P w) a vs := zaid ok (.inl e)
theorem zabg {ks : List Key} (ok : HOk P w H h) (e : H a = some (.tup (ks.map kV))) : (tupleKind (zef P w)).is h ks a := by
  obtain ⟨_, its, r, o, h1, h2, n, h3⟩ := (show zfy P w H h a (.tup (ks.map kV)) from ok a _ e)
  exact ⟨o, its.toArray, n, h1, h2, h3, by simpa using zwp r⟩
theorem zaif {kvs : List (List Key × V)} (ok : HOk P w H h) (e : Rd H a (.dT kvs)) : kvs.length ≤ sizeLine ∧ (a == sysModules) = false ∧
    ∃ xs, KT H kvs xs ∧ h.DictOfH (tupleKind (zef P w)) a xs := by
  obtain ⟨z, y, xs, r, o, es, ep, h1, h2, h3, h4, h5⟩ := (show zfy P w H h a (.dT kvs) from zapc ok e)
  refine ⟨z, y, xs, r, o, es, ep, h1, h2, h3, h4, fun x hx => ?_, h5⟩
  have all : ∀ {l : List (List Key × V)} {m : List (List Key × Addr × Value)}, KT H l m → ∀ x ∈ m, (tupleKind (zef P w)).is h x.1 x.2.1 := by
    intro l m q
    induction q with
    | nil => intro x hx; exact nomatch hx
    | @cons p q ps qs hq t ih =>
      intro x hx
      rcases List.mem_cons.mp hx with e | hx
      · subst e
        exact zabg ok (by rw [← hq.1]; exact hq.2.1)
      · exact ih x hx
  exact all r x hx
theorem zarr {kvs : List (List Key × V)} (ok : HOk P w H h) (e : H a = some (.dT kvs)) : kvs.length ≤ sizeLine ∧ (a == sysModules) = false ∧
    ∃ xs, KT H kvs xs ∧ h.DictOfH (tupleKind (zef P w)) a xs := zaif ok (.inl e)
end
noncomputable def DGet (H : Hp) (a : Addr) (y : V) (r : Option V) : Prop :=
  (∃ kvs k, Rd H a (.dK kvs) ∧ y = kV k ∧ r = valV kvs k) ∨ ∃ kvs k b, Rd H a (.dT kvs) ∧ y = .ref b ∧ H b = some (.tup (k.map kV)) ∧ r = valV kvs k
noncomputable def DPut (H : Hp) (a : Addr) (y v : V) (H' : Hp) : Prop :=
  (∃ kvs k, H a = some (.dK kvs) ∧ y = kV k ∧ kvs.length < sizeLine ∧ H' = upd H a (.dK (putK kvs k v))) ∨
  ∃ kvs k b, H a = some (.dT kvs) ∧ y = .ref b ∧ H b = some (.tup (k.map kV)) ∧ kvs.length < sizeLine ∧ H' = upd H a (.dT (putK kvs k v))
theorem DGet.k {H : Hp} {a : Addr} {kvs : List (Key × V)} {k : Key} (e : H a = some (.dK kvs)) : DGet H a (kV k) (valV kvs k) := .inl ⟨kvs, k, .inl e, rfl, rfl⟩
theorem DPut.k {H : Hp} {a : Addr} {kvs : List (Key × V)} {k : Key} {v : V} (e : H a = some (.dK kvs)) (hl : kvs.length < sizeLine) : DPut H a (kV k) v (upd H a (.dK (putK kvs k v))) := .inl ⟨kvs, k, e, rfl, hl, rfl⟩
section
variable {X : Cx} {pins : List (Addr × Obj)} {σ : St} {H : Hp} {s : Shared} {a : Addr} {y v : V} {u r : Value} {o : Option V} {A : Around} {E : Value → Shared → Prop}
theorem Inv.big (I : Inv X pins σ H s) : sysModules < s.heap.objs.size := by
  have h : mainGlobals < s.heap.objs.size := (I.mod.glob.keeps I.bk).lt
  exact Nat.lt_trans (by decide) h
theorem zaep {Q : Value → Shared → Prop} (hu : A.units + 1 < cLine) (I : Inv X pins σ H s) (g : DGet H a y (some v)) (ry : RelV y u) (h : ∀ w' s', Inv X pins σ H s' → RelV v w' → Q w' s') :
    wpAny (model X.prog X.w) A (getItem (.ref a) u) Q E s := by
  rcases g with ⟨kvs, k, e, ey, l⟩ | ⟨kvs, k, b, e, ey, eb, l⟩
  · subst ey
    obtain ⟨z, hd, vs, rel, dd⟩ := zaid I.hok e
    obtain ⟨w', hw, rw'⟩ := RelO.some_of (v := v) (o := valueAt vs k) (by rw [l]; exact rel.val k)
    exact wpAny_getItem_of (zaeo ry) dd.mapOf hw (h w' _ (I.tok _) rw')
  · subst ey
    cases (show u = Value.ref b from ry)
    obtain ⟨z, hd, xs, rel, dd⟩ := zaif I.hok e
    obtain ⟨w', hw, rw'⟩ := RelO.some_of (v := v) (o := (atKey xs k).map (·.2)) (by rw [l]; exact rel.val k)
    obtain ⟨p, hp, hp2⟩ := Option.map_eq_some_iff.mp hw
    refine wpAny_getItem_heap (tupleKind_room_in1 hu) (zabg I.hok eb) dd hp ?_
    rw [hp2]
    exact h w' _ (I.tok _) rw'
theorem d_in {Q : Value → Shared → Prop} (hu : A.units + 1 < cLine) (I : Inv X pins σ H s) (g : DGet H a y o) (ry : RelV y u) (h : ∀ s', Inv X pins σ H s' → Q (.bool o.isSome) s') :
    wpAny (model X.prog X.w) A (compareOp .In u (.ref a)) Q E s := by
  rcases g with ⟨kvs, k, e, ey, l⟩ | ⟨kvs, k, b, e, ey, eb, l⟩
  · subst ey
    obtain ⟨z, hd, vs, rel, dd⟩ := zaid I.hok e
    refine wpAny_in_of (zaeo ry) hd dd.mapOf ?_
    rw [← (rel.val k).isSome_eq, ← l]
    exact h _ (I.tok _)
  · subst ey
    cases (show u = Value.ref b from ry)
    obtain ⟨z, hd, xs, rel, dd⟩ := zaif I.hok e
    refine wpAny_in_heap (tupleKind_room_in1 hu) (zabg I.hok eb) hd dd ?_
    have q := (rel.val k).isSome_eq
    rw [Option.isSome_map] at q
    rw [← q, ← l]
    exact h _ (I.tok _)
theorem zuq {h' : Heap} {t' : Nat} {ob : HO} (I : Inv X pins σ H s) (mu : Mut (H a)) (hs : Heap.SameBut a s.heap h') (he : ∃ q, h'.get? a = some q) (new : zfy X.prog X.w (upd H a ob) h' a ob) :
    Inv X pins σ (upd H a ob) { s with heap := h', toks := t' } :=
  I.write (x := a) (e := a) mu (.inl rfl) (fun b q hb z => (hs.2 b hb).trans z) he new
theorem zaeq {P : Program} {w : World} {H' : Hp} {h' : Heap} {kvs : List (Key × V)} {vs : List (Key × Value)} (z : kvs.length ≤ sizeLine) (hd : (a == sysModules) = false) (rel : KV kvs vs) (dd : h'.DictOf (zef P w) a vs) :
    zfy P w H' h' a (.dK kvs) := ⟨z, hd, vs, rel, dd⟩
theorem zaer {H' : Hp} {Q : Unit → Shared → Prop} (hu : A.units + 1 < cLine) (I : Inv X pins σ H s) (g : DPut H a y v H') (ry : RelV y u) (rv : RelV v r) (h : ∀ s', Inv X pins σ H' s' → Q () s') :
    wpAny (model X.prog X.w) A (setItem (.ref a) u r) Q E s := by
  rcases g with ⟨kvs, k, e, ey, l, eH⟩ | ⟨kvs, k, b, e, ey, eb, l, eH⟩
  · subst ey eH
    obtain ⟨z, hd, vs, rel, dd⟩ := zaie I.hok e
    have hz : vs.length ≤ sizeLine := by rw [← rel.length]; exact z
    have hl : (putK kvs k v).length ≤ sizeLine := by have := zlu kvs k v; omega
    refine wpAny_setItem_pairs (hsz := hz) (zaeo ry) dd fun h' dd' hs => h _ ?_
    have he : ∃ q, h'.get? a = some q := let ⟨q, _, _, hq, _⟩ := dd'; ⟨q, hq⟩
    exact zuq I (by rw [e]; exact True.intro) hs he (zaeq hl hd (rel.put k rv) dd')
  · subst ey eH
    cases (show u = Value.ref b from ry)
    obtain ⟨z, hd, xs, rel, dd⟩ := zarr I.hok e
    have hz : xs.length ≤ sizeLine := by rw [← Paired.length rel]; exact z
    have hl : (putK kvs k v).length ≤ sizeLine := by have := zlu kvs k v; omega
    refine wpAny_setItem_heap (hsz := hz) (tupleKind_room_in1 hu) (zabg I.hok eb) dd fun h' dd' hs => h _ ?_
    obtain ⟨q, es, ep, hq, h2, h3, h4, _, h5⟩ := dd'
    refine zuq I (by rw [e]; exact True.intro) hs ⟨q, hq⟩ ⟨hl, hd, _, (rel.put k eb rv).keeps fun c ys ec => ?_, q, es, ep, hq, h2, h3, h4, h5⟩
    rw [zbc (zarf ec e (fun z => nomatch z))]
    exact ec
end
section
variable {X : Cx} {pins : List (Addr × Obj)} {σ : St} {H : Hp} {s : Shared} {a : Addr} {kvs : List (Key × V)} {k : Key} {u : Value} {A : Around} {E : Value → Shared → Prop}
end
noncomputable def NoSl (i : Expr) : Prop := ∀ ov iv, subscripted i false ov iv = operate [ov, iv] (getItem ov iv)
theorem zamc {prog : Program} {w : World} {A : Around} {E : Value → Shared → Prop} {s : Shared} {env : Env} {value slice : Expr} {pos : Pos} {T id : String} {Q : Value → Shared → Prop}
    (hl : typeLookup (.type T) "__getitem__" = pure (some (.builtin id))) (hs : NoSl slice)
    (h : wpAny (model prog w) A (eval value env) (fun o s₁ => wpAny (model prog w) A (eval slice env) (fun i s₂ => s₂.TypeIs o T ∧ wpAny (model prog w) A (getItem o i) Q E s₂) E s₁) E s) :
    wpAny (model prog w) A (eval (.Subscript value slice pos) env) Q E s := by
  refine Subscript_ (wpAny_mono h (fun o s₁ h₁ => wpAny_mono h₁ (fun i s₂ h₂ => ?_) fun _ _ x => x) fun _ _ x => x)
  obtain ⟨hT, h₂⟩ := h₂
  unfold subscriptTail
  refine wpAny_bind ?_
  rw [getitemInPython_of_ne hT.not_modules]
  refine wpAny_bind (wpAny_specialOf hT hl ?_)
  have fin : wpAny (model prog w) A (subscripted slice false o i) (fun r s₃ => wpAny (model prog w) A (letTemporaryGo value o r >>= fun _ => pure r) Q E s₃) E s₂ := by
    rw [hs o i]
    exact wpAny_operating (wpAny_mono h₂ (fun r s₃ h₃ => wpAny_bind (wpAny_letTemporaryGo (wpAny_pure h₃))) fun _ _ x => x)
  first
    | exact wpAny_pure (wpAny_bind fin)
    | exact wpAny_bind (wpAny_pure (wpAny_bind fin))
    | exact wpAny_bind fin
theorem zzg {X : Cx} {pins : List (Addr × Obj)} {σ : St} {H : Hp} {s : Shared} {a : Addr} {y : V} {o : Option V} (I : Inv X pins σ H s) (g : DGet H a y o) : s.TypeIs (.ref a) "dict" := by
  rcases g with ⟨kvs, k, e, _, _⟩ | ⟨kvs, k, b, e, _, _, _⟩
  · obtain ⟨_, _, vs, _, dd⟩ := zaid I.hok e
    exact dd.typeIs
  · obtain ⟨_, _, xs, _, dd⟩ := zaif I.hok e
    exact dd.typeIs
noncomputable def tDGet (td ty : TE) : TE := fun σ H Q => td σ H fun x H1 => ty σ H1 fun y H2 => ∃ a v, x = .ref a ∧ DGet H2 a y (some v) ∧ Q v H2
noncomputable def tDIn (ty td : TE) : TE := fun σ H Q => ty σ H fun y H1 => td σ H1 fun x H2 => ∃ a o, x = .ref a ∧ DGet H2 a y o ∧ Q (.bl o.isSome) H2
noncomputable def sDPut (td ty tv : TE) : TS := fun D σ H => tv σ H fun v H1 => td σ H1 fun x H2 => ty σ H2 fun y H3 => ∃ a H4, x = .ref a ∧ DPut H3 a y v H4 ∧ D.nx σ H4
section
variable {X : Cx} {o i e value : Expr} {pos pos' tpos : Pos} {td ty tv : TE}
theorem zamd (hu : X.A.units + 1 < cLine) (ho : PE X o td) (hi : PE X i ty) (hs : NoSl i) : PE X (.Subscript o i pos) (tDGet td ty) := by
  intro pins s σ H Q I h
  refine zamc PySem.F.slot_dict_getitem.lookup hs (thn (ho pins s σ H _ I h) fun u s1 ⟨x, H1, I1, rx, q1⟩ => thn (hi pins s1 σ H1 _ I1 q1) fun iv s2 ⟨y, H2, I2, ry, a, v, ex, g, q2⟩ => ?_)
  subst ex
  obtain rfl : u = Value.ref a := rx
  exact ⟨zzg I2 g, zaep hu I2 g ry fun w' s3 I3 rw' => ⟨v, H2, I3, rw', q2⟩⟩
theorem zapd (hu : X.A.units + 1 < cLine) (hi : PE X i ty) (ho : PE X o td) : PC X .In i o (tDIn ty td) := by
  intro pins s σ H Q I h
  refine thn (hi pins s σ H _ I h) fun iv s1 ⟨y, H1, I1, ry, q1⟩ => thn (ho pins s1 σ H1 _ I1 q1) fun u s2 ⟨x, H2, I2, rx, a, ov, ex, g, q2⟩ => ?_
  subst ex
  obtain rfl : u = Value.ref a := rx
  exact d_in hu I2 g ry fun s3 I3 => ⟨.bl ov.isSome, H2, I3, rfl, q2⟩
theorem zame (hu : X.A.units + 1 < cLine) (ho : PE X o td) (hi : PE X i ty) (hv : PE X value tv) (hs : swapsWith value (some (.Subscript o i pos')) pos.line X.env = pure false) :
    PS X (.Assign [.Subscript o i pos'] value pos) (sDPut td ty tv) := by
  intro pins s σ H D I h
  refine wpAny_Assign_Subscript (thn (hv pins s σ H _ I h) fun r s1 ⟨v, H1, I1, rv, q1⟩ => thn (ho pins s1 σ H1 _ I1 q1) fun u s2 ⟨x, H2, I2, rx, q2⟩ => thn (hi pins s2 σ H2 _ I2 q2) fun iv s3 ⟨y, H3, I3, ry, a, H4, ex, g, q3⟩ => ?_) hs
  subst ex
  obtain rfl : u = Value.ref a := rx
  exact zaer hu I3 g ry rv fun s4 I4 => ⟨σ, H4, I4, q3⟩
end
theorem zabh {P : Program} {w : World} {H : Hp} (h : Heap) (hb : sysModules < h.objs.size) : zfy P w H (h.push { cls := .type "dict", data := .dict #[] }) h.objs.size (.dK []) :=
  ⟨Nat.zero_le _, beq_eq_false_iff_ne.mpr (Ne.symm (Nat.ne_of_lt hb)), [], .nil, Heap.DictOf.new h⟩
noncomputable def tDNewK : TE := fun _ H Q => ∀ p, H p = none → Q (.ref p) (upd H p (.dK []))
section
variable {X : Cx} {pos : Pos}
theorem zaig : PE X (.Dict [] [] pos) tDNewK := fun pins s σ H Q I h =>
  wpAny_Dict_empty ⟨.ref s.heap.objs.size, _, I.laid (a := s.heap.objs.size) (o := .dK []) (t' := s.toks) (fun _ _ q => Heap.get?_push_of_some _ q) (Nat.le_refl _) (zabh s.heap I.big), rfl, h _ (I.hok.fresh (Nat.le_refl _))⟩
end
noncomputable def zaes : List (TE × TE) → St → Hp → (List (V × V) → Hp → Prop) → Prop
  | [], _, H, Q => Q [] H
  | (tk, tv) :: r, σ, H, Q => tk σ H fun x H1 => tv σ H1 fun y H2 => zaes r σ H2 fun ps H3 => Q ((x, y) :: ps) H3
noncomputable abbrev VV : List (V × V) → List (Value × Value) → Prop := Paired fun p q => RelV p.1 q.1 ∧ RelV p.2 q.2
noncomputable def PPs (X : Cx) (pos : Pos) (keys : List (Option Expr)) (values : List Expr) (trs : List (TE × TE)) : Prop :=
  ∀ (pins : List (Addr × Obj)) (s : Shared) (σ : St) (H : Hp) (Q : List (V × V) → Hp → Prop), Inv X pins σ H s → zaes trs σ H Q →
    wpAny (model X.prog X.w) X.A (evalPairs (pairTrees keys values X.env pos)) (fun vs s' => ∃ ps H', Inv X pins σ H' s' ∧ VV ps vs ∧ Q ps H') X.xe s
theorem zamf {X : Cx} {pos : Pos} : PPs X pos [] [] [] := fun pins s σ H Q I h => pairTrees_nil_walk ⟨[], H, I, .nil, h⟩
theorem zaih {X : Cx} {pos : Pos} {k v : Expr} {ks : List (Option Expr)} {vs : List Expr} {tk tv : TE} {trs : List (TE × TE)} (hk : PE X k tk) (hv : PE X v tv) (hr : PPs X pos ks vs trs) :
    PPs X pos (some k :: ks) (v :: vs) ((tk, tv) :: trs) := fun pins s σ H Q I h =>
  pairTrees_cons_walk (thn (hk pins s σ H _ I h) fun u s1 ⟨x, H1, I1, rx, q1⟩ => thn (hv pins s1 σ H1 _ I1 q1) fun w2 s2 ⟨y, H2, I2, ry, q2⟩ =>
    thn (hr pins s2 σ H2 _ I2 q2) fun ws s3 ⟨ps, H3, I3, rel, q3⟩ => ⟨(x, y) :: ps, H3, I3, .cons ⟨rx, ry⟩ rel, q3⟩)
noncomputable def zme (kvs more : List (Key × V)) : List (Key × V) := more.foldl (fun acc kv => putK acc kv.1 kv.2) kvs
theorem KV.merge : ∀ {more : List (Key × V)} {rs : List (Key × Value)} {kvs : List (Key × V)} {vs : List (Key × Value)}, KV more rs → KV kvs vs → KV (zme kvs more) (merged vs rs) := by
  intro more rs kvs vs r
  unfold KV at r
  induction r generalizing kvs vs with
  | nil => intro q; exact q
  | @cons p q ps qs h t ih =>
    intro r0
    have e : KV (putK kvs p.1 p.2) (stored vs q.1 q.2) := by
      have := r0.put p.1 h.2
      rw [← h.1]; exact this
    exact ih e
theorem zjf : ∀ (more kvs : List (Key × V)), (zme kvs more).length ≤ kvs.length + more.length
  | [], kvs => by show kvs.length ≤ kvs.length + 0; omega
  | p :: r, kvs => by
    have h1 := zjf r (putK kvs p.1 p.2)
    have h2 := zlu kvs p.1 p.2
    show (zme (putK kvs p.1 p.2) r).length ≤ _
    rw [List.length_cons]; omega
theorem zsy {P : Program} {w : World} : ∀ {kvs : List (Key × V)} {ws : List (Value × Value)}, VV (kvs.map fun kv => (kV kv.1, kv.2)) ws → ∃ rs, Carries (zef P w) ws rs ∧ KV kvs rs
  | [], _, r => by rw [List.map_nil] at r; cases r; exact ⟨[], True.intro, .nil⟩
  | p :: kvs, _, r => by
    rw [List.map_cons] at r
    cases r with
    | @cons a b as bs h t =>
      obtain ⟨rs, c, q⟩ := zsy (P := P) (w := w) t
      obtain ⟨b1, b2⟩ := b
      exact ⟨(p.1, b2) :: rs, ⟨zaeo h.1, rfl, c⟩, .cons ⟨rfl, h.2⟩ q⟩
noncomputable def tDisp (trs : List (TE × TE)) : TE := fun σ H Q => ∀ p, H p = none → zaes trs σ (upd H p (.dK [])) fun ps H2 => H2 p = some (.dK []) ∧ ∃ kvs : List (Key × V), ps = kvs.map (fun kv => (kV kv.1, kv.2)) ∧ kvs.length ≤ 15 ∧ Q (.ref p) (upd H2 p (.dK (zme [] kvs)))
theorem zamg {X : Cx} {pos : Pos} {keys : List (Option Expr)} {values : List Expr} {trs : List (TE × TE)} (h : PPs X pos keys values trs) (hall : keys.all (·.isSome) = true) (hl : keys.length = values.length) (h0 : keys ≠ [])
    (h15 : keys.length ≤ 15) : PE X (.Dict keys values pos) (tDisp trs) := by
  intro pins s σ H Q I q
  have hn := I.hok.fresh (Nat.le_refl s.heap.objs.size)
  have I1 := I.laid (a := s.heap.objs.size) (o := .dK []) (h' := s.heap.push { cls := .type "dict", data := .dict #[] }) (t' := s.toks) (fun _ _ q => Heap.get?_push_of_some _ q) (Nat.le_refl _) (zabh s.heap I.big)
  refine wpAny_Dict_walk (knd := zef X.prog X.w) hall hl h0 h15 (thn (h pins _ σ _ _ I1 (q _ hn)) fun ws s2 ⟨ps, H2, I2, rel, e, kvs, ep, lk, q2⟩ => ?_)
  subst ep
  obtain ⟨rs, c, rk⟩ := zsy (P := X.prog) (w := X.w) rel
  obtain ⟨z, hd, vs0, r0, dd⟩ := zaie I2.hok e
  cases r0
  refine ⟨rs, c, dd, fun h' dd' hs => ⟨.ref s.heap.objs.size, _, ?_, rfl, q2⟩⟩
  have hz : (zme [] kvs).length ≤ sizeLine := by
    have h1 := zjf kvs []
    rw [List.length_nil] at h1
    rw [sizeLine_eq]; omega
  have he : ∃ q, h'.get? s.heap.objs.size = some q := let ⟨q, _, _, hq, _⟩ := dd'; ⟨q, hq⟩
  exact zuq I2 (by rw [e]; exact True.intro) hs he (zaeq hz hd (rk.merge .nil) dd')
set_option genInjectivity false in
set_option genInjectivity false in
section
variable {X : Cx} {pins : List (Addr × Obj)} {σ : St} {H : Hp} {s : Shared} {a : Addr} {y d : V} {u r : Value} {o : Option V} {A : Around} {E : Value → Shared → Prop}
end
section
variable {X : Cx} {o e f : Expr} {apos cpos : Pos} {td ty tx : TE}
end
section
variable {X : Cx} {pins : List (Addr × Obj)} {σ : St} {H : Hp} {s : Shared} {a : Addr} {kvs : List (Key × V)} {A : Around} {E : Value → Shared → Prop}
end
section
variable {X : Cx} {pins : List (Addr × Obj)} {σ : St} {H : Hp} {s : Shared} {a : Addr} {y : V} {u : Value} {A : Around} {E : Value → Shared → Prop}
end
end L2
namespace Att
open PySem PySem.W PySem.Calls PyProof.Rows
theorem zqb {P : Params} {h : Heap} : ∀ (ns : List Int) (vs : List Value), WellAll P h vs (ns.map WData.int) → IntsAre vs ns := by
  intro ns
  induction ns with
  | nil =>
    intro vs w
    rw [List.map_nil] at w
    cases w
    exact .nil
  | cons n ns ih =>
    intro vs w
    rw [List.map_cons] at w
    cases w with
    | cons a b =>
      cases a
      exact .cons _ _ (ih _ b)
theorem zaet {l : OpenLaw} {n : Nat} (hn : l.most = some n) {P : Params} {h : Heap} {args : List WData} {vals : List Value}
    (hpre : l.row.toRowW.claim.pre args = true) (hwl : WellAll P h vals args) :
    ∃ a vs ns, vals = [Value.ref a] ∧ args = [WData.list (ns.map WData.int)] ∧ h.get? a = some { cls := .type "list", data := .seq vs.toArray } ∧ IntsAre vs ns ∧ ns.length ≤ n := by
  have hsh : WShape.hasAll [] args [.list .int] = true := (pre_splitW hpre).1
  have hc : l.pre.holds [] { args := args } = true := (pre_splitW hpre).2
  obtain ⟨d, r, rfl, h1, h2⟩ := hasAllW_cons hsh
  obtain rfl := hasAllW_nil h2
  obtain ⟨xs, rfl, h3⟩ := hasW_list h1
  obtain ⟨ns, rfl⟩ := items_int h3
  have hlen : ns.length ≤ n := by
    unfold OpenLaw.pre at hc
    have h4 : (WTm.not (.lt (.lit (.int (n : Int))) (.len (.arg 0)))).holds [] { args := [.list (ns.map .int)] } = true := by
      have h4 := (holds_andW hc).1
      rw [hn] at h4
      exact h4
    have h5 := condW_of h4 (w_not (w_lt w_lit (w_len_list (w_arg rfl))))
    rw [List.length_map] at h5
    refine Nat.le_of_not_lt fun q => ?_
    have q' : (n : Int) < ((ns.length : Nat) : Int) := by omega
    first
      | (rw [decide_eq_true q'] at h5; exact absurd h5 (by decide))
      | (simp at h5; omega)
  cases hwl with
  | cons w1 w2 =>
    cases w2
    cases w1 with
    | list ho hall => exact ⟨_, _, ns, rfl, rfl, ho, zqb ns _ hall, hlen⟩
theorem zaeu (l : OpenLaw) (args : List WData) : l.row.toRowW.claim.post args (.bool true) args = true :=
  postW_of (r := l.row.toRowW) (X := (true == true))
    (show WShape.has [] (.bool true) .bool = true by first | rfl | decide | simp [WShape.has, WShape.arms, WShape.armsAll])
    (show (WTm.eq .res (.lit (.bool true))).value [] { args := args, res := some (.bool true), after := args } = some (.bool (true == true)) from w_eq_bool (w_res rfl) w_lit) rfl
theorem attach_call {l : OpenLaw} {n : Nat} {q : Program} {loose : List Str} {XP : (Str → Option Value) → Heap → Prop} {YP : World → Heap → Prop} {d : DefRec}
    (hn : l.most = some n) (hdf : d.params.defaults = [])
    (call : ∀ (w : World) (s₀ s₁ : Shared) (mg mb : Str → Option Value) (fa : Addr) (o : Obj) (pm cd doc : Value) (a : Addr) (vs : List Value) (ns : List Int),
      Ground q loose [] XP w s₀ mg mb s₁.heap → YP w s₁.heap →
      s₁.heap.get? fa = some o → o.data = .func (docDef d.name d.params d.body d.scope pm cd doc) → s₁.heap.CodeRec cd d.name → mg d.name = some (.ref fa) →
      s₁.heap.get? a = some { cls := .type "list", data := .seq vs.toArray } → IntsAre vs ns → ns.length ≤ n → s₁.gens = #[] →
      codeAny (model l.prog w) callerA (.call (.ref fa) ⟨[.ref a], []⟩) (fun r s' => r = .ok (.ret (.bool true)) ∧ OldK s₁.heap s'.heap ∧ s'.os = s₁.os ∧ AllBare s'.gens) s₁) :
    WalkO q loose XP YP l.row.toRowW d [] (fun f vs => PySem.call f vs) := by
  intro w s₀ s₁ mg mb G Y fa o pm cd doc dV kV ho hd hcd hD hmg hg args vals as hpre hlay hrd hwl hlo
  obtain rfl : dV = .none := Dflts.none hD hdf
  obtain rfl : kV = .none := Dflts.noKw hD
  obtain ⟨a, vs, ns, rfl, rfl, hobj, hints, hlen⟩ := zaet hn hpre hwl
  refine enter_call (codeAny_mono (call w s₀ s₁ mg mb fa o pm cd doc a vs ns G Y ho (fd_plain hd) hcd hmg hobj hints hlen hg) fun r s' hq => ?_)
  obtain ⟨rfl, h2, h3, h4⟩ := hq
  exact ⟨.inl ⟨.bool true, .bool true, [], rfl, fun _ => rfl, .bool true, zaeu l _, fun _ => ⟨List.Pairwise.nil, fun _ hm => (nomatch hm)⟩⟩, h2, h3, h4⟩
section
variable {prog : Program} {w : World} {A : Around} {E : Value → Shared → Prop} {s : Shared} {K : Frag}
end
end Att
namespace L2
open PySem PySem.Spec PyProof.Rows
theorem zwq : ∀ {vs : List Value} {ns : List Int}, IntsAre vs ns → Vals (ns.map V.int) vs
  | _, _, .nil => .nil
  | _, _, .cons n t h => .cons ⟨t, rfl⟩ (zwq h)
noncomputable def Only (H : Hp) : Prop := ∀ b, H b = none ∨ ∃ o xs, H b = some (.frz o (.lst xs))
theorem zaii {P : Program} {w : World} {K : PySem.W.Frag} {mg mb : Str → Option Value} {CX : CXT} {k : Nat} {fa a : Addr} {fd : FuncData} {x : Str} {sp : Sp} {s₁ : Shared} {vs : List Value} {ns : List Int}
    (KX : K.In s₁.heap) (hns : s₁.heap.Ns mainGlobals mg) (hb : s₁.heap.Ns builtinsNs mb) (hbb : ∀ x : Str, x ≠ "__name__" → mb x = bootBuiltins x) (hlim : s₁.heap.NoLimit) (hg : s₁.gens = #[])
    (ha : s₁.heap.get? a = some { cls := .type "list", data := .seq vs.toArray }) (hi : IntsAre vs ns) (hl : ns.length ≤ sizeLine) (hr : Room k callerA)
    (F : ∀ base : Heap, K.In base → base.Ns mainGlobals mg → FnOk P w K mg base CX k fa fd [x] sp) (hbind : ∀ (s : Shared) (u : Value), BindsTo s fd ⟨[u], []⟩ [(x, u)])
    (hsp : ∀ H : Hp, Only H → SqL K H a (ns.map V.int) → sp [.ref a] H (fun v _ => v = .bl true) fun _ _ _ => False)
    (hCX : ∀ H e s', CX [] H s₁ (fun _ _ _ => False) e s' → False) :
    codeAny (model P w) callerA (.call (.ref fa) ⟨[.ref a], []⟩) (fun r s' => r = .ok (.ret (.bool true)) ∧ OldK s₁.heap s'.heap ∧ s'.os = s₁.os ∧ AllBare s'.gens) s₁ := by
  have rv := zwq hi
  have lenV := hi.length
  have core : ∀ H : Hp, Only H → SqL K H a (ns.map V.int) → HOk P w H s₁.heap → (∀ b, H b ≠ none → b = a) → (H a ≠ none → K.lookup a = none) →
      codeAny (model P w) callerA (.call (.ref fa) ⟨[.ref a], []⟩) (fun r s' => r = .ok (.ret (.bool true)) ∧ OldK s₁.heap s'.heap ∧ s'.os = s₁.os ∧ AllBare s'.gens) s₁ := by
    intro H hO hS hok hA hK
    have base_of : ∀ {b : Addr} {o : Obj}, s₁.heap.get? b = some o → H b = none → (hidT s₁.heap H).get? b = some o := fun e n => zahp e n
    have noA : ∀ {b : Addr} {o : Obj} {es : Array DictEntry} {ep : Nat}, s₁.heap.get? b = some o → o.data = .dict es ep → H b = none := fun {b o es ep} e d => by
      cases q : H b with
      | none => rfl
      | some u =>
        have e' : b = a := hA b (by rw [q]; simp)
        subst e'
        rw [ha] at e; cases e
        have d' : Data.seq vs.toArray _ = Data.dict es ep := d
        cases d'
    have nsK : ∀ {b : Addr} {m : Str → Option Value}, s₁.heap.Ns b m → (hidT s₁.heap H).Ns b m := fun {b m} ⟨o, es, ep, e, d, r⟩ => ⟨o, es, ep, base_of e (noA e d), d, r⟩
    have hKb : K.In (hidT s₁.heap H) := fun b o e => base_of (KX b o e) (by
      cases q : H b with
      | none => rfl
      | some u =>
        have e' : b = a := hA b (by rw [q]; simp)
        subst e'
        rw [hK (by rw [q]; simp)] at e; cases e)
    have hM : Mod K mg (hidT s₁.heap H) := ⟨hKb, nsK hns, ⟨mb, nsK hb, hbb⟩, let ⟨mc, h1, h2⟩ := hlim; ⟨mc, nsK h1, h2⟩⟩
    have e0 : Env0 P w K mg (hidT s₁.heap H) callerA [] s₁ H := ⟨rfl, hM, fun b o e => zalh e, Nat.le_of_eq (zady _ _), trivial, fun b hb => absurd (show b ∈ ([] : List Addr) from hb) (by simp), hok, .of_eq hg⟩
    refine codeAny_mono ((F _ hKb (nsK hns)).run callerA [] s₁ H ⟨[.ref a], []⟩ [.ref a] [.ref a] _ _ hr e0 (hbind s₁ (.ref a)) (.cons rfl .nil) (hsp H hO hS)) fun r s' h => ?_
    cases r with
    | error e => exact (hCX H e s' h).elim
    | ok fl =>
      cases fl with
      | next => exact False.elim h
      | brk => exact False.elim h
      | cont => exact False.elim h
      | ret u =>
        obtain ⟨v, H', os, bare, un, hok', r', q⟩ := h
        have q' : v = .bl true := q
        subst q'
        obtain rfl : u = Value.bool true := r'
        refine ⟨rfl, OldK.of_keep fun b o e => ?_, os, bare⟩
        cases q : H b with
        | none => exact un.keep b o e q (by intro z; exact absurd (show b ∈ ([] : List Addr) from z) (by simp)) (by simp)
        | some u =>
          rcases hO b with z | ⟨ob, xs, z⟩
          · rw [q] at z; cases z
          · have z2 := un.frzs b ob _ z
            obtain ⟨e1, _⟩ := hok b _ z
            obtain ⟨e2, _⟩ := hok' b _ z2
            rw [e] at e1; cases e1
            exact e2
  cases hk : K.lookup a with
  | some o =>
    have e := KX a o hk
    rw [ha] at e
    cases e
    refine core (fun _ => none) (fun _ => .inl rfl) (.inr ⟨_, vs.toArray, _, hk, rfl, rfl, rfl, by rw [List.size_toArray, lenV]; exact hl, by simpa using rv⟩) (fun b u z => by have z' : (none : Option HO) = some u := z; cases z') (fun b z => absurd rfl z) fun z => absurd rfl z
  | none =>
    refine core (fun b => if b = a then some (.frz { cls := .type "list", data := .seq vs.toArray } (.lst (ns.map V.int))) else none) (fun b => ?_) (.inl (.inr ⟨{ cls := .type "list", data := .seq vs.toArray }, if_pos rfl⟩)) (fun b u z => ?_) (fun b z => ?_) fun _ => hk
    · by_cases hb : b = a
      · exact .inr ⟨_, _, if_pos hb⟩
      · exact .inl (if_neg hb)
    · by_cases hb : b = a
      · have z' := (if_pos hb).symm.trans z
        cases z'
        subst hb
        exact ⟨ha, by rw [List.length_map]; exact hl, vs, _, rv, ha⟩
      · have z' := (if_neg hb).symm.trans z
        cases z'
    · by_cases hb : b = a
      · exact hb
      · exact absurd (if_neg hb) z
end L2
namespace L2
open PySem PySem.Spec PyProof.Rows
theorem walk_of {l : PySem.W.OpenLaw} {n k : Nat} {q : Program} {loose : List Str} {XP : (Str → Option Value) → Heap → Prop} {YP : World → Heap → Prop} {d : DefRec} {K : Params → PySem.W.Frag} {CX : World → CXT} {sp : World → Sp} {x : Str}
    (hn : l.most = some n) (hn2 : n ≤ sizeLine) (hdf : d.params.defaults = []) (hr : Room k callerA)
    (hY : ∀ (w : World) (h : Heap), YP w h → (K w.params).In h)
    (F : ∀ (w : World) (mg : Str → Option Value) (fa : Addr) (h : Heap), (K w.params).In h → h.Ns mainGlobals mg → mg d.name = some (.ref fa) →
      ∃ fd : FuncData, (∀ (s : Shared) (u : Value), BindsTo s fd ⟨[u], []⟩ [(x, u)]) ∧
        ∀ base : Heap, (K w.params).In base → base.Ns mainGlobals mg → FnOk l.prog w (K w.params) mg base (CX w) k fa fd [x] (sp w))
    (hsp : ∀ (w : World) (H : Hp) (a : Addr) (ns : List Int), ns.length ≤ n → Only H → SqL (K w.params) H a (ns.map V.int) → sp w [.ref a] H (fun v _ => v = .bl true) fun _ _ _ => False)
    (hCX : ∀ (w : World) (H : Hp) (s : Shared) (e : Value) (s' : Shared), CX w [] H s (fun _ _ _ => False) e s' → False) :
    PySem.W.WalkO q loose XP YP l.row.toRowW d [] (fun f vs => PySem.call f vs) := by
  refine Att.attach_call hn hdf fun w s₀ s₁ mg mb fa o pm cd doc a vs ns G Y ho hd hcd hmg hobj hints hlen hg => ?_
  have KX := hY w _ Y
  obtain ⟨fd, hb, hF⟩ := F w mg fa _ KX G.T.g hmg
  exact zaii KX G.T.g G.T.b G.T.builtins G.T.nolimit hg hobj hints (Nat.le_trans hlen hn2) hr hF hb (fun H hO hS => hsp w H a ns hlen hO hS) fun H e s' => hCX w H s₁ e s'
end L2
/- THE LAST THEOREM (shape; LID, My.* are yours):
   My.Adr: a structure of the addresses that your layer names (classes, functions); My.Txt K t: a structure (Prop) of the equations over K;
   My.txt_mk : {K} {implicit addresses ..} (e1 : nsIn K mainGlobals "law" = some (some (.ref f))) (e2 : K.lookup f = some ⟨oc, od, .func (fnOf "law" "law" params body scope dV kV doc pm an cdv ct), sl⟩) (e3 : codeIn K cdv "law" = true) .. : ∃ t, My.Txt K t
set_option maxRecDepth 100000 in
set_option maxHeartbeats 0 in
theorem PySem.Challenge.cw_LID_holds : PySem.Challenge.rw_LID.Holds := by
  w_on; o_law; k_head; (case hw => w_witness2)
  k_fill
  refine L2.walk_of (l := PySem.Challenge.rw_LID) (n := 63) (k := 40) (x := "script") (CX := fun w => ..) (sp := fun _ => My.sp_law) rfl (by decide) rfl ⟨rfl, by decide, by decide⟩ (fun w h Y => PySem.W.kIn_of Y) ?F ?S ?C
  case F =>
    intro w mg fa h KX G hmg
    have T : ∃ t, My.Txt (L2.KOf KX) t := by
      dsimp only [L2.KOf]                          -- K must stand as «<heap const> w.params» for k_is
      refine' My.txt_mk ?e1 ?e2 ?e3 ..
      (case e1 => PySem.W.k_is)                    -- in the order: a name -> its address -> its object -> its parts
      (case e2 => PySem.W.k_is)
      ..
    obtain ⟨t, T⟩ := T
    have e0 := hmg.symm.trans (PySem.W.mg_of KX G T.law)
    cases e0                                       -- fa is the law's own address
    exact ⟨_, fun s u => .of_eq rfl, fun base kb nb => My.law_fn T kb nb⟩     -- if «.of_eq rfl» comes too early: refine' ⟨_, ?b, fun base kb nb => My.law_fn T kb nb⟩; exact fun s u => .of_eq rfl
  case S => exact fun w H a ns hl hO hS => ..
  case C => exact ..
(the tactic k_is has no namespace: write k_is) -/
namespace L2
open PySem PySem.Spec PyProof.Rows
noncomputable def zbj (s : Stmt) : Arguments := match s with
  | .FunctionDef _ a _ _ _ _ _ _ _ _ => a
  | _ => { posonlyargs := [], args := [], vararg := none, kwonlyargs := [], kw_defaults := [], kwarg := none, defaults := [] }
noncomputable def zbf (s : Stmt) : List Stmt := match s with
  | .FunctionDef _ _ b _ _ _ _ _ _ _ => b
  | _ => []
noncomputable def zaj (s : Stmt) : Scope := match s with
  | .FunctionDef _ _ _ _ _ _ sc _ _ _ => sc
  | _ => { kind := .function, names := [], isGenerator := false, isCoroutine := false }
noncomputable abbrev CX0 : CXT := fun _ _ _ _ _ _ => False
noncomputable abbrev E0 : XK := fun _ _ _ => False
theorem zars {X : Cx} : zaeh CX0 X E0 := fun _ _ _ _ _ _ _ h => h.elim
set_option genInjectivity false in
structure Fun (K : PySem.W.Frag) (x qual : Str) (st : Stmt) (f : Addr) (fd : FuncData) : Prop where
  ex : ∃ (oc : Value) (od : Option Addr) (kV doc pm : Value) (an : Option Addr) (cdv ct : Value) (osl : Array (Option Value)),
    fd = PySem.W.fnOf x qual (zbj st) (zbf st) (zaj st) .none kV doc pm an cdv ct ∧ K.lookup f = some ⟨oc, od, .func fd, osl⟩ ∧ PySem.W.codeIn K cdv qual = true
  kp : PySem.W.keepIn K (.ref f) = true
section
variable {P : Program} {w : World} {K : PySem.W.Frag} {mg : Str → Option Value} {base : Heap}
theorem Fun.ok {x qual : Str} {st : Stmt} {f : Addr} {fd : FuncData} {N ps : List Str} {k : Nat} {sp : Sp} (F : Fun K x qual st f fd) (S : FnScope N ps (zaj st)) (len : ∀ vs H Q E, sp vs H Q E → vs.length = ps.length)
    (hbody : ∀ (cdv : Value) (A : Around) (outer : List Env) (s : Shared) (H : Hp) (vs : List V) (Q : VK) (E : XK), Room k (A.deeper (envOfC qual (zaj st) s.heap.objs.size f cdv)) → sp vs H Q E →
      ∃ t, PSs (cxOf CX0 P w K mg base N qual (zaj st) f cdv A outer s H E).nox (zbf st) t ∧ t { nx := fun _ H' => Q .non H', rt := Q } (zhs N vs) H) : FnOk P w K mg base CX0 (k + 1) f fd ps sp := by
  obtain ⟨oc, od, kV, doc, pm, an, cdv, ct, osl, rfl, lk, hcd⟩ := F.ex
  refine zaro lk hcd S len fun A outer s H vs Q E hr hsp => ?_
  obtain ⟨t, h, q⟩ := hbody cdv A outer s H vs Q E hr hsp
  exact ⟨t, h.nox, q⟩
theorem Fun.binds {x qual : Str} {st : Stmt} {f : Addr} {fd : FuncData} {ps : List Str} (F : Fun K x qual st f fd)
    (h : ∀ (kV doc pm : Value) (an : Option Addr) (cdv ct : Value) (us : List Value), us.length = ps.length → bindArgs (PySem.W.fnOf x qual (zbj st) (zbf st) (zaj st) .none kV doc pm an cdv ct) ⟨us, []⟩ = pure (ps.zip us)) : zzc K fd ps [] := by
  obtain ⟨oc, od, kV, doc, pm, an, cdv, ct, osl, rfl, lk, hcd⟩ := F.ex
  exact .all (h kV doc pm an cdv ct)
theorem zcl {x qual : Str} {st : Stmt} {f : Addr} {oc : Value} {od an : Option Addr} {osl : Array (Option Value)} {kV doc pm cdv ct : Value} (l : K.lookup f = some ⟨oc, od, .func (PySem.W.fnOf x qual (zbj st) (zbf st) (zaj st) .none kV doc pm an cdv ct), osl⟩)
    (c : PySem.W.codeIn K cdv qual = true) (k : PySem.W.keepIn K (.ref f) = true) : Fun K x qual st f (PySem.W.fnOf x qual (zbj st) (zbf st) (zaj st) .none kV doc pm an cdv ct) := ⟨⟨oc, od, kV, doc, pm, an, cdv, ct, osl, rfl, l, c⟩, k⟩
end
theorem zep {A : Around} {k : Nat} (hr : Room k A) : A.units + 1 < cLine := Nat.lt_of_le_of_lt (Nat.add_le_add_left (by decide : 1 ≤ 64) _) hr.units
section
variable {X : Cx}
end
theorem iteF {A B : Prop} (h : B) : if false = true then A else B := by
  rw [if_neg Bool.false_ne_true]
  exact h
theorem iteT {A B : Prop} (h : A) : if true = true then A else B := by
  rw [if_pos rfl]
  exact h
noncomputable def Same (H H' : Hp) : Prop := ∀ b o, H b = some o → H' b = some o
theorem Same.refl (H : Hp) : Same H H := fun _ _ h => h
theorem Same.trans {H H1 H2 : Hp} (a : Same H H1) (b : Same H1 H2) : Same H H2 := fun c o h => b c o (a c o h)
theorem Same.free {H H' : Hp} (e : Same H H') {l : Addr} (h : H' l = Option.none) : H l = Option.none := by
  cases q : H l with
  | none => rfl
  | some o =>
    rw [e l o q] at h
    cases h
theorem Same.seq {K : PySem.W.Frag} {H H' : Hp} {a : Addr} {xs : List V} (e : Same H H') (h : SqL K H a xs) : SqL K H' a xs := by
  rcases h with (h | ⟨o, h⟩) | h
  · exact .inl (.inl (e _ _ h))
  · exact .inl (.inr ⟨o, e _ _ h⟩)
  · exact .inr h
section
variable {κ : Type} [DecidableEq κ]
theorem nd_snoc : ∀ {l : List κ} {k : κ}, l.Nodup → ¬ k ∈ l → (l ++ [k]).Nodup
  | [], k, _, _ => by simp
  | a :: r, k, h, hk => by
    obtain ⟨h1, h2⟩ := List.nodup_cons.mp h
    show (a :: (r ++ [k])).Nodup
    refine List.nodup_cons.mpr ⟨fun m => ?_, nd_snoc h2 fun m => hk (List.mem_cons.mpr (Or.inr m))⟩
    rcases List.mem_append.mp m with q | q
    · exact h1 q
    · exact hk (List.mem_cons.mpr (Or.inl (List.mem_singleton.mp q).symm))
end
end L2
set_option maxHeartbeats 4000000
namespace L2
open PySem PySem.Spec PyProof.Rows
noncomputable def clos (cells : List (Str × Addr)) : List (Str × NameKind) → List (Str × Addr) → List (Str × Addr)
  | [], acc => acc
  | (n, k) :: r, acc => if k == .free then clos cells r ((n, (cells.lookup n).getD 0) :: acc) else clos cells r acc
theorem zur {cells : List (Str × Addr)} : ∀ {names : List (Str × NameKind)} {acc : List (Str × Addr)}, (∀ y ∈ names, y.2 = .free → ∃ c, cells.lookup y.1 = some c) → ∀ p ∈ clos cells names acc, p ∈ acc ∨ ((p.1, NameKind.free) ∈ names ∧ cells.lookup p.1 = some p.2)
  | [], acc, _, p, hp => .inl hp
  | (n, k) :: r, acc, h, p, hp => by
    unfold clos at hp
    have hr : ∀ y ∈ r, y.2 = .free → ∃ c, cells.lookup y.1 = some c := fun y hy => h y (List.mem_cons_of_mem _ hy)
    split at hp
    · rename_i hk
      rcases zur hr p hp with q | q
      · rcases List.mem_cons.mp q with q | q
        · subst q
          have hk' : k = .free := by simpa using hk
          subst hk'
          obtain ⟨c, hc⟩ := h (n, .free) List.mem_cons_self rfl
          exact .inr ⟨List.mem_cons_self, by show cells.lookup n = some ((cells.lookup n).getD 0); rw [hc]; rfl⟩
        · exact .inl q
      · exact .inr ⟨List.mem_cons_of_mem _ q.1, q.2⟩
    · rcases zur hr p hp with q | q
      · exact .inl q
      · exact .inr ⟨List.mem_cons_of_mem _ q.1, q.2⟩
theorem zus {cells : List (Str × Addr)} : ∀ {names : List (Str × NameKind)} {acc : List (Str × Addr)}, ∀ p ∈ acc, p ∈ clos cells names acc
  | [], acc, p, hp => hp
  | (n, k) :: r, acc, p, hp => by
    unfold clos
    split
    · exact zus p (List.mem_cons_of_mem _ hp)
    · exact zus p hp
theorem zut {cells : List (Str × Addr)} {x : Str} : ∀ {names : List (Str × NameKind)} {acc : List (Str × Addr)}, (x, NameKind.free) ∈ names → ∃ c, (x, c) ∈ clos cells names acc
  | [], _, h => by simp at h
  | (n, k) :: r, acc, h => by
    unfold clos
    rcases List.mem_cons.mp h with e | h
    · cases e
      rw [if_pos (show (NameKind.free == NameKind.free) = true by decide)]
      exact ⟨_, zus _ List.mem_cons_self⟩
    · split
      · exact zut h
      · exact zut h
theorem zmf {α : Type} {x : Str} {c : α} : ∀ {l : List (Str × α)}, (x, c) ∈ l → ∃ c', l.lookup x = some c'
  | [], h => by simp at h
  | (k, v) :: r, h => by
    rw [List.lookup_cons]
    cases hb : x == k with
    | true => exact ⟨v, rfl⟩
    | false =>
      rcases List.mem_cons.mp h with e | h
      · cases e; simp at hb
      · exact zmf h
theorem zmg {scope : Scope} {env : Env} (h : ∀ y ∈ scope.names, y.2 = .free → ∃ c, env.cells.lookup y.1 = some c) : closureFor scope env = pure (clos env.cells scope.names []) := by
  unfold closureFor
  have key : ∀ (names : List (Str × NameKind)) (acc : List (Str × Addr)), (∀ y ∈ names, y.2 = .free → ∃ c, env.cells.lookup y.1 = some c) →
      (forIn names acc (fun (x : Str × NameKind) (r : List (Str × Addr)) => (if (x.2 == .free) = true then (do let a ← cellOf env x.1; pure (ForInStep.yield ((x.1, a) :: r))) else pure (ForInStep.yield r) : Sem (ForInStep (List (Str × Addr)))))) = pure (clos env.cells names acc) := by
    intro names
    induction names with
    | nil => intro acc _; rfl
    | cons y r ih =>
      intro acc hy
      obtain ⟨n, k⟩ := y
      have hr := fun y (hm : y ∈ r) => hy y (List.mem_cons_of_mem _ hm)
      rw [List.forIn_cons]
      unfold clos
      cases hk : (k == NameKind.free) with
      | true =>
        have hk' : k = .free := by simpa using hk
        subst hk'
        obtain ⟨c, hc⟩ := hy (n, .free) List.mem_cons_self rfl
        have e1 : cellOf env n = pure c := by unfold cellOf; rw [hc]
        simp only [if_true]
        have hc' : env.cells.lookup n = some c := hc
        rw [e1, hc']
        simp only [pure_bind, Option.getD_some]
        exact ih _ hr
      | false =>
        simp only [Bool.false_eq_true, if_false, pure_bind]
        exact ih _ hr
  simpa using key scope.names [] h
theorem zgz : ∀ (names : List (Str × NameKind)) (n : Nat) (acc : List (Str × Addr)), cellsFrom n names acc = cellsFrom n names [] ++ acc
  | [], _, _ => rfl
  | (name, kind) :: r, n, acc => by
    unfold cellsFrom
    split
    · rw [zgz r (n + 1) ((name, n) :: acc), zgz r (n + 1) [(name, n)], List.append_assoc]; rfl
    · exact zgz r n acc
theorem zha {x : Str} {c : Addr} : ∀ (names : List (Str × NameKind)) (n : Nat) (acc : List (Str × Addr)), (x, c) ∈ cellsFrom n names acc → (x, c) ∈ acc ∨ (x, NameKind.cell) ∈ names
  | [], _, _, h => .inl h
  | (name, kind) :: r, n, acc, h => by
    unfold cellsFrom at h
    split at h
    · rename_i hk
      have hk' : kind = .cell := by simpa using hk
      subst hk'
      rcases zha r _ _ h with q | q
      · rcases List.mem_cons.mp q with q | q
        · cases q; exact .inr List.mem_cons_self
        · exact .inl q
      · exact .inr (List.mem_cons_of_mem _ q)
    · rcases zha r _ _ h with q | q
      · exact .inl q
      · exact .inr (List.mem_cons_of_mem _ q)
theorem zkz {α : Type} {x : Str} : ∀ {l r : List (Str × α)}, (l ++ r).lookup x = (l.lookup x).or (r.lookup x)
  | [], _ => by simp
  | (k, v) :: l, r => by
    rw [List.cons_append, List.lookup_cons, List.lookup_cons]
    cases x == k with
    | true => rfl
    | false => exact zkz
theorem zgm {env : Env} {x : Str} {k' : NameKind} : ∀ {names : List (Str × NameKind)},
    (names.map fun (n, k) => if (k == NameKind.free && env.scope.kind == .function && env.kindOf n == some .cell) then (n, NameKind.cell) else (n, k)).lookup x = some k' →
    ∃ k, names.lookup x = some k ∧ (k' = k ∨ (k = .free ∧ k' = .cell))
  | [], h => by simp at h
  | (n, k) :: r, h => by
    rw [List.map_cons] at h
    by_cases hc : (k == NameKind.free && env.scope.kind == .function && env.kindOf n == some .cell) = true
    · simp only [hc, if_true] at h
      rw [List.lookup_cons] at h ⊢
      cases hx : x == n with
      | true =>
        rw [hx] at h
        have hk : k = .free := by simp at hc; exact hc.1.1
        exact ⟨k, rfl, .inr ⟨hk, (Option.some.inj h).symm⟩⟩
      | false => rw [hx] at h; exact zgm h
    · simp only [hc, Bool.false_eq_true, if_false] at h
      rw [List.lookup_cons] at h ⊢
      cases hx : x == n with
      | true => rw [hx] at h; exact ⟨k, rfl, .inl (Option.some.inj h).symm⟩
      | false => rw [hx] at h; exact zgm h
theorem zkc {env : Env} {x : Str} : ∀ {names : List (Str × NameKind)}, names.lookup x = some .free →
    ((names.map fun (n, k) => if (k == NameKind.free && env.scope.kind == .function && env.kindOf n == some .cell) then (n, NameKind.cell) else (n, k)).lookup x = some .free ∨
     (names.map fun (n, k) => if (k == NameKind.free && env.scope.kind == .function && env.kindOf n == some .cell) then (n, NameKind.cell) else (n, k)).lookup x = some .cell)
  | [], h => by simp at h
  | (n, k) :: r, h => by
    rw [List.map_cons]
    rw [List.lookup_cons] at h
    by_cases hc : (k == NameKind.free && env.scope.kind == .function && env.kindOf n == some .cell) = true
    · simp only [hc, if_true]
      rw [List.lookup_cons]
      cases hx : x == n with
      | true => exact .inr rfl
      | false => rw [hx] at h; exact zkc h
    · simp only [hc, Bool.false_eq_true, if_false]
      rw [List.lookup_cons]
      cases hx : x == n with
      | true => rw [hx] at h; exact .inl h
      | false => rw [hx] at h; exact zkc h
theorem zacx {M : Model} {A : Around} {E : Value → Shared → Prop} {s : Shared} {scope : Scope} {globals : Addr} {cl : List (Str × Addr)} {qual : Str} {env : Env} {Q : Env → Shared → Prop}
    (hQ : ∀ h', (∀ b o, s.heap.get? b = some o → h'.get? b = some o) → h'.Ns s.heap.objs.size (fun _ => none) → (∀ n c, (n, c) ∈ cellsFrom (s.heap.objs.size + 1) scope.names [] → h'.IsCell c none ∧ s.heap.objs.size + 1 ≤ c) →
      ((cellsFrom (s.heap.objs.size + 1) scope.names []).Pairwise fun x y => x.2 ≠ y.2) →
      Q { scope := scope, locals := s.heap.objs.size, globals := globals, cells := cellsFrom (s.heap.objs.size + 1) scope.names [] ++ cl, qual := qual, func := none, code := env.code, frame := env.frame, builtins := env.builtins } { s with heap := h' }) :
    wpAny M A (newFunctionEnv scope globals cl [] qual none .none (some env)) Q E s := by
  simp only [newFunctionEnv, Option.isSome_some, if_true]
  refine wpAny_bind (wpAny_alloc ?_)
  refine wpAny_bind (wpAny_layCells _ (fun name kind cells => by cases hkc : kind == NameKind.cell <;> simp [hkc]) _ _ _ _ ?_)
  have ok := cellsFrom_ok scope.names (s.heap.push { cls := .type "dict", data := .dict #[] }) (s.heap.objs.size + 1) [] ⟨fun _ _ hm => (nomatch hm), List.Pairwise.nil⟩ (by rw [Heap.size_push]; exact Nat.le_refl _)
  rw [Heap.size_push] at ok
  rw [show ({ s with heap := s.heap.push { cls := .type "dict", data := .dict #[] } } : Shared).heap.objs.size = s.heap.objs.size + 1 from Heap.size_push ..]
  rw [zgz]
  refine wpAny_bind ?_
  refine wpAny_pure (wpAny_pure ?_)
  exact hQ _ (fun b o e => pushCells_keeps _ _ b o (Heap.get?_push_of_some _ e)) ((Heap.Ns.new s.heap (.type "dict")).keeps (pushCells_keeps _ _)) ok.empty ok.apart
end L2
namespace L2
open PySem PySem.Spec PyProof.Rows
noncomputable def cxComp (X : Cx) (scope : Scope) (N' own : List Str) (cl : List (Str × Addr)) (C : Addr) (s : Shared) (H : Hp) (fp : List Addr) : Cx :=
  { X with N := N', s₀ := s, H₀ := H, env := compEnvC scope cl C X.env, outer := X.stack, stack := X.stack, ex := fp, fn := fun x => own.contains x, pn := [], xe := fun _ _ => False }
structure CompOk (X : Cx) (scope : Scope) (N' own : List Str) (fr : List Nat) : Prop where
  kind : scope.kind = .function
  names : ∀ y ∈ scope.names, scope.names.lookup y.1 = some y.2
  up : ∀ y ∈ scope.names, y.2 = .free → (X.env.kindOf y.1 = some .cell ∨ X.env.kindOf y.1 = some .free)
  nm : N' = own ++ fr.map (fun j => X.N.getD j Str.empty)
  fr : ∀ j ∈ fr, j < X.N.length ∧ scope.names.lookup (X.N.getD j Str.empty) = some .free
  own : ∀ x ∈ own, scope.names.lookup x = some .local ∨ scope.names.lookup x = some .cell
noncomputable def tau (own : List Str) (fr : List Nat) (σ : St) : St := own.map (fun _ => none) ++ fr.map (fun j => σ.getD j none)
section
variable {X : Cx} {pins : List (Addr × Obj)} {σ : St} {H : Hp} {s : Shared} {scope : Scope} {N' own : List Str} {fr : List Nat}
theorem zni (c : CompOk X scope N' own fr) (ok : X.Ok) : ∀ y ∈ scope.names, y.2 = .free → ∃ a, X.env.cells.lookup y.1 = some a := fun y hy e => ok.has y.1 (c.up y hy e)
theorem zaij {fp : List Addr} {h' : Heap} (c : CompOk X scope N' own fr) (I : Inv X pins σ H s)
    (hf : ∀ b ∈ fp, FpOk X pins H b) (ho : ∀ b ∈ fp, ∃ o, s.heap.get? b = some o ∧ ∀ v, o.data ≠ .cell v)
    (keep : ∀ b o, s.heap.get? b = some o → h'.get? b = some o) (ns : h'.Ns s.heap.objs.size (fun _ => none))
    (cells : ∀ n c, (n, c) ∈ cellsFrom (s.heap.objs.size + 1) scope.names [] → h'.IsCell c none ∧ s.heap.objs.size + 1 ≤ c)
    (apart : (cellsFrom (s.heap.objs.size + 1) scope.names []).Pairwise fun x y => x.2 ≠ y.2) :
    Inv (cxComp X scope N' own (cellsFrom (s.heap.objs.size + 1) scope.names [] ++ clos X.env.cells scope.names []) s.heap.objs.size s H fp) [] (tau own fr σ) H { s with heap := h' } := by
  have found := zni c I.ok
  have clm : ∀ x a, (x, a) ∈ clos X.env.cells scope.names [] → (x, NameKind.free) ∈ scope.names ∧ X.env.cells.lookup x = some a := fun x a hm => by
    rcases zur found (x, a) hm with q | q
    · simp at q
    · exact q
  have look : ∀ x a, (cellsFrom (s.heap.objs.size + 1) scope.names [] ++ clos X.env.cells scope.names []).lookup x = some a →
      ((x, a) ∈ cellsFrom (s.heap.objs.size + 1) scope.names [] ∧ (x, NameKind.cell) ∈ scope.names) ∨ ((x, NameKind.free) ∈ scope.names ∧ X.env.cells.lookup x = some a) := fun x a e => by
    rw [zkz] at e
    cases q : (cellsFrom (s.heap.objs.size + 1) scope.names []).lookup x with
    | some b =>
      rw [q] at e
      cases e
      have hm := PySem.mem_of_lookup q
      rcases zha _ _ _ hm with z | z
      · simp at z
      · exact .inl ⟨hm, z⟩
    | none =>
      rw [q] at e
      exact .inr (clm x a (PySem.mem_of_lookup e))
  have lookF : ∀ x a, (x, NameKind.free) ∈ scope.names → X.env.cells.lookup x = some a → (cellsFrom (s.heap.objs.size + 1) scope.names [] ++ clos X.env.cells scope.names []).lookup x = some a := fun x a hx e => by
    rw [zkz]
    have q : (cellsFrom (s.heap.objs.size + 1) scope.names []).lookup x = none := by
      cases q : (cellsFrom (s.heap.objs.size + 1) scope.names []).lookup x with
      | none => rfl
      | some b =>
        rcases zha _ _ _ (PySem.mem_of_lookup q) with z | z
        · simp at z
        · have h1 := c.names _ hx
          have h2 := c.names _ z
          rw [h1] at h2
          cases h2
    rw [q]
    obtain ⟨d, hd⟩ := zut (cells := X.env.cells) (acc := []) hx
    obtain ⟨d', hd'⟩ := zmf hd
    have := (clm x d' (PySem.mem_of_lookup hd')).2
    rw [e] at this
    cases this
    exact hd'
  have below : ∀ b o, s.heap.get? b = some o → b < s.heap.objs.size := fun b o e => Heap.lt_size e
  have cold : ∀ x a, X.env.cells.lookup x = some a → a < s.heap.objs.size := fun x a e => let ⟨v, q⟩ := I.cell x a e; q.lt
  refine ⟨⟨I.ok.mod, c.kind, I.ok.glob, I.ok.blt, Nat.le_refl _, ?inj, ?has, ?cab, I.ok.hd, I.ok.frames, .inl rfl, ?exf, I.bs, Nat.le_trans I.ok.bsz I.sz, ?noex, ?exfs, I.stack, I.stkFree⟩,
    rfl, I.bare, Un.kept keep, ⟨_, ns, ?loc⟩, ?cell, I.hok.fresh (Nat.le_refl _), ?freeC, ?pin, I.hok.kept keep, ?len⟩
  case inj =>
    intro x y a h1 h2
    rcases look x a h1 with ⟨m1, k1⟩ | ⟨k1, e1⟩ <;> rcases look y a h2 with ⟨m2, k2⟩ | ⟨k2, e2⟩
    · exact name_of_addr apart m1 m2
    · exact absurd (Nat.lt_of_lt_of_le (cold y a e2) (Nat.le_of_succ_le (cells x a m1).2)) (Nat.lt_irrefl _)
    · exact absurd (Nat.lt_of_lt_of_le (cold x a e1) (Nat.le_of_succ_le (cells y a m2).2)) (Nat.lt_irrefl _)
    · exact I.ok.inj x y a e1 e2
  case has =>
    intro x hx
    have hx' : (∃ k, scope.names.lookup x = some k ∧ (k = .cell ∨ k = .free)) := by
      rcases hx with hx | hx
      · obtain ⟨k, e, q⟩ := zgm (env := X.env) (names := scope.names) hx
        rcases q with q | ⟨q, _⟩
        · exact ⟨k, e, .inl q.symm⟩
        · exact ⟨k, e, .inr q⟩
      · obtain ⟨k, e, q⟩ := zgm (env := X.env) (names := scope.names) hx
        rcases q with q | ⟨q, _⟩
        · exact ⟨k, e, .inr q.symm⟩
        · exact ⟨k, e, .inr q⟩
    obtain ⟨k, e, q⟩ := hx'
    show ∃ a, (cellsFrom (s.heap.objs.size + 1) scope.names [] ++ clos X.env.cells scope.names []).lookup x = some a
    rcases q with rfl | rfl
    · obtain ⟨a, ha⟩ := zum (n := s.heap.objs.size + 1) e
      exact ⟨a, by rw [zkz, ha]; rfl⟩
    · obtain ⟨a, ha⟩ := found _ (PySem.mem_of_lookup e) rfl
      exact ⟨a, lookF x a (PySem.mem_of_lookup e) ha⟩
  case cab =>
    intro x a hx e
    have hx : own.contains x = true := hx
    have hx' : x ∈ own := by simpa using hx
    rcases look x a e with ⟨m1, _⟩ | ⟨k1, _⟩
    · have := (cells x a m1).2
      show s.heap.objs.size ≤ a
      omega
    · have h1 := c.names _ k1
      rcases c.own x hx' with h2 | h2
      · rw [h1] at h2; cases h2
      · rw [h1] at h2; cases h2
  case exf =>
    intro b hb
    obtain ⟨o, e, d⟩ := ho b hb
    refine ⟨Nat.ne_of_lt (below b o e), fun x a q z => ?_⟩
    subst z
    rcases look x a q with ⟨m1, _⟩ | ⟨k1, e1⟩
    · exact absurd (Nat.lt_of_lt_of_le (below a o e) (Nat.le_of_succ_le (cells x a m1).2)) (Nat.lt_irrefl _)
    · obtain ⟨v, o', e', d'⟩ := I.cell x a e1
      rw [e] at e'
      cases e'
      exact d v d'
  case noex =>
    intro b o e hb
    rcases (hf b hb).2.2.2.1 with z | z
    · exact I.ok.noex b o e z
    · exact absurd (Nat.lt_of_lt_of_le (Nat.lt_of_lt_of_le (Heap.lt_size e) I.ok.bsz) z) (Nat.lt_irrefl _)
  case exfs =>
    intro b hb z
    rcases List.mem_cons.mp (I.stkSub b z) with q | q
    · exact (hf b hb).2.1 q
    · exact (hf b hb).2.2.1 q
  case loc =>
    intro i x v h1 h2 h3
    have h1 : N'[i]? = some x := h1
    rw [c.nm] at h1
    unfold tau at h2
    by_cases hi : i < own.length
    · rw [List.getElem?_append_left (by simpa using hi), List.getElem?_map] at h2
      cases q : own[i]? with
      | none => rw [q] at h2; cases h2
      | some z => rw [q] at h2; cases h2
    · rw [List.getElem?_append_right (by simpa using hi), List.getElem?_map, List.length_map] at h2
      rw [List.getElem?_append_right (by simpa using hi), List.getElem?_map] at h1
      cases q : fr[i - own.length]? with
      | none => rw [q] at h2; cases h2
      | some j =>
        rw [q] at h1 h2
        have e1 : X.N.getD j Str.empty = x := Option.some.inj h1
        have e2 : σ.getD j none = some v := Option.some.inj h2
        obtain ⟨hj, hfree⟩ := c.fr j (List.mem_of_getElem? q)
        rw [e1] at hfree
        have hNj : X.N[j]? = some x := by
          rw [← e1, List.getD_eq_getElem?_getD, List.getElem?_eq_getElem hj]; rfl
        have hσj : σ[j]? = some (some v) := by
          rw [List.getD_eq_getElem?_getD] at e2
          cases z : σ[j]? with
          | none => rw [z] at e2; cases e2
          | some w => rw [z] at e2; rw [show w = some v from e2]
        have hmem : (x, NameKind.free) ∈ scope.names := PySem.mem_of_lookup hfree
        have hup := c.up _ hmem rfl
        obtain ⟨m, hn, hl⟩ := I.loc
        obtain ⟨u, ru, lk⟩ := hl j x v hNj hσj (by rcases hup with z | z; exact .inr (.inl z); exact .inr (.inr z))
        refine ⟨u, ru, .inr ⟨?_, ?_⟩⟩
        · rcases zkc (env := X.env) (names := scope.names) hfree with z | z
          · exact .inr z
          · exact .inl z
        · rcases lk with ⟨k1, _⟩ | ⟨_, a, ha, hc⟩
          · rcases hup with z | z
            · rw [show X.env.kindOf x = some .cell from z] at k1; cases k1
            · rw [show X.env.kindOf x = some .free from z] at k1; cases k1
          · exact ⟨a, lookF x a hmem ha, hc.keeps keep⟩
  case cell =>
    intro x a e
    rcases look x a e with ⟨m1, _⟩ | ⟨k1, e1⟩
    · exact ⟨_, (cells x a m1).1⟩
    · obtain ⟨v, q⟩ := I.cell x a e1
      exact ⟨v, q.keeps keep⟩
  case freeC =>
    intro x a e
    rcases look x a e with ⟨m1, _⟩ | ⟨k1, e1⟩
    · exact I.hok.fresh (by have := (cells x a m1).2; omega)
    · exact I.freeC x a e1
  case pin => intro p hp; exact absurd (show p ∈ ([] : List (Addr × Obj)) from hp) (by simp)
  case len =>
    show (tau own fr σ).length = N'.length
    rw [c.nm]; unfold tau; simp
end
end L2
namespace L2
open PySem PySem.Spec PyProof.Rows
noncomputable abbrev TM := St → Hp → (St → Hp → Prop) → Prop
noncomputable def PM (X : Cx) (act : Sem Unit) (t : TM) : Prop :=
  ∀ (pins : List (Addr × Obj)) (s : Shared) (σ : St) (H : Hp) (Q : St → Hp → Prop), Inv X pins σ H s → t σ H Q → wpAny (model X.prog X.w) X.A act (fun _ s' => ∃ σ' H', Inv X pins σ' H' s' ∧ Q σ' H') X.xe s
noncomputable def PF (X : Cx) (ifs : List Expr) (t : TT) : Prop :=
  ∀ (pins : List (Addr × Obj)) (s : Shared) (σ : St) (H : Hp) (Q : Bool → Hp → Prop), Inv X pins σ H s → t σ H Q →
    wpAny (model X.prog X.w) X.A (forIn ifs true fun c r => if r = true then do let ok ← isTrue c X.env (eval c X.env); pure (ForInStep.yield ok) else pure (ForInStep.yield r)) (TP X pins σ Q) X.xe s
noncomputable def tAll : TT := fun _ H Q => Q true H
section
variable {X : Cx}
theorem zape : PF X [] tAll := fun _ s σ H Q I h => wpAny_tests_nil ⟨H, I, h⟩
theorem zapf {c : Expr} {t : TT} (h : PT X c t) : PF X [c] t := fun pins s σ H Q I q => wpAny_tests_one (h pins s σ H Q I q)
noncomputable def zzh (p : Addr) (te : TE) : TM := fun σ H Q => te σ H fun v H1 => ∃ ys, H1 p = some (.lst ys) ∧ ys.length < sizeLine ∧ Q σ (upd H1 p (.lst (ys ++ [v])))
theorem zzi {elt : Expr} {te : TE} {p : Addr} (h : PE X elt te) : PM X (do let _ ← call (.builtin "list.append") [.ref p, ← eval elt X.env]) (zzh p te) := by
  intro pins s σ H Q I q
  refine wpAny_bind (thn (h pins s σ H _ I q) fun u s1 ⟨v, H1, I1, r, ys, hp, hz, q1⟩ => ?_)
  refine wpAny_bind (thn (zgn pins s1 σ H1 (.ref p) [v] (.ref p) [u] (fun _ H2 => Q σ H2) I1 rfl (.cons r .nil) ⟨p, ys, v, rfl, rfl, hp, hz, q1⟩) fun _ s2 ⟨_, H2, I2, _, q2⟩ => ?_)
  exact wpAny_pure ⟨σ, H2, I2, q2⟩
noncomputable def zaik (J : It) (g : TG) (tt : TT) (tm : TM) : TM := fun σ H Q => ∃ W : Nat → Nat → St → Hp → Prop, (∃ m, W 0 m σ H) ∧ ∀ i m σ H, W i m σ H →
  (J.stop i H ∧ Q σ H) ∨ (J.go i H ∧ ∃ N : St → Hp → Prop, (∀ σ' H', N σ' H' → ∃ m', m' < m ∧ W (i + 1) m' σ' H') ∧ ∀ x H', J.yld i H x H' → g x σ H' fun σ2 H2 => tt σ2 H2 fun b H3 => if b = true then tm σ2 H3 N else N σ2 H3)
theorem zqc {elt0 : Expr} {gens : List Comprehension} {scope : Scope} {cpos : Pos} {depth : Nat} {target : Expr} {ifs : List Expr} {emit : Sem Unit} {acc : Value} {ip : Pos} {it : Addr} {fp : List Addr} {tn : Nat → Heap → Prop} {J : It} {g : TG} {tt : TT} {tm : TM} {pins : List (Addr × Obj)} {σ : St} {H : Hp} {s : Shared} {Q : St → Hp → Prop}
    (hx : X.xe = fun _ _ => False) (hc : X.calm = true)
    (eq : compTurn (.ListComp elt0 gens scope cpos) depth (.ref it) acc X.env = (do
      standAt ip
      match ← pyNext (.ref it) with
      | none => pure (.done .next)
      | some v =>
        letOwnedTupleGo target (.ref it) v
        assign target X.env v
        let mut ok := true
        for c in ifs do
          if ok then ok ← isTrue c X.env (eval c X.env)
        if ok then emit
        again (.compLoop (.ListComp elt0 gens scope cpos) depth (.ref it) acc X.env)))
    (T : Turn X.prog X.w X.K target J fp it tn) (hg : PG X target g) (ht : PF X ifs tt) (hm : PM X emit tm)
    (I : Inv X pins σ H s) (st : tn 0 s.heap) (hf : ∀ b ∈ fp, FpOk X pins H b) (h : zaik J g tt tm σ H Q) :
    codeAny (model X.prog X.w) X.A (.compLoop (.ListComp elt0 gens scope cpos) depth (.ref it) acc X.env) (fun r s' => r = .ok .next ∧ ∃ σ' H', Inv X pins σ' H' s' ∧ Q σ' H') s := by
  obtain ⟨W, ⟨m0, w0⟩, turn⟩ := h
  have stat : ∀ {H' : Hp}, (∀ b ∈ fp, H' b = none) → ∀ b ∈ fp, FpOk X pins H' b := fun hn b hb => ⟨hn b hb, (hf b hb).2⟩
  have xe : ∀ {α : Type} {m : Sem α} {Q' : α → Shared → Prop} {E : Value → Shared → Prop} {s : Shared}, wpAny (model X.prog X.w) X.A m Q' X.xe s → wpAny (model X.prog X.w) X.A m Q' E s := fun q => wpAny_mono q (fun _ _ z => z) fun _ _ z => by rw [hx] at z; exact z.elim
  refine codeAny_loop rfl (fun n s' => ∃ i σ' H', Inv X pins σ' H' s' ∧ tn i s'.heap ∧ (∀ b ∈ fp, H' b = none) ∧ W i n σ' H') ?_ m0 ⟨0, σ, H, I, st, fun b hb => (hf b hb).1, w0⟩
  rintro n s3 ⟨i, σ3, H3, I3, st3, fr3, w3⟩
  show wpAny _ X.A ((compTurn (.ListComp elt0 gens scope cpos) depth (.ref it) acc X.env).onRaise (fun x => do noteFrame x X.env; theTreesLotGoes x)) _ _ s3
  refine wpAny_noted ?_
  rw [eq]
  refine wpAny_bind (wpAny_standAt (wpAny_bind ?_))
  rcases turn i n σ3 H3 w3 with ⟨stop, qn⟩ | ⟨go, N, hN, step⟩
  · refine thn (T.done X rfl rfl rfl hc i pins s3 σ3 H3 _ I3 (stat fr3) st3 stop) fun r s4 ⟨hr, I4⟩ => ?_
    subst hr
    exact wpAny_pure ⟨rfl, σ3, H3, I4, qn⟩
  · refine thn (T.item X rfl rfl rfl hc i pins s3 σ3 H3 _ I3 (stat fr3) st3 go) fun r s4 ⟨u, hr, h4⟩ => ?_
    subst hr
    refine wpAny_bind (thn h4 fun _ s5 ⟨x, H5, I5, r5, y5, st5, fr5⟩ => ?_)
    have I5' := I5.pinned (stat fr5) (T.obj _ _ st5)
    refine wpAny_bind (xe (thn (hg _ s5 σ3 H5 x u _ I5' r5 (step x H5 y5)) fun _ s6 ⟨σ6, H6, I6, q6⟩ => ?_))
    have again : ∀ {σ7 : St} {H7 : Hp} {s7 : Shared}, Inv X (pins ++ zwf fp s5.heap) σ7 H7 s7 → N σ7 H7 → ∃ m, m < n ∧ ∃ i σ' H', Inv X pins σ' H' s7 ∧ tn i s7.heap ∧ (∀ b ∈ fp, H' b = none) ∧ W i m σ' H' := fun {σ7 H7 s7} I7 n7 => by
      obtain ⟨m', hm, w7⟩ := hN σ7 H7 n7
      refine ⟨m', hm, i + 1, σ7, H7, I7.unpinned, T.keep _ _ _ st5 fun b hb o e => (I7.pin (b, o) (List.mem_append_right _ (List.mem_append_right _ (zky hb e)))).1, fun b hb => ?_, w7⟩
      obtain ⟨o, e, d⟩ := T.obj _ _ st5 b hb
      exact (I7.pin (b, o) (List.mem_append_right _ (List.mem_append_right _ (zky hb e)))).2.1
    refine wpAny_bind (xe (thn (ht _ s6 σ6 H6 _ I6 q6) fun ok s7 ⟨H7, I7, q7⟩ => ?_))
    cases ok with
    | false =>
      rw [if_neg (by decide)] at q7
      exact wpAny_pure ⟨rfl, again I7 q7⟩
    | true =>
      rw [if_pos rfl] at q7
      refine wpAny_bind (xe (thn (hm _ s7 σ6 H7 _ I7 q7) fun _ s8 ⟨σ8, H8, I8, q8⟩ => ?_))
      exact wpAny_pure ⟨rfl, again I8 q8⟩
end
end L2
namespace L2
open PySem PySem.Spec PyProof.Rows
section
variable {X : Cx} {pins : List (Addr × Obj)} {σ : St} {H : Hp} {s : Shared} {scope : Scope} {N' own : List Str} {fr : List Nat}
theorem zsz {elt0 target iter : Expr} {ifs : List Expr} {rest : List Comprehension} {cpos : Pos} {g : TG} {tt : TT} {tm : Addr → TM} {emit : Value → Env → Sem Unit} {it : Addr} {fp : List Addr} {tn : Nat → Heap → Prop} {J : It} {Q : VK} {E : Value → Shared → Prop} {RR : Value → Addr → Result → Shared → Prop}
    (c : CompOk X scope N' own fr) (hc : X.calm = true)
    (eq : ∀ it acc env, compTurn (.ListComp elt0 (⟨target, iter, ifs, 0⟩ :: rest) scope cpos) 0 it acc env = (do
      standAt iter.pos
      match ← pyNext it with
      | none => pure (.done .next)
      | some v =>
        letOwnedTupleGo target it v
        assign target env v
        let mut ok := true
        for c in ifs do
          if ok then ok ← isTrue c env (eval c env)
        if ok then emit acc env
        again (.compLoop (.ListComp elt0 (⟨target, iter, ifs, 0⟩ :: rest) scope cpos) 0 it acc env)))
    (T : Turn X.prog X.w X.K target J fp it tn)
    (hb : ∀ (cl : List (Str × Addr)) (C : Addr) (s : Shared) (H : Hp) (fp : List Addr) (p : Addr), PG (cxComp X scope N' own cl C s H fp) target g ∧ PF (cxComp X scope N' own cl C s H fp) ifs tt ∧ PM (cxComp X scope N' own cl C s H fp) (emit (.ref p) (compEnvC scope cl C X.env)) (tm p))
    (I : Inv X pins σ H s) (st : tn 0 s.heap) (hf : ∀ b ∈ fp, FpOk X pins H b)
    (h : ∀ p, H p = none → zaik J g tt (tm p) (tau own fr σ) (upd H p (.lst [])) (fun _ H' => Q (.ref p) H'))
    (hRR : ∀ (p C : Addr) (m : Str → Option Value) (H' : Hp) (s' : Shared), Inv X pins σ H' s' → s'.heap.Ns C m → FpOk X pins H' C → Q (.ref p) H' → RR (.ref p) C (.ok .next) s') :
    wpAny (model X.prog X.w) X.A (newList []) (fun acc s₃ => wpAny (model X.prog X.w) X.A (newFunctionEnv scope X.env.globals (clos X.env.cells scope.names []) [] X.env.qual none .none (some X.env)) (fun cenv s₄ =>
      codeAny (model X.prog X.w) X.A (.compStart (.ListComp elt0 (⟨target, iter, ifs, 0⟩ :: rest) scope cpos) 0 (.ref it) acc { cenv with scope := relabel scope X.env }) (RR acc cenv.locals) s₄) E s₃) E s := by
  refine wpAny_newObj_type ?_
  have I3 : Inv X pins σ (upd H s.heap.objs.size (.lst [])) { s with heap := s.heap.push { cls := .type "list", dict := none, data := .seq ([] : List Value).toArray } } := I.lnew (t' := s.toks) .nil (Nat.zero_le _)
  have hn0 : H s.heap.objs.size = none := I.hok.fresh (Nat.le_refl _)
  generalize e3 : ({ s with heap := s.heap.push { cls := .type "list", dict := none, data := .seq ([] : List Value).toArray } } : Shared) = s3 at I3 ⊢
  have k3 : ∀ b o, s.heap.get? b = some o → s3.heap.get? b = some o := fun b o e => by rw [← e3]; exact Heap.get?_push_of_some _ e
  have hne : ∀ b ∈ fp, b ≠ s.heap.objs.size := fun b hb => by
    obtain ⟨o, e, _⟩ := T.obj _ _ st b hb
    exact Nat.ne_of_lt (Heap.lt_size e)
  have hf3 : ∀ b ∈ fp, FpOk X pins (upd H s.heap.objs.size (.lst [])) b := fun b hb => ⟨by rw [zbc (hne b hb)]; exact (hf b hb).1, (hf b hb).2⟩
  have st3 : tn 0 s3.heap := T.keep _ _ _ st fun b _ o e => k3 b o e
  refine zacx fun h' keep ns cells apart => ?_
  have I4 := zaij c I3 hf3 (T.obj _ _ st3) keep ns cells apart
  have st4 : tn 0 h' := T.keep _ _ _ st3 fun b _ o e => keep b o e
  obtain ⟨hg, ht, hm⟩ := hb (cellsFrom (s3.heap.objs.size + 1) scope.names [] ++ clos X.env.cells scope.names []) s3.heap.objs.size s3 (upd H s.heap.objs.size (.lst [])) fp s.heap.objs.size
  have hf4 : ∀ b ∈ fp, FpOk (cxComp X scope N' own (cellsFrom (s3.heap.objs.size + 1) scope.names [] ++ clos X.env.cells scope.names []) s3.heap.objs.size s3 (upd H s.heap.objs.size (.lst [])) fp) [] (upd H s.heap.objs.size (.lst [])) b := fun b hb =>
    ⟨(hf3 b hb).1, (I4.ok.exf b hb).1, I4.ok.exfs b hb, .inl hb, (I4.ok.exf b hb).2, fun p hp => absurd (show p ∈ ([] : List (Addr × Obj)) from hp) (by simp)⟩
  have loop : codeAny (model X.prog X.w) X.A (.compLoop (.ListComp elt0 (⟨target, iter, ifs, 0⟩ :: rest) scope cpos) 0 (.ref it) (.ref s.heap.objs.size) (compEnvC scope (cellsFrom (s3.heap.objs.size + 1) scope.names [] ++ clos X.env.cells scope.names []) s3.heap.objs.size X.env)) (RR (.ref s.heap.objs.size) s3.heap.objs.size) { s3 with heap := h' } := by
    refine codeAny_mono (zqc (X := cxComp X scope N' own (cellsFrom (s3.heap.objs.size + 1) scope.names [] ++ clos X.env.cells scope.names []) s3.heap.objs.size s3 (upd H s.heap.objs.size (.lst [])) fp) (pins := []) rfl hc (eq _ _ _) T hg ht hm I4 st4 hf4 (h _ hn0)) fun r s5 hr => ?_
    obtain ⟨rfl, σ5, H5, I5, q5⟩ := hr
    obtain ⟨m, hn, _⟩ := id I5.loc
    have u5 : Un (frs X.stack) fp (upd H s.heap.objs.size (.lst [])) H5 s3.heap s5.heap := I5.base
    have hok5 : HOk X.prog X.w H5 s5.heap := I5.hok
    have os5 : s5.os = s3.os := I5.os
    have bare5 := I5.bare
    have free5 : H5 s3.heap.objs.size = none := I5.free
    have hn : s5.heap.Ns s3.heap.objs.size m := hn
    clear I5
    obtain ⟨hh, gg, dd, tk, os'⟩ := s5
    obtain rfl : os' = s3.os := os5
    have I6 : Inv X pins σ H5 { s3 with heap := hh, gens := gg, drawn := dd, toks := tk } := I3.call (ch := fp) u5 hok5 bare5 fun b hb => ⟨(hf3 b hb).2.2.2.1, (hf3 b hb).2.1, (hf3 b hb).2.2.2.2.1, (hf3 b hb).2.2.2.2.2⟩
    exact hRR _ _ m H5 _ I6 hn (I3.fpOk (Nat.le_refl _) free5) q5
  exact codeAny_compStart_list loop (T.self _ 0 _ _ _ st4 loop)
noncomputable def zail (wi : TI) (g : TG) (tt : TT) (tm : Addr → TM) (own : List Str) (fr : List Nat) : TE := fun σ H Q => wi σ H fun J H1 => ∀ p, H1 p = none → zaik J g tt (tm p) (tau own fr σ) (upd H1 p (.lst [])) (fun _ H' => Q (.ref p) H')
theorem zabi {elt0 target iter : Expr} {ifs : List Expr} {rest : List Comprehension} {cpos : Pos} {wi : TI} {g : TG} {tt : TT} {tm : Addr → TM} {emit : Value → Env → Sem Unit} (c : CompOk X scope N' own fr) (hc : X.calm = true)
    (eq : ∀ it acc env, compTurn (.ListComp elt0 (⟨target, iter, ifs, 0⟩ :: rest) scope cpos) 0 it acc env = (do
      standAt iter.pos
      match ← pyNext it with
      | none => pure (.done .next)
      | some v =>
        letOwnedTupleGo target it v
        assign target env v
        let mut ok := true
        for c in ifs do
          if ok then ok ← isTrue c env (eval c env)
        if ok then emit acc env
        again (.compLoop (.ListComp elt0 (⟨target, iter, ifs, 0⟩ :: rest) scope cpos) 0 it acc env)))
    (hi : PI X target iter wi)
    (hb : ∀ (cl : List (Str × Addr)) (C : Addr) (s : Shared) (H : Hp) (fp : List Addr) (p : Addr), PG (cxComp X scope N' own cl C s H fp) target g ∧ PF (cxComp X scope N' own cl C s H fp) ifs tt ∧ PM (cxComp X scope N' own cl C s H fp) (emit (.ref p) (compEnvC scope cl C X.env)) (tm p))
    (hs : ∀ x, foldedSetIterable iter X.env x = pure x := by intro _; rfl) :
    PE X (.ListComp elt0 (⟨target, iter, ifs, 0⟩ :: rest) scope cpos) (zail wi g tt tm own fr) := by
  intro pins s σ H Q I h
  rw [eval_ListComp]
  refine wpAny_comprehension_free (use := none) rfl hs (zmg (zni c I.ok)) c.kind (fun y hy e => (c.names y hy).trans (by rw [e])) ?_
  refine thn (hi pins s σ H _ I h) fun v s1 h1 => thn h1 fun itv s2 h2 => ?_
  obtain ⟨it, fp, tn, J, H2, e, I2, T, st2, f2, q⟩ := h2
  subst e
  refine zsz (Q := Q) c hc eq T hb I2 st2 f2 q fun p C m H' s' I' hn hC q' => ?_
  exact ⟨m, hn, fun h' sb => ⟨.ref p, H', I'.turned (t' := s'.toks) (fun b o hb e => (sb.2 b hb).trans e) hC.1 hC.2.1 hC.2.2.2.1 hC.2.2.2.2.1 hC.2.2.2.2.2, rfl, q'⟩⟩
noncomputable def zamh (wi : TI) (g : TG) (tt : TT) (tm : Addr → TM) (own : List Str) (fr : List Nat) (i : Nat) : TS := fun D σ H => zail wi g tt tm own fr σ H fun v H' => D.nx (σ.set i (some v)) H'
theorem zabj {elt0 target iter : Expr} {ifs : List Expr} {rest : List Comprehension} {cpos spos py : Pos} {wi : TI} {g : TG} {tt : TT} {tm : Addr → TM} {emit : Value → Env → Sem Unit} {i : Nat} {y : Str} (c : CompOk X scope N' own fr) (hc : X.calm = true)
    (eq : ∀ it acc env, compTurn (.ListComp elt0 (⟨target, iter, ifs, 0⟩ :: rest) scope cpos) 0 it acc env = (do
      standAt iter.pos
      match ← pyNext it with
      | none => pure (.done .next)
      | some v =>
        letOwnedTupleGo target it v
        assign target env v
        let mut ok := true
        for c in ifs do
          if ok then ok ← isTrue c env (eval c env)
        if ok then emit acc env
        again (.compLoop (.ListComp elt0 (⟨target, iter, ifs, 0⟩ :: rest) scope cpos) 0 it acc env)))
    (hi : PI X target iter wi)
    (hb : ∀ (cl : List (Str × Addr)) (C : Addr) (s : Shared) (H : Hp) (fp : List Addr) (p : Addr), PG (cxComp X scope N' own cl C s H fp) target g ∧ PF (cxComp X scope N' own cl C s H fp) ifs tt ∧ PM (cxComp X scope N' own cl C s H fp) (emit (.ref p) (compEnvC scope cl C X.env)) (tm p))
    (hsw : swapsWith (.ListComp elt0 (⟨target, iter, ifs, 0⟩ :: rest) scope cpos) (some (.Name y py)) spos.line X.env = pure true)
    (hN : X.N.Nodup) (hy : X.N[i]? = some y) (hl : X.env.scope.names.lookup y = some .local)
    (hs : ∀ x, foldedSetIterable iter X.env x = pure x := by intro _; rfl) :
    PS X (.Assign [.Name y py] (.ListComp elt0 (⟨target, iter, ifs, 0⟩ :: rest) scope cpos) spos) (zamh wi g tt tm own fr i) := by
  intro pins s σ H D I h
  rw [exec_Assign_Name_used _ _ _ _ hsw]
  refine wpAny_bind (wpAny_standAt (wpAny_bind ?_))
  show wpAny _ X.A (do let _ ← comprehension (.ListComp elt0 (⟨target, iter, ifs, 0⟩ :: rest) scope cpos) scope X.env _ (newList []) false (eval iter X.env) (some (assign (.Name y py) X.env))) _ _ s
  refine wpAny_bind (thn (wpAny_comprehension_free (use := some (assign (.Name y py) X.env)) (Q := fun _ s' => SP X pins D .next s') rfl hs (zmg (zni c I.ok)) c.kind (fun y hy e => (c.names y hy).trans (by rw [e])) ?_) fun _ s' q => wpAny_pure (wpAny_pure q))
  refine thn (hi pins s σ H _ I h) fun v s1 h1 => thn h1 fun itv s2 h2 => ?_
  obtain ⟨it, fp, tn, J, H2, e, I2, T, st2, f2, q⟩ := h2
  subst e
  refine zsz (Q := fun v H' => D.nx (σ.set i (some v)) H') c hc eq T hb I2 st2 f2 q fun p C m H' s' I' hn hC q' => ?_
  show wpAny _ X.A (assign (.Name y py) X.env (.ref p)) _ _ _
  refine wpAny_assign_Name (zwe I' hN hy (.inl hl) (v := .ref p) rfl (fun s'' I'' ⟨a, sb, ha⟩ => ?_) (.inr hl))
  have hCa : C ≠ a := by
    rcases ha with rfl | ha
    · exact hC.2.1
    · exact Ne.symm (hC.2.2.2.2.1 y a ha)
  refine ⟨m, hn.sameBut sb hCa, fun h' sb' => ⟨σ.set i (some (.ref p)), H', I''.turned (t' := s''.toks) (fun b o hb e => (sb'.2 b hb).trans e) hC.1 hC.2.1 hC.2.2.2.1 hC.2.2.2.2.1 hC.2.2.2.2.2, q'⟩⟩
end
end L2
namespace L2
open PySem PySem.Spec PyProof.Rows
section
variable {X : Cx}
section
variable {scope : Scope} {N' own : List Str} {fr : List Nat} {elt target iter : Expr} {ifs : List Expr} {cpos : Pos} {wi : TI} {g : TG} {tt : TT} {te : TE}
noncomputable def tComp1 (wi : TI) (g : TG) (tt : TT) (te : TE) (own : List Str) (fr : List Nat) : TE := zail wi g tt (fun p => zzh p te) own fr
theorem zaim (c : CompOk X scope N' own fr) (hc : X.calm = true) (hi : PI X target iter wi)
    (hb : ∀ (cl : List (Str × Addr)) (C : Addr) (s : Shared) (H : Hp) (fp : List Addr), PG (cxComp X scope N' own cl C s H fp) target g ∧ PF (cxComp X scope N' own cl C s H fp) ifs tt ∧ PE (cxComp X scope N' own cl C s H fp) elt te)
    (hs : ∀ x, foldedSetIterable iter X.env x = pure x := by intro _; rfl) : PE X (.ListComp elt [⟨target, iter, ifs, 0⟩] scope cpos) (tComp1 wi g tt te own fr) :=
  zabi (emit := fun acc env => do let _ ← call (.builtin "list.append") [acc, ← eval elt env]) c hc (fun _ _ _ => rfl) hi
    (fun cl C s H fp p => ⟨(hb cl C s H fp).1, (hb cl C s H fp).2.1, zzi (hb cl C s H fp).2.2⟩) hs
noncomputable def tAsgC1 (wi : TI) (g : TG) (tt : TT) (te : TE) (own : List Str) (fr : List Nat) (i : Nat) : TS := zamh wi g tt (fun p => zzh p te) own fr i
theorem zain {spos py : Pos} {i : Nat} {y : Str} (c : CompOk X scope N' own fr) (hc : X.calm = true) (hi : PI X target iter wi)
    (hb : ∀ (cl : List (Str × Addr)) (C : Addr) (s : Shared) (H : Hp) (fp : List Addr), PG (cxComp X scope N' own cl C s H fp) target g ∧ PF (cxComp X scope N' own cl C s H fp) ifs tt ∧ PE (cxComp X scope N' own cl C s H fp) elt te)
    (hsw : swapsWith (.ListComp elt [⟨target, iter, ifs, 0⟩] scope cpos) (some (.Name y py)) spos.line X.env = pure true)
    (hN : X.N.Nodup) (hy : X.N[i]? = some y) (hl : X.env.scope.names.lookup y = some .local)
    (hs : ∀ x, foldedSetIterable iter X.env x = pure x := by intro _; rfl) : PS X (.Assign [.Name y py] (.ListComp elt [⟨target, iter, ifs, 0⟩] scope cpos) spos) (tAsgC1 wi g tt te own fr i) :=
  zabj (emit := fun acc env => do let _ ← call (.builtin "list.append") [acc, ← eval elt env]) c hc (fun _ _ _ => rfl) hi
    (fun cl C s H fp p => ⟨(hb cl C s H fp).1, (hb cl C s H fp).2.1, zzi (hb cl C s H fp).2.2⟩) hsw hN hy hl hs
end
noncomputable def zart : R2 := fun x y H Q => ∃ z n, x = .str z ∧ y = .int n ∧ z.length ≤ 1000 ∧ -1000 ≤ n ∧ n ≤ 1000 ∧ Q (.str (Txt.mul z n)) H
theorem zami : OpR X (binaryOp .Mult) zart := by
  intro pins s σ H x y v u Q I rx ry h
  obtain ⟨z, n, rfl, rfl, h1, h2, h3, q⟩ := h
  obtain ⟨t, rfl⟩ := rx
  obtain ⟨t', rfl⟩ := ry
  exact SB.mul (mulOk_of 1000 1000 h1 (by omega) (by omega) (by decide) (by decide)) fun t' k => ⟨.str (Txt.mul z n), H, I.tok _, ⟨_, rfl⟩, q⟩
noncomputable def rSlS : V → Option Int → Option Int → Hp → VK → Prop := fun x lo hi H Q => ∃ z, x = .str z ∧ z.length ≤ sizeLine ∧ Q (.str (Txt.slice z lo hi)) H
theorem zapg : SlR X rSlS := by
  intro pins s σ H x v vl vu lo hi sl Q I rx hs pl pu h
  obtain ⟨z, rfl, hz, q⟩ := h
  obtain ⟨t, rfl⟩ := rx
  refine ⟨"str", _, F.slot_str_getitem.lookup, typeIs_str _ _ _, ?_⟩
  have fin : ∀ t' k, EP X pins σ Q (.str (Txt.slice z lo hi) t') { s with toks := k } := fun t' k => ⟨.str (Txt.slice z lo hi), H, I.tok _, ⟨_, rfl⟩, q⟩
  have fz : (Txt.slice z lo hi).length ≤ sizeLine := Nat.le_trans (Txt.slice_le z _ _) hz
  cases pl with
  | none => cases pu with
    | none => exact wpAny_getItem_str_slice (l := none) (u := none) (st := none) hs rfl (post_val_or_str ⟨fz, fin⟩)
    | int j tj => exact wpAny_getItem_str_slice (l := none) (u := some (j, tj)) (st := none) hs rfl (post_val_or_str ⟨fz, fin⟩)
  | int i ti => cases pu with
    | none => exact wpAny_getItem_str_slice (l := some (i, ti)) (u := none) (st := none) hs rfl (post_val_or_str ⟨fz, fin⟩)
    | int j tj => exact wpAny_getItem_str_slice (l := some (i, ti)) (u := some (j, tj)) (st := none) hs rfl (post_val_or_str ⟨fz, fin⟩)
noncomputable def zaev : V → List V → Hp → VK → Prop := fun x vs H Q => ∃ d o kvs more, x = .ref d ∧ vs = [.ref o] ∧ d ≠ o ∧ H d = some (.dK kvs) ∧ H o = some (.dK more) ∧ kvs.length + more.length ≤ sizeLine ∧ Q .non (upd H d (.dK (zme kvs more)))
theorem zwr : MtM X "dict.update" zaev := by
  intro pins s σ H x vs v us Q I rx rv h
  obtain ⟨d, o, kvs, more, rfl, rfl, hne, hd, ho, hz, q⟩ := h
  cases rx
  obtain ⟨u, rfl, ru⟩ := rv.one
  cases ru
  obtain ⟨z1, s1, vs1, rel1, dd1⟩ := zaie I.hok hd
  obtain ⟨z2, s2, vs2, rel2, dd2⟩ := zaie I.hok ho
  refine call_meetsIn F.slot_dict_update dd1.typeIs F.entry_dict_update (F.args_dict_update_2 _ _) (meets_dict_update (zef X.prog X.w) d o hne s2) ⟨vs1, vs2, dd1, dd2, ?_, fun h' h1 h2 sb => ?_⟩
  · rw [← rel1.length, ← rel2.length]; exact hz
  · have he : ∃ q, h'.get? d = some q := by obtain ⟨ob, _, _, e, _⟩ := h1; exact ⟨ob, e⟩
    refine ⟨.non, _, zuq (t' := s.toks) I (by rw [hd]; trivial) sb he (zaeq (Nat.le_trans (zjf more kvs) hz) s1 (rel2.merge rel1) h1), rfl, q⟩
theorem zaio {id : String} (hid : id = "isinstance") : CallR X (.builtin id) (fun xs H Q => ∃ x n t b, xs = [x, .ty n] ∧ TyOf X.K H x t ∧ PySem.W.kitOne X.K t (.type n) = some b ∧ Q (.bl b) H) := by
  subst hid
  intro pins s σ H xs us Q I r h
  obtain ⟨x, n, t, b, rfl, ty, e, q⟩ := h
  obtain ⟨u, w', rfl, rx, ry⟩ := zals r
  cases ry
  exact zaeg I rx ty e fun tk => ⟨.bl b, H, I.tok _, rfl, q⟩
end
end L2
namespace L2
open PySem PySem.Spec PyProof.Rows
section
variable {X : Cx}
end
end L2
namespace L2
open PySem PySem.Spec PyProof.Rows
mutual
noncomputable def Rep (K : PySem.W.Frag) (H : Hp) : PyData → V → Prop
  | .none, v => v = .non
  | .bool b, v => v = .bl b
  | .int i, v => v = .int i
  | .str x, v => v = .str x
  | .list ds, v => ∃ a xs, v = .ref a ∧ SqL K H a xs ∧ Reps K H ds xs
  | .tuple ds, v => ∃ a xs, v = .ref a ∧ SqT K H a xs ∧ Reps K H ds xs
  | .dict _, _ => False
noncomputable def Reps (K : PySem.W.Frag) (H : Hp) : List PyData → List V → Prop
  | [], xs => xs = []
  | d :: ds, xs => ∃ v vs, xs = v :: vs ∧ Rep K H d v ∧ Reps K H ds vs
end
mutual
theorem zfm {X : Cx} {pins : List (Addr × Obj)} {σ : St} {H : Hp} {s : Shared} (I : Inv X pins σ H s) : ∀ (d : PyData) {v : V} {u : Value}, Rep X.K H d v → RelV v u → ∃ as, Reads s.heap u d as
  | .none, v, u, h, r => by unfold Rep at h; subst h; cases r; exact ⟨_, .none⟩
  | .bool b, v, u, h, r => by unfold Rep at h; subst h; cases r; exact ⟨_, .bool b⟩
  | .int i, v, u, h, r => by unfold Rep at h; subst h; obtain ⟨t, rfl⟩ := r; exact ⟨_, .int i t⟩
  | .str x, v, u, h, r => by unfold Rep at h; subst h; obtain ⟨t, rfl⟩ := r; exact ⟨_, .str x t⟩
  | .list ds, v, u, h, r => by
    unfold Rep at h
    obtain ⟨a, xs, rfl, hq, hr⟩ := h
    cases r
    obtain ⟨its, rv, p, hz⟩ := I.list hq
    obtain ⟨as, q⟩ := znj I ds hr rv
    obtain ⟨o, h1, h2, n, h3⟩ := p.isList
    exact ⟨_, reads_list_at h1 h2 h3 (by simpa using q)⟩
  | .tuple ds, v, u, h, r => by
    unfold Rep at h
    obtain ⟨a, xs, rfl, hq, hr⟩ := h
    cases r
    obtain ⟨its, rv, p, hz⟩ := I.tuple hq
    obtain ⟨as, q⟩ := znj I ds hr rv
    obtain ⟨o, h1, h2, n, h3⟩ := p
    exact ⟨_, reads_tuple_at h1 h2 h3 (by simpa using q)⟩
  | .dict _, _, _, h, _ => by unfold Rep at h; exact h.elim
theorem znj {X : Cx} {pins : List (Addr × Obj)} {σ : St} {H : Hp} {s : Shared} (I : Inv X pins σ H s) : ∀ (ds : List PyData) {vs : List V} {us : List Value}, Reps X.K H ds vs → Vals vs us → ∃ as, ReadsAll s.heap us ds as
  | [], vs, us, h, r => by unfold Reps at h; subst h; cases r; exact ⟨_, .nil⟩
  | d :: ds, vs, us, h, r => by
    unfold Reps at h
    obtain ⟨v, vs', rfl, h1, h2⟩ := h
    cases r with
    | cons r rr =>
      obtain ⟨as, q1⟩ := zfm I d h1 r
      obtain ⟨bs, q2⟩ := znj I ds h2 rr
      exact ⟨_, .cons q1 q2⟩
end
theorem SqT.same {K : PySem.W.Frag} {H H' : Hp} {a : Addr} {xs : List V} (h : Same H H') (q : SqT K H a xs) : SqT K H' a xs := by
  rcases q with (q | ⟨o, q⟩) | q
  · exact .inl (.inl (h _ _ q))
  · exact .inl (.inr ⟨o, h _ _ q⟩)
  · exact .inr q
section
variable {X : Cx}
noncomputable def rEqD (K : PySem.W.Frag) (neg : Bool) : R2 := fun x y H Q => ∃ d e, Rep K H d x ∧ Rep K H e y ∧ SeqAt.shaped d = true ∧ SeqAt.shaped e = true ∧ Q (.bl (if neg then !PyData.eqv d e else PyData.eqv d e)) H
theorem zaph (hu : X.A.units + 64 < cLine) : OpR X (compareOp .Eq) (rEqD X.K false) := by
  intro pins s σ H x y v u Q I rx ry h
  obtain ⟨d, e, hd, he, sd, se, q⟩ := h
  obtain ⟨as, r1⟩ := zfm I d hd rx
  obtain ⟨bs, r2⟩ := zfm I e he ry
  exact eq_dataH r1 r2 sd se hu ⟨.bl (PyData.eqv d e), H, I, rfl, q⟩
theorem zapi (hu : X.A.units + 64 < cLine) : OpR X (compareOp .NotEq) (rEqD X.K true) := by
  intro pins s σ H x y v u Q I rx ry h
  obtain ⟨d, e, hd, he, sd, se, q⟩ := h
  obtain ⟨as, r1⟩ := zfm I d hd rx
  obtain ⟨bs, r2⟩ := zfm I e he ry
  exact ne_dataH r1 r2 sd se hu ⟨.bl (!PyData.eqv d e), H, I, rfl, q⟩
theorem zaew {bs : List Bool} : ∀ {its : List Value}, Vals (bs.map V.bl) its → its = bs.map Value.bool := by
  induction bs with
  | nil => intro its r; cases r; rfl
  | cons b bs ih =>
    intro its r
    cases r with
    | cons r rr => cases r; rw [ih rr]; rfl
theorem zaex (bs : List Bool) : (List.range bs.length).any (fun i => bs.getD i false) = bs.any id := by
  rw [Bool.eq_iff_iff, List.any_eq_true, List.any_eq_true]
  constructor
  · rintro ⟨i, hi, h⟩
    have hi := List.mem_range.mp hi
    rw [List.getD_eq_getElem?_getD, List.getElem?_eq_getElem hi] at h
    exact ⟨_, List.getElem_mem hi, h⟩
  · rintro ⟨b, hb, h⟩
    obtain ⟨i, hi, e⟩ := List.getElem_of_mem hb
    exact ⟨i, List.mem_range.mpr hi, by rw [List.getD_eq_getElem?_getD, List.getElem?_eq_getElem hi, e]; exact h⟩
theorem zaey (bs : List Bool) : (List.range bs.length).all (fun i => bs.getD i false) = bs.all id := by
  rw [Bool.eq_iff_iff, List.all_eq_true, List.all_eq_true]
  constructor
  · intro h b hb
    obtain ⟨i, hi, e⟩ := List.getElem_of_mem hb
    have q := h i (List.mem_range.mpr hi)
    rw [List.getD_eq_getElem?_getD, List.getElem?_eq_getElem hi, e] at q
    exact q
  · intro h i hi
    have hi := List.mem_range.mp hi
    have q := h _ (List.getElem_mem hi)
    rw [List.getD_eq_getElem?_getD, List.getElem?_eq_getElem hi]
    exact q
noncomputable def rAny (K : PySem.W.Frag) (f : List Bool → Bool) : List V → Hp → VK → Prop := fun xs H Q => ∃ p bs, xs = [.ref p] ∧ SqL K H p (bs.map V.bl) ∧ Q (.bl (f bs)) H
theorem zaip (hc : X.calm = true) : CallR X (.builtin "any") (rAny X.K fun bs => bs.any id) := by
  intro pins s σ H xs us Q I r h
  obtain ⟨p, bs, rfl, hq, q⟩ := h
  obtain ⟨u, rfl, ru⟩ := zacv r
  cases ru
  obtain ⟨its, rv, pl, hz⟩ := I.list hq
  cases zaew rv
  have hne : p ≠ s.heap.objs.size := by obtain ⟨o, e, _⟩ := pl.isList; exact Nat.ne_of_lt (Heap.lt_size e)
  refine call_any_walk (wpAny_pyIter_list pl.isList ⟨s.heap.objs.size, _, _, _, _, _, fun i => bs.getD i false, rfl, Walks.list (A := X.A.in1) (show X.A.in1.handled = none from I.ok.hd hc) _ p hne (bs.map Value.bool).toArray, ⟨⟨_, Heap.get?_push_size _ rfl, rfl, rfl⟩, ?_⟩, ?_, ?_⟩)
  · obtain ⟨o, e, z⟩ := pl.isList
    exact ⟨o, Heap.get?_push_of_some _ e, z⟩
  · intro i v s' Q' E' hv hQ
    have hv : (bs.map Value.bool)[i]? = some v := by simpa using hv
    rw [List.getElem?_map] at hv
    cases e : bs[i]? with
    | none => rw [e] at hv; cases hv
    | some b =>
      rw [e] at hv
      cases hv
      have z : bs.getD i false = b := by rw [List.getD_eq_getElem?_getD, e]; rfl
      have hQ : Q' (bs.getD i false) s' := hQ
      rw [z] at hQ
      exact wpAny_truthy_bool hQ
  · intro h' tk hk
    refine ⟨.bl (bs.any id), H, ?_, by rw [← zaex bs]; simp; rfl, q⟩
    exact I.kept (t' := tk) fun b o e => hk b o (by have := Heap.lt_size e; simp; exact Nat.ne_of_lt this) (Heap.get?_push_of_some _ e)
theorem zaiq (hc : X.calm = true) : CallR X (.builtin "all") (rAny X.K fun bs => bs.all id) := by
  intro pins s σ H xs us Q I r h
  obtain ⟨p, bs, rfl, hq, q⟩ := h
  obtain ⟨u, rfl, ru⟩ := zacv r
  cases ru
  obtain ⟨its, rv, pl, hz⟩ := I.list hq
  cases zaew rv
  have hne : p ≠ s.heap.objs.size := by obtain ⟨o, e, _⟩ := pl.isList; exact Nat.ne_of_lt (Heap.lt_size e)
  refine call_all_walk (wpAny_pyIter_list pl.isList ⟨s.heap.objs.size, _, _, _, _, _, fun i => bs.getD i false, rfl, Walks.list (A := X.A.in1) (show X.A.in1.handled = none from I.ok.hd hc) _ p hne (bs.map Value.bool).toArray, ⟨⟨_, Heap.get?_push_size _ rfl, rfl, rfl⟩, ?_⟩, ?_, ?_⟩)
  · obtain ⟨o, e, z⟩ := pl.isList
    exact ⟨o, Heap.get?_push_of_some _ e, z⟩
  · intro i v s' Q' E' hv hQ
    have hv : (bs.map Value.bool)[i]? = some v := by simpa using hv
    rw [List.getElem?_map] at hv
    cases e : bs[i]? with
    | none => rw [e] at hv; cases hv
    | some b =>
      rw [e] at hv
      cases hv
      have z : bs.getD i false = b := by rw [List.getD_eq_getElem?_getD, e]; rfl
      have hQ : Q' (bs.getD i false) s' := hQ
      rw [z] at hQ
      exact wpAny_truthy_bool hQ
  · intro h' tk hk
    refine ⟨.bl (bs.all id), H, ?_, by rw [← zaey bs]; simp; rfl, q⟩
    exact I.kept (t' := tk) fun b o e => hk b o (by have := Heap.lt_size e; simp; exact Nat.ne_of_lt this) (Heap.get?_push_of_some _ e)
end
end L2
namespace L2
open PySem PySem.Spec PyProof.Rows
noncomputable def zaez (o : Option NameKind) : Bool := o == some .cell || o == some .free
noncomputable def zafa (sc : Scope) (N : List Str) (scope : Scope) (N' own : List Str) (fr : List Nat) : Bool :=
  (scope.kind == .function) && (scope.names.all fun y => scope.names.lookup y.1 == some y.2) && (scope.names.all fun y => !(y.2 == .free) || zaez (sc.names.lookup y.1)) &&
  (N' == own ++ fr.map fun j => N.getD j Str.empty) && (fr.all fun j => decide (j < N.length) && (scope.names.lookup (N.getD j Str.empty) == some .free)) &&
  (own.all fun x => scope.names.lookup x == some .local || scope.names.lookup x == some .cell)
section
variable {X : Cx}
theorem zbl {scope : Scope} {N' own : List Str} {fr : List Nat} (h : zafa X.env.scope X.N scope N' own fr = true) : CompOk X scope N' own fr := by
  unfold zafa at h
  simp only [Bool.and_eq_true] at h
  obtain ⟨⟨⟨⟨⟨h1, h2⟩, h3⟩, h4⟩, h5⟩, h6⟩ := h
  refine ⟨eq_of_beq h1, fun y hy => eq_of_beq (List.all_eq_true.mp h2 y hy), fun y hy e => ?_, eq_of_beq h4, fun j hj => ?_, fun x hx => ?_⟩
  · have q := List.all_eq_true.mp h3 y hy
    rw [e] at q
    have q : zaez (X.env.scope.names.lookup y.1) = true := by simpa using q
    unfold zaez at q
    rcases Bool.or_eq_true_iff.mp q with z | z
    · exact .inl (eq_of_beq z)
    · exact .inr (eq_of_beq z)
  · have q := List.all_eq_true.mp h5 j hj
    rw [Bool.and_eq_true] at q
    exact ⟨of_decide_eq_true q.1, eq_of_beq q.2⟩
  · have q := List.all_eq_true.mp h6 x hx
    rcases Bool.or_eq_true_iff.mp q with z | z
    · exact .inl (eq_of_beq z)
    · exact .inr (eq_of_beq z)
noncomputable def zair (K : PySem.W.Frag) : R2 := fun x y H Q => match x, y with
  | .int i, .int j => Q (.int (i + j)) H
  | .str a, .str b => a.length + b.length ≤ sizeLine ∧ Q (.str (a ++ b)) H
  | .ref _, .ref _ => rCat x y H Q ∨ zaow K x y H Q
  | _, _ => False
theorem zafb : OpR X (binaryOp .Add) (zair X.K) := by
  intro pins s σ H x y v u Q I rx ry h
  cases x <;> cases y <;> first
    | exact h.elim
    | exact zaon pins s σ H _ _ v u Q I rx ry ⟨_, _, rfl, rfl, h⟩
    | exact zacu pins s σ H _ _ v u Q I rx ry ⟨_, _, rfl, rfl, h.1, h.2⟩
    | exact (zapb.or zaly) pins s σ H _ _ v u Q I rx ry h
noncomputable def zapj : R2 := fun x y H Q => match x, y with
  | .int i, .int j => CMul i j ∧ Q (.int (i * j)) H
  | .str z, .int n => z.length ≤ 1000 ∧ -1000 ≤ n ∧ n ≤ 1000 ∧ Q (.str (Txt.mul z n)) H
  | _, _ => False
theorem zqd : OpR X (binaryOp .Mult) zapj := by
  intro pins s σ H x y v u Q I rx ry h
  cases x <;> cases y <;> first
    | exact h.elim
    | exact zaoo pins s σ H _ _ v u Q I rx ry ⟨_, _, rfl, rfl, h.1, h.2⟩
    | exact zami pins s σ H _ _ v u Q I rx ry ⟨_, _, rfl, rfl, h.1, h.2.1, h.2.2.1, h.2.2.2⟩
noncomputable def rIxU (K : PySem.W.Frag) : R2 := fun x y H Q => match x, y with
  | .str z, .int i => z.length ≤ sizeLine ∧ ∃ c, atI z.cps.toList i = some c ∧ Q (.str ⟨#[c]⟩) H
  | .ref p, .int i => ∃ xs v, (SqL K H p xs ∨ SqT K H p xs) ∧ atI xs i = some v ∧ Q v H
  | _, _ => False
theorem ix_U : IxR X (rIxU X.K) := by
  intro value slice pins s σ H x y v u Q I rx ry h hs
  cases x <;> cases y <;> first
    | exact h.elim
    | (obtain ⟨h1, c, h2, h3⟩ := h; exact zaoy value slice pins s σ H _ _ v u Q I rx ry ⟨_, _, c, rfl, rfl, h1, h2, h3⟩ hs)
    | (obtain ⟨xs, w, h1, h2, h3⟩ := h
       rcases h1 with h1 | h1
       · exact zalz value slice pins s σ H _ _ v u Q I rx ry ⟨_, xs, _, w, rfl, rfl, h1, h2, h3⟩ hs
       · exact zaox value slice pins s σ H _ _ v u Q I rx ry ⟨_, xs, _, w, rfl, rfl, h1, h2, h3⟩ hs)
noncomputable def rSlU (K : PySem.W.Frag) : V → Option Int → Option Int → Hp → VK → Prop := fun x lo hi H Q => match x with
  | .str z => z.length ≤ sizeLine ∧ Q (.str (Txt.slice z lo hi)) H
  | .ref _ => rSlL K x lo hi H Q
  | _ => False
theorem sl_U : SlR X (rSlU X.K) := by
  intro pins s σ H x v vl vu lo hi sl Q I rx hs pl pu h
  cases x <;> first
    | exact h.elim
    | exact zapg pins s σ H _ v vl vu lo hi sl Q I rx hs pl pu ⟨_, rfl, h.1, h.2⟩
    | exact zama pins s σ H _ v vl vu lo hi sl Q I rx hs pl pu h
noncomputable def Dn (P : Program) (w : World) (K : PySem.W.Frag) (mg : Str → Option Value) (base : Heap) (x : Str) (ps : List Str) (k : Nat) (sp : Sp) : Prop :=
  ∃ f fd, FnOk P w K mg base CX0 k f fd ps sp ∧ mg x = some (.ref f) ∧ PySem.W.keepIn K (.ref f) = true ∧ zzc K fd ps []
theorem zaru {x : Str} {p pos : Pos} {e : Expr} {es : List Expr} {t : TA} {ps : List Str} {k : Nat} {sp : Sp} (D : Dn X.prog X.w X.K X.mg X.base x ps k sp) (hr : Room k X.A) (hg : Gl X x) (ha : PA X (e :: es) t)
    (hdb : (x == ("__debug__" : Str)) = false := by decide) (he : starEach (e :: es) X.env = (false, eval e X.env) :: starEach es X.env := by rfl) (hpl : (backTo pos (starEach es X.env)).any (·.1) = false := by rfl) :
    PE X (.Call (.Name x p) (e :: es) [] pos) (tCall sp [] E0 t) := by
  obtain ⟨f, fd, F, hm, hk, hb⟩ := D
  exact zalv F hr hg hm hk hb .nil zars ha hdb he hpl
end
end L2
namespace L2
open PySem PySem.Spec PyProof.Rows
theorem Same.upd {H H' : Hp} {p : Addr} {o : HO} (h : Same H H') (hp : H p = none) : Same H (upd H' p o) := fun b u e => by rw [zbc (zbp e hp)]; exact h b u e
theorem Same.new {H : Hp} {p : Addr} {o : HO} (hp : H p = none) : Same H (L2.upd H p o) := (Same.refl H).upd hp
end L2
namespace Bc
open PySem L2
noncomputable abbrev Web := List (Str × List Str)
noncomputable def nm (W : Web) : List Str := W.map (·.1)
structure WebOk (W : Web) : Prop where
  nd : (nm W).Nodup
  el : ∀ i n es, W[i]? = some (n, es) → ∀ e ∈ es, e ∈ nm (W.take i)
  few : ∀ p ∈ W, p.2.length ≤ 4
  len : W.length ≤ 12
theorem zim {α : Type} [DecidableEq α] : ∀ (l m : List α), l.Nodup → (∀ x ∈ l, x ∈ m) → l.length ≤ m.length
  | [], _, _, _ => Nat.zero_le _
  | a :: l, m, h, s => by
    obtain ⟨h1, h2⟩ := List.nodup_cons.mp h
    have ha := s a List.mem_cons_self
    have q := zim l (m.erase a) h2 fun x hx => (List.mem_erase_of_ne (fun (z : x = a) => h1 (by rw [← z]; exact hx))).mpr (s x (List.mem_cons_of_mem _ hx))
    rw [List.length_erase_of_mem ha] at q
    have := List.length_pos_of_mem ha
    rw [List.length_cons]
    omega
section
variable {κ : Type} [DecidableEq κ]
end
theorem zqe {W : Web} (h : WebOk W) : (nm W).length ≤ 12 := by unfold nm; rw [List.length_map]; exact h.len
end Bc
namespace L2
open PySem PySem.Spec PyProof.Rows
section
variable {X : Cx} {K : PySem.W.Frag} (hK : X.K = K)
include hK
theorem zamj {es : List Expr} {k : Nat} {t : TGs} {n : Nat} {pos : Pos} (hc : X.calm = true) (h : PGs X es t)
    (hn : (assignEach es X.env).length = n := by rfl) (hst : (assignEach es X.env).findIdx? (·.1) = none := by rfl) : PG X (.Tuple es k pos) (gTup K n t) := by subst hK; exact zaoj hc h hn hst
theorem zdp : IxR X (rIxU K) := by subst hK; exact ix_U
theorem zais : SlR X (rSlU K) := by subst hK; exact sl_U
theorem zee : OpR X (binaryOp .Add) (zair K) := by subst hK; exact zafb
theorem zakv : OpR X (compareOp .In) (rIn K false) := by subst hK; exact zael
theorem zmh : OpR X (compareOp .NotIn) (rIn K true) := by subst hK; exact zwl
theorem zfn : CallR X (.builtin "len") (fun xs H Q => ∃ x n, xs = [x] ∧ LenV K x H n ∧ Q (.int n) H) := by subst hK; exact zahx
theorem zws (hc : X.calm = true) : CallR X (.builtin "any") (rAny K fun bs => bs.any id) := by subst hK; exact zaip hc
theorem zkd (hc : X.calm = true) : CallR X (.builtin "all") (rAny K fun bs => bs.all id) := by subst hK; exact zaiq hc
theorem zfo : CallR X (.builtin "isinstance") (fun xs H Q => ∃ x n t b, xs = [x, .ty n] ∧ TyOf K H x t ∧ PySem.W.kitOne K t (.type n) = some b ∧ Q (.bl b) H) := by subst hK; exact zaio rfl
theorem zla : CallR X (.type "list") (fun xs H Q => ∃ p ys, xs = [.ref p] ∧ (SqL K H p ys ∨ SqT K H p ys) ∧ ∀ l, H l = none → Q (.ref l) (upd H l (.lst ys))) := by subst hK; exact zwm
theorem zapk {T : String} {name : Str} {id : String} {r : V → List V → Hp → VK → Prop} {o e : Expr} {es : List Expr} {to : TE} {t : TA} {apos cpos : Pos} (pa : PlainAttrs T) (slot : Slot T name id) (hty : typeOf (.builtin id) = pure (.type "method_descriptor")) (hm : MtR X id r) (ho : PE X o to) (ha : PA X (e :: es) t)
    (hbase : attributeBase o name X.env (eval o X.env) = eval o X.env := by rfl)
    (hfew : ((backTo cpos (starEach (e :: es) X.env)).all (fun x => !x.1) && (backToKw cpos (keywordEach [] X.env)).all (fun x => x.1.isSome)
      && decide ((e :: es).length + ([] : List Keyword).length + (if ([] : List Keyword).isEmpty then 0 else 1) < 30)) = true := by rfl)
    (hline : (apos.endLine == cpos.line) = true := by rfl) (hs : starEach (e :: es) X.env = (false, eval e X.env) :: starEach es X.env := by rfl) (hplain : (backTo cpos (starEach es X.env)).any (·.1) = false := by rfl) :
    PE X (.Call (.Attribute o name apos) (e :: es) [] cpos) (tBM K T r to t) := by subst hK; exact zarq pa slot hty hm ho ha hbase hfew hline hs hplain
end
end L2
namespace L2
open PySem PySem.Spec PyProof.Rows
noncomputable def keyD : PyData → Option Key
  | .int i => some (Sum.inl i)
  | .str s => some (Sum.inr s)
  | _ => none
mutual
noncomputable def Rp (H : Hp) : PyData → V → Prop
  | .none, v => v = .non
  | .bool b, v => v = .bl b
  | .int i, v => v = .int i
  | .str x, v => v = .str x
  | .list ds, v => ∃ a xs, v = .ref a ∧ H a = some (.lst xs) ∧ Rps H ds xs
  | .tuple ds, v => ∃ a xs, v = .ref a ∧ H a = some (.tup xs) ∧ Rps H ds xs
  | .dict kvs, v => ∃ a ps, v = .ref a ∧ H a = some (.dK ps) ∧ Rpd H kvs ps
noncomputable def Rps (H : Hp) : List PyData → List V → Prop
  | [], xs => xs = []
  | d :: ds, xs => ∃ v vs, xs = v :: vs ∧ Rp H d v ∧ Rps H ds vs
noncomputable def Rpd (H : Hp) : List (PyData × PyData) → List (Key × V) → Prop
  | [], ps => ps = []
  | (k, d) :: r, ps => ∃ k' v vs, ps = (k', v) :: vs ∧ keyD k = some k' ∧ Rp H d v ∧ Rpd H r vs
end
mutual
theorem Rp.same {H H' : Hp} (h : Same H H') : ∀ (d : PyData) {v : V}, Rp H d v → Rp H' d v
  | .none, v, q => by unfold Rp at q ⊢; exact q
  | .bool b, v, q => by unfold Rp at q ⊢; exact q
  | .int i, v, q => by unfold Rp at q ⊢; exact q
  | .str x, v, q => by unfold Rp at q ⊢; exact q
  | .list ds, v, q => by
    unfold Rp at q ⊢
    obtain ⟨a, xs, e, hq, hr⟩ := q
    exact ⟨a, xs, e, h _ _ hq, Rps.same h ds hr⟩
  | .tuple ds, v, q => by
    unfold Rp at q ⊢
    obtain ⟨a, xs, e, hq, hr⟩ := q
    exact ⟨a, xs, e, h _ _ hq, Rps.same h ds hr⟩
  | .dict kvs, v, q => by
    unfold Rp at q ⊢
    obtain ⟨a, xs, e, hq, hr⟩ := q
    exact ⟨a, xs, e, h _ _ hq, Rpd.same h kvs hr⟩
theorem Rps.same {H H' : Hp} (h : Same H H') : ∀ (ds : List PyData) {vs : List V}, Rps H ds vs → Rps H' ds vs
  | [], vs, q => by unfold Rps at q ⊢; exact q
  | d :: ds, vs, q => by
    unfold Rps at q ⊢
    obtain ⟨v, vs', e, h1, h2⟩ := q
    exact ⟨v, vs', e, Rp.same h d h1, Rps.same h ds h2⟩
theorem Rpd.same {H H' : Hp} (h : Same H H') : ∀ (ds : List (PyData × PyData)) {vs : List (Key × V)}, Rpd H ds vs → Rpd H' ds vs
  | [], vs, q => by unfold Rpd at q ⊢; exact q
  | (k, d) :: ds, vs, q => by
    unfold Rpd at q ⊢
    obtain ⟨k', v, vs', e, h0, h1, h2⟩ := q
    exact ⟨k', v, vs', e, h0, Rp.same h d h1, Rpd.same h ds h2⟩
end
theorem zec {H : Hp} : ∀ {ds : List PyData} {xs : List V}, Rps H ds xs ↔ Paired (Rp H) ds xs
  | [], xs => by
    constructor
    · intro h; unfold Rps at h; subst h; exact .nil
    · intro h; cases h; unfold Rps; rfl
  | d :: ds, xs => by
    constructor
    · intro h
      unfold Rps at h
      obtain ⟨v, vs, rfl, h1, h2⟩ := h
      exact .cons h1 (zec.mp h2)
    · intro h
      cases h with
      | cons h1 h2 => unfold Rps; exact ⟨_, _, rfl, h1, zec.mpr h2⟩
theorem Rps.length {H : Hp} {ds : List PyData} {xs : List V} (h : Rps H ds xs) : ds.length = xs.length := (zec.mp h).length
theorem zey {H : Hp} {ds : List PyData} {v : V} (h : Rp H (.list ds) v) : ∃ a xs, v = .ref a ∧ H a = some (.lst xs) ∧ Rps H ds xs := by unfold Rp at h; exact h
theorem zdv {H : Hp} {ds : List PyData} {v : V} (h : Rp H (.tuple ds) v) : ∃ a xs, v = .ref a ∧ H a = some (.tup xs) ∧ Rps H ds xs := by unfold Rp at h; exact h
theorem zqf {H : Hp} {ds : List (PyData × PyData)} {v : V} (h : Rp H (.dict ds) v) : ∃ a xs, v = .ref a ∧ H a = some (.dK xs) ∧ Rpd H ds xs := by unfold Rp at h; exact h
theorem zdr {H : Hp} {i : Int} {v : V} (h : Rp H (.int i) v) : v = .int i := by unfold Rp at h; exact h
theorem zlj {H : Hp} {i : Str} {v : V} (h : Rp H (.str i) v) : v = .str i := by unfold Rp at h; exact h
theorem zke {H : Hp} {i : Bool} {v : V} (h : Rp H (.bool i) v) : v = .bl i := by unfold Rp at h; exact h
theorem zafc {H : Hp} {v : V} (h : Rp H .none v) : v = .non := by unfold Rp at h; exact h
theorem zag {H : Hp} {i : Int} : Rp H (.int i) (.int i) := by unfold Rp; rfl
theorem zbs {H : Hp} {i : Str} : Rp H (.str i) (.str i) := by unfold Rp; rfl
theorem zbu {H : Hp} {i : Bool} : Rp H (.bool i) (.bl i) := by unfold Rp; rfl
theorem zta {H : Hp} : Rp H .none .non := by unfold Rp; rfl
theorem zfd {H : Hp} {ds : List PyData} {a : Addr} {xs : List V} (h : H a = some (.lst xs)) (r : Rps H ds xs) : Rp H (.list ds) (.ref a) := by unfold Rp; exact ⟨a, xs, rfl, h, r⟩
theorem zzj {H : Hp} {ds : List PyData} {a : Addr} {xs : List V} (h : H a = some (.tup xs)) (r : Rps H ds xs) : Rp H (.tuple ds) (.ref a) := by unfold Rp; exact ⟨a, xs, rfl, h, r⟩
theorem znk {H : Hp} {ds : List (PyData × PyData)} {a : Addr} {xs : List (Key × V)} (h : H a = some (.dK xs)) (r : Rpd H ds xs) : Rp H (.dict ds) (.ref a) := by unfold Rp; exact ⟨a, xs, rfl, h, r⟩
theorem zde {H : Hp} : Rps H [] [] := by unfold Rps; rfl
theorem znl {H : Hp} : Rpd H [] [] := by unfold Rpd; rfl
theorem zdw {H : Hp} {d : PyData} {ds : List PyData} {v : V} {vs : List V} (h : Rp H d v) (r : Rps H ds vs) : Rps H (d :: ds) (v :: vs) := by
  show Rps H (d :: ds) _
  unfold Rps; exact ⟨v, vs, rfl, h, r⟩
theorem Rps.append {H : Hp} {ds es : List PyData} {vs ws : List V} (h : Rps H ds vs) (r : Rps H es ws) : Rps H (ds ++ es) (vs ++ ws) := by
  replace h := zec.mp h
  refine zec.mpr ?_
  induction h with
  | nil => exact zec.mp r
  | cons h _ ih => exact .cons h ih
theorem Rps.get2 {H : Hp} {ds : List PyData} {vs : List V} (h : Rps H ds vs) {i : Nat} {d : PyData} (e : ds[i]? = some d) : ∃ v, vs[i]? = some v ∧ Rp H d v := by
  replace h := zec.mp h
  induction h generalizing i with
  | nil => simp at e
  | cons h _ ih =>
    cases i with
    | zero => simp at e; subst e; exact ⟨_, rfl, h⟩
    | succ i => simpa using ih (by simpa using e)
open Classical in
noncomputable def Offs (A : Addr → Prop) (H : Hp) : Hp := fun b => if A b then none else H b
theorem Offs.get {A : Addr → Prop} {H : Hp} {b : Addr} (h : ¬ A b) : Offs A H b = H b := if_neg h
theorem Offs.out {A : Addr → Prop} {H : Hp} {b : Addr} (h : A b) : Offs A H b = none := if_pos h
theorem Offs.of {A : Addr → Prop} {H : Hp} {b : Addr} {o : HO} (h : Offs A H b = some o) : ¬ A b ∧ H b = some o := by
  by_cases hb : A b
  · rw [Offs.out hb] at h; cases h
  · rw [Offs.get hb] at h; exact ⟨hb, h⟩
theorem Offs.mono {A B : Addr → Prop} {H H' : Hp} (s : Same H H') (h : ∀ b o, H b = some o → ¬ A b → ¬ B b) : Same (Offs A H) (Offs B H') := fun b o e => by
  obtain ⟨h1, h2⟩ := Offs.of e
  rw [Offs.get (h b o h2 h1)]
  exact s b o h2
theorem Offs.same (A : Addr → Prop) (H : Hp) : Same (Offs A H) H := fun b o e => (Offs.of e).2
theorem Offs.sub {A B : Addr → Prop} {H : Hp} (h : ∀ b, B b → A b) : Same (Offs A H) (Offs B H) := Offs.mono (Same.refl _) fun b _ _ n z => n (h b z)
theorem Offs.grow {A : Addr → Prop} {H H' : Hp} (s : Same H H') : Same (Offs A H) (Offs A H') := Offs.mono s fun _ _ _ z => z
theorem Offs.upd {A : Addr → Prop} {H : Hp} {a : Addr} {o : HO} (h : A a) : Offs A (upd H a o) = Offs A H := by
  funext b
  by_cases hb : A b
  · rw [Offs.out hb, Offs.out hb]
  · rw [Offs.get hb, Offs.get hb, zbc (fun e => hb (by rw [e]; exact h))]
inductive Sl where
  | no
    | pl (d : PyData)
    | ac (d : PyData)
noncomputable abbrev DEnv := List Sl
noncomputable def own (env : DEnv) (σ : St) (a : Addr) : Prop := ∃ (i : Nat) (d : PyData), env[i]? = some (.ac d) ∧ σ[i]? = some (some (.ref a))
noncomputable def zgs (Ho H : Hp) (a : Addr) : PyData → Prop
  | .list ds => ∃ xs, H a = some (.lst xs) ∧ Rps Ho ds xs
  | .dict kvs => ∃ ps, H a = some (.dK ps) ∧ Rpd Ho kvs ps
  | _ => False
theorem zgs.rp {Ho H H' : Hp} {a : Addr} {d : PyData} (h : zgs Ho H a d) (s : Same Ho H') (e : ∀ o, H a = some o → H' a = some o) : Rp H' d (.ref a) := by
  cases d with
  | list ds =>
    obtain ⟨xs, h1, h2⟩ := h
    exact zfd (e _ h1) (Rps.same s _ h2)
  | dict ds =>
    obtain ⟨xs, h1, h2⟩ := h
    exact znk (e _ h1) (Rpd.same s _ h2)
  | _ => exact h.elim
theorem zgs.same {Ho H Ho' H' : Hp} {a : Addr} {d : PyData} (h : zgs Ho H a d) (s : Same Ho Ho') (e : ∀ o, H a = some o → H' a = some o) : zgs Ho' H' a d := by
  cases d with
  | list ds =>
    obtain ⟨xs, h1, h2⟩ := h
    exact ⟨xs, e _ h1, Rps.same s _ h2⟩
  | dict ds =>
    obtain ⟨xs, h1, h2⟩ := h
    exact ⟨xs, e _ h1, Rpd.same s _ h2⟩
  | _ => exact h.elim
theorem zgs.ex {Ho H : Hp} {a : Addr} {d : PyData} (h : zgs Ho H a d) : ∃ o, H a = some o := by
  cases d with
  | list ds => obtain ⟨xs, h1, h2⟩ := h; exact ⟨_, h1⟩
  | dict ds => obtain ⟨xs, h1, h2⟩ := h; exact ⟨_, h1⟩
  | _ => exact h.elim
structure EnvOk (fx : Addr → Prop) (H0 : Hp) (env : DEnv) (σ : St) (H : Hp) : Prop where
  len : env.length = σ.length
  pl : ∀ (i : Nat) (d : PyData), env[i]? = some (.pl d) → ∃ v, σ[i]? = some (some v) ∧ Rp (Offs (fun a => fx a ∨ own env σ a) H) d v
  ac : ∀ (i : Nat) (d : PyData), env[i]? = some (.ac d) → ∃ a, σ[i]? = some (some (.ref a)) ∧ H0 a = none ∧ ¬ fx a ∧ zgs (Offs (fun a => fx a ∨ own env σ a) H) H a d
  inj : ∀ (i j : Nat) (d e : PyData) (a : Addr), env[i]? = some (.ac d) → env[j]? = some (.ac e) → σ[i]? = some (some (.ref a)) → σ[j]? = some (some (.ref a)) → i = j
  base : Same H0 H
  fxs : ∀ b, fx b → ∃ o, H b = some o
theorem EnvOk.grow {fx fx' : Addr → Prop} {H0 : Hp} {env : DEnv} {σ : St} {H H' : Hp} (h : EnvOk fx H0 env σ H) (s : Same H H') (f : ∀ b o, H b = some o → ¬ fx b → ¬ fx' b) (g : ∀ b, fx' b → ∃ o, H' b = some o) : EnvOk fx' H0 env σ H' := by
  have so : Same (Offs (fun a => fx a ∨ own env σ a) H) (Offs (fun a => fx' a ∨ own env σ a) H') := Offs.mono s fun b o e n => fun z => z.elim (f b o e fun y => n (.inl y)) fun y => n (.inr y)
  refine ⟨h.len, fun i d e => ?_, fun i d e => ?_, h.inj, h.base.trans s, g⟩
  · obtain ⟨v, h1, h2⟩ := h.pl i d e
    exact ⟨v, h1, Rp.same so d h2⟩
  · obtain ⟨a, h1, h2, h3, h4⟩ := h.ac i d e
    obtain ⟨o, ho⟩ := h4.ex
    exact ⟨a, h1, h2, f a o ho h3, h4.same so fun o => s a o⟩
theorem EnvOk.up {fx : Addr → Prop} {H0 : Hp} {env : DEnv} {σ : St} {H H' : Hp} (h : EnvOk fx H0 env σ H) (s : Same H H') : EnvOk fx H0 env σ H' :=
  h.grow s (fun _ _ _ z => z) fun b z => let ⟨o, e⟩ := h.fxs b z; ⟨o, s b o e⟩
structure Val where
  d : PyData
  fr : Bool
  bs : List Nat
noncomputable def lim (fx : Addr → Prop) (env : DEnv) (σ : St) (bs : List Nat) (a : Addr) : Prop := fx a ∨ ∃ (i : Nat) (d : PyData), i ∉ bs ∧ env[i]? = some (.ac d) ∧ σ[i]? = some (some (.ref a))
structure ValOk (A : Addr → Prop) (H H' : Hp) (r : Val) (v : V) : Prop where
  rp : Rp (Offs A H') r.d v
  fr : r.fr = true → ∃ a, v = .ref a ∧ H a = none ∧ zgs (Offs (fun b => A b ∨ b = a) H') H' a r.d
theorem zlv {fx : Addr → Prop} {env : DEnv} {σ : St} {bs cs : List Nat} (h : ∀ i ∈ bs, i ∈ cs) : ∀ a, lim fx env σ cs a → lim fx env σ bs a := by
  rintro a (z | ⟨i, d, h1, h2, h3⟩)
  · exact .inl z
  · exact .inr ⟨i, d, fun q => h1 (h i q), h2, h3⟩
theorem zqg {fx : Addr → Prop} {env : DEnv} {σ : St} {bs : List Nat} : ∀ a, lim fx env σ bs a → fx a ∨ own env σ a := by
  rintro a (z | ⟨i, d, h1, h2, h3⟩)
  · exact .inl z
  · exact .inr ⟨i, d, h2, h3⟩
theorem zamk {fx : Addr → Prop} {env : DEnv} {σ : St} : ∀ a, fx a ∨ own env σ a → lim fx env σ [] a := by
  rintro a (z | ⟨i, d, h2, h3⟩)
  · exact .inl z
  · exact .inr ⟨i, d, by simp, h2, h3⟩
theorem EnvOk.lims {fx : Addr → Prop} {H0 : Hp} {env : DEnv} {σ : St} {H : Hp} (h : EnvOk fx H0 env σ H) (bs : List Nat) : ∀ b, lim fx env σ bs b → ∃ o, H b = some o := by
  rintro b (z | ⟨i, d, h1, h2, h3⟩)
  · exact h.fxs b z
  · obtain ⟨a, g1, g2, g3, g4⟩ := h.ac i d h2
    rw [h3] at g1
    cases g1
    exact g4.ex
theorem ValOk.later {A B : Addr → Prop} {H0 H H' H'' : Hp} {r : Val} {v : V} (h : ValOk A H H' r v) (s0 : Same H0 H) (s : Same H' H'') (hB : ∀ b, B b → A b) : ValOk B H0 H'' r v := by
  refine ⟨Rp.same (Offs.mono s fun b _ _ n z => n (hB b z)) _ h.rp, fun e => ?_⟩
  obtain ⟨a, h1, h2, h3⟩ := h.fr e
  exact ⟨a, h1, s0.free h2, h3.same (Offs.mono s fun b _ _ n z => n (z.elim (fun y => .inl (hB b y)) .inr)) fun o => s a o⟩
noncomputable def zkf : PyData → Bool
  | .list _ => false
  | .tuple _ => false
  | .dict _ => false
  | _ => true
theorem zafd {H H' : Hp} {d : PyData} {v : V} (f : zkf d = true) (h : Rp H d v) : Rp H' d v := by
  cases d <;> first
    | (unfold Rp at h ⊢; exact h)
    | cases f
noncomputable def bsOf (d : PyData) (bs : List Nat) : List Nat := if zkf d = true then [] else bs
theorem znm {fx : Addr → Prop} {env : DEnv} {σ : St} {bs : List Nat} {H : Hp} {d : PyData} {v : V} (h : Rp (Offs (lim fx env σ bs) H) d v) : Rp (Offs (lim fx env σ (bsOf d bs)) H) d v := by
  unfold bsOf
  split
  · rename_i e; exact zafd e h
  · exact h
noncomputable abbrev EF := DEnv → Option Val
noncomputable def SE (te : TE) (f : EF) : Prop := ∀ (fx : Addr → Prop) (H0 : Hp) (env : DEnv) (σ : St) (H : Hp), EnvOk fx H0 env σ H → ∀ r, f env = some r → ∀ Q : VK, (∀ v H', Same H H' → ValOk (lim fx env σ r.bs) H H' r v → Q v H') → te σ H Q
noncomputable abbrev TF := DEnv → Option Bool
noncomputable def ST (tt : TT) (f : TF) : Prop := ∀ (fx : Addr → Prop) (H0 : Hp) (env : DEnv) (σ : St) (H : Hp), EnvOk fx H0 env σ H → ∀ b, f env = some b → ∀ Q : Bool → Hp → Prop, (∀ H', Same H H' → Q b H') → tt σ H Q
noncomputable abbrev AF := DEnv → Option (List Val)
noncomputable def SA (ta : TA) (f : AF) : Prop := ∀ (fx : Addr → Prop) (H0 : Hp) (env : DEnv) (σ : St) (H : Hp), EnvOk fx H0 env σ H → ∀ rs, f env = some rs → ∀ Q : List V → Hp → Prop,
  (∀ vs H', Same H H' → Paired (fun r v => ValOk (lim fx env σ r.bs) H H' r v) rs vs → Q vs H') → ta σ H Q
section
variable {X : Cx}
noncomputable def eVar (i : Nat) : EF := fun env => match env[i]? with
  | some (.pl d) => some ⟨d, false, []⟩
  | some (.ac d) => some ⟨d, false, [i]⟩
  | _ => none
theorem zae (i : Nat) : SE (tVar i) (eVar i) := by
  intro fx H0 env σ H h r hr Q q
  unfold eVar at hr
  cases e : env[i]? with
  | none => rw [e] at hr; cases hr
  | some sl =>
    rw [e] at hr
    cases sl with
    | no => cases hr
    | pl d =>
      cases hr
      obtain ⟨v, h1, h2⟩ := h.pl i d e
      exact ⟨v, h1, q v H (Same.refl _) ⟨Rp.same (Offs.sub zqg) _ h2, fun z => by cases z⟩⟩
    | ac d =>
      cases hr
      obtain ⟨a, h1, h2, h3, h4⟩ := h.ac i d e
      have hna : ¬ lim fx env σ [i] a := by
        rintro (z | ⟨j, d', g1, g2, g3⟩)
        · exact h3 z
        · exact g1 (List.mem_singleton.mpr (h.inj j i d' d a g2 e g3 h1))
      exact ⟨_, h1, q _ H (Same.refl _) ⟨h4.rp (Offs.sub zqg) fun o z => by rw [Offs.get hna]; exact z, fun z => by cases z⟩⟩
noncomputable def eC (d : PyData) : EF := fun _ => some ⟨d, false, []⟩
theorem se_c {d : PyData} {v : V} (h : ∀ H, Rp H d v) : SE (tC v) (eC d) := by
  intro fx H0 env σ H _ r hr Q q
  cases hr
  exact q v H (Same.refl _) ⟨h _, fun z => by cases z⟩
noncomputable abbrev OF := PyData → PyData → Option (PyData × Bool)
noncomputable def SO (r : R2) (f : OF) : Prop := ∀ (A : Addr → Prop) (H : Hp) (x y : V) (dx dy : PyData), (∀ b, A b → ∃ o, H b = some o) → Rp (Offs A H) dx x → Rp (Offs A H) dy y → ∀ d fr, f dx dy = some (d, fr) → ∀ Q : VK,
  (∀ v H', Same H H' → Rp (Offs A H') d v → (fr = true → ∃ a, v = .ref a ∧ H a = none ∧ zgs (Offs (fun b => A b ∨ b = a) H') H' a d) → Q v H') → r x y H Q
noncomputable def eOp (f : OF) (a b : EF) : EF := fun env => (a env).bind fun x => (b env).bind fun y => (f x.d y.d).bind fun z => some ⟨z.1, z.2, bsOf z.1 (x.bs ++ y.bs)⟩
theorem zcs {r : R2} {f : OF} {ta tb : TE} {fa fb : EF} (ho : SO r f) (ha : SE ta fa) (hb : SE tb fb) : SE (tOp r ta tb) (eOp f fa fb) := by
  intro fx H0 env σ H h rr hr Q q
  unfold eOp at hr
  obtain ⟨x, ex, hr⟩ := Option.bind_eq_some_iff.mp hr
  obtain ⟨y, ey, hr⟩ := Option.bind_eq_some_iff.mp hr
  obtain ⟨⟨d, fr⟩, ez, hr⟩ := Option.bind_eq_some_iff.mp hr
  cases hr
  refine ha fx H0 env σ H h x ex _ fun v H1 s1 v1 => hb fx H0 env σ H1 (h.up s1) y ey _ fun u H2 s2 v2 => ?_
  have l1 : ∀ b, lim fx env σ (x.bs ++ y.bs) b → lim fx env σ x.bs b := zlv fun i hi => List.mem_append_left _ hi
  have l2 : ∀ b, lim fx env σ (x.bs ++ y.bs) b → lim fx env σ y.bs b := zlv fun i hi => List.mem_append_right _ hi
  refine ho (lim fx env σ (x.bs ++ y.bs)) H2 v u x.d y.d ((h.up (s1.trans s2)).lims _) (v1.later (Same.refl _) s2 l1).rp (v2.later (Same.refl _) (Same.refl _) l2).rp d fr ez _ fun w H3 s3 rp fr3 => q w H3 ((s1.trans s2).trans s3) ⟨znm rp, fun e => ?_⟩
  obtain ⟨a, g1, g2, g3⟩ := fr3 e
  refine ⟨a, g1, (s1.trans s2).free g2, ?_⟩
  have nf : zkf d = false := by cases d <;> first | rfl | exact g3.elim
  show zgs (Offs (fun b => lim fx env σ (bsOf d (x.bs ++ y.bs)) b ∨ b = a) H3) H3 a d
  rw [show bsOf d (x.bs ++ y.bs) = x.bs ++ y.bs by unfold bsOf; rw [if_neg (by rw [nf]; decide)]]
  exact g3
end
end L2
namespace L2
open PySem PySem.Spec PyProof.Rows
theorem zez {n : Nat} (h : n ≤ 100000) : n ≤ sizeLine := Nat.le_trans h (by decide)
theorem znn {n : Nat} (h : n < 100000) : n < sizeLine := Nat.lt_trans h (by decide)
theorem zfa {A : Addr → Prop} {H : Hp} (hA : ∀ b, A b → ∃ o, H b = some o) {p : Addr} (hp : H p = none) : ¬ A p := fun z => by
  obtain ⟨o, e⟩ := hA p z
  rw [hp] at e; cases e
theorem zqh {A : Addr → Prop} {H : Hp} {p : Addr} {ds : List PyData} {xs : List V} (hp : H p = none) (r : Rps (Offs A H) ds xs) : zgs (Offs (fun b => A b ∨ b = p) (upd H p (.lst xs))) (upd H p (.lst xs)) p (.list ds) := by
  refine ⟨xs, zaw, Rps.same (Offs.mono (Same.new hp) fun b o e n z => ?_) _ r⟩
  rcases z with z | z
  · exact n z
  · rw [z, hp] at e; cases e
theorem zwt {A : Addr → Prop} {H : Hp} {p : Addr} {ds : List PyData} {xs : List V} (hp : H p = none) (hA : ¬ A p) (r : Rps (Offs A H) ds xs) : Rp (Offs A (upd H p (.lst xs))) (.list ds) (.ref p) :=
  zfd (by rw [Offs.get hA]; exact zaw) (Rps.same (Offs.grow (Same.new hp)) _ r)
theorem zno {A : Addr → Prop} {H : Hp} {p : Addr} {ds : List PyData} {xs : List V} (hp : H p = none) (hA : ¬ A p) (r : Rps (Offs A H) ds xs) : Rp (Offs A (upd H p (.tup xs))) (.tuple ds) (.ref p) :=
  zzj (by rw [Offs.get hA]; exact zaw) (Rps.same (Offs.grow (Same.new hp)) _ r)
theorem zds {A : Addr → Prop} {H : Hp} {a : Addr} {o : HO} (h : Offs A H a = some o) : H a = some o := (Offs.of h).2
noncomputable def addD : OF
  | .int i, .int j => some (.int (i + j), false)
  | .str a, .str b => if a.length + b.length ≤ 100000 then some (.str (a ++ b), false) else none
  | .list a, .list b => if a.length + b.length ≤ 100000 then some (.list (a ++ b), true) else none
  | .tuple a, .tuple b => if a.isEmpty = false ∧ a.length + b.length ≤ 100000 then some (.tuple (a ++ b), false) else none
  | _, _ => none
theorem zht {K : PySem.W.Frag} : SO (zair K) addD := by
  intro A H x y dx dy hA rx ry d fr e Q q
  unfold addD at e
  split at e
  · cases e
    cases zdr rx; cases zdr ry
    exact q _ H (Same.refl _) zag (fun z => by cases z)
  · split at e
    · rename_i hl
      cases e
      cases zlj rx; cases zlj ry
      exact ⟨zez hl, q _ H (Same.refl _) zbs (fun z => by cases z)⟩
    · cases e
  · split at e
    · rename_i hl
      cases e
      obtain ⟨p, xs, rfl, hp, r1⟩ := zey rx
      obtain ⟨p', ys, rfl, hp', r2⟩ := zey ry
      refine .inl ⟨p, p', xs, ys, rfl, rfl, zds hp, zds hp', zez (by rw [← r1.length, ← r2.length]; exact hl), fun b hb => ?_⟩
      exact q _ _ (Same.new hb) (zwt hb (zfa hA hb) (r1.append r2)) fun _ => ⟨b, rfl, hb, zqh hb (r1.append r2)⟩
    · cases e
  · split at e
    · rename_i hl
      cases e
      obtain ⟨p, xs, rfl, hp, r1⟩ := zdv rx
      obtain ⟨p', ys, rfl, hp', r2⟩ := zdv ry
      refine .inr ⟨p, p', xs, ys, rfl, rfl, SqT.of (zds hp), SqT.of (zds hp'), fun z => ?_, zez (by rw [← r1.length, ← r2.length]; exact hl.2), fun z => ?_, fun _ b hb => ?_⟩
      · have h1 := r1.length
        have h0 := hl.1
        rw [z] at h1
        rw [List.isEmpty_eq_false_iff] at h0
        exact h0 (List.length_eq_zero_iff.mp h1)
      · have h2 := r2.length
        rw [z] at h2
        have := List.length_eq_zero_iff.mp h2
        subst this
        rw [List.append_nil] at q
        exact q _ H (Same.refl _) rx (fun z => by cases z)
      · exact q _ _ (Same.new hb) (zno hb (zfa hA hb) (r1.append r2)) (fun z => by cases z)
    · cases e
  · cases e
noncomputable def intD (c : Int → Int → Bool) (f : Int → Int → PyData) : OF
  | .int i, .int j => if c i j = true then some (f i j, false) else none
  | _, _ => none
theorem zafe {C : Int → Int → Prop} {g : Int → Int → V} {c : Int → Int → Bool} {f : Int → Int → PyData} (hc : ∀ i j, c i j = true → C i j) (hf : ∀ H i j, Rp H (f i j) (g i j)) : SO (rI C g) (intD c f) := by
  intro A H x y dx dy hA rx ry d fr e Q q
  unfold intD at e
  split at e
  · split at e
    · rename_i h
      cases e
      cases zdr rx; cases zdr ry
      exact ⟨_, _, rfl, rfl, hc _ _ h, q _ H (Same.refl _) (hf _ _ _) (fun z => by cases z)⟩
    · cases e
  · cases e
theorem zzk {g : Int → Int → V} {f : Int → Int → PyData} (hf : ∀ H i j, Rp H (f i j) (g i j)) : SO (rI0 g) (intD (fun _ _ => true) f) := by
  intro A H x y dx dy hA rx ry d fr e Q q
  unfold intD at e
  split at e
  · split at e
    · cases e
      cases zdr rx; cases zdr ry
      exact ⟨_, _, rfl, rfl, q _ H (Same.refl _) (hf _ _ _) (fun z => by cases z)⟩
    · cases e
  · cases e
noncomputable def subD : OF := intD (fun _ _ => true) fun i j => .int (i - j)
theorem zakw : SO (rI0 fun i j => .int (i - j)) subD := zzk fun _ _ _ => zag
noncomputable def ltD : OF := intD (fun _ _ => true) fun i j => .bool (decide (i < j))
theorem zapl : SO (rI0 fun i j => .bl (decide (i < j))) ltD := zzk fun _ _ _ => zbu
noncomputable def geD : OF := intD (fun _ _ => true) fun i j => .bool (decide (j ≤ i))
theorem zarv : SO (rI0 fun i j => .bl (decide (j ≤ i))) geD := zzk fun _ _ _ => zbu
noncomputable def modD : OF := intD (fun _ j => decide (0 < j)) fun i j => .int (i % j)
theorem zqi : SO (rI (fun _ j => 0 < j) fun i j => .int (i % j)) modD := zafe (fun _ _ h => of_decide_eq_true h) fun _ _ _ => zag
noncomputable def zwu : OF := intD (fun _ j => decide (0 < j ∧ j < 1073741824)) fun i j => .int (i / j)
theorem zzl : SO (rI CDiv fun i j => .int (i / j)) zwu := zafe (fun i j h => (of_decide_eq_true h : 0 < j ∧ j < 1073741824)) fun _ _ _ => zag
noncomputable def mulD : OF
  | .int i, .int j => if (-(2 ^ 64) < i ∧ i < 2 ^ 64) ∨ (-(2 ^ 64) < j ∧ j < 2 ^ 64) then some (.int (i * j), false) else none
  | .str z, .int n => if z.length ≤ 1000 ∧ -1000 ≤ n ∧ n ≤ 1000 then some (.str (Txt.mul z n), false) else none
  | _, _ => none
theorem zwv : SO zapj mulD := by
  intro A H x y dx dy hA rx ry d fr e Q q
  unfold mulD at e
  split at e
  · split at e
    · rename_i h
      cases e
      cases zdr rx; cases zdr ry
      exact ⟨h, q _ H (Same.refl _) zag (fun z => by cases z)⟩
    · cases e
  · split at e
    · rename_i h
      cases e
      cases zlj rx; cases zdr ry
      exact ⟨h.1, h.2.1, h.2.2, q _ H (Same.refl _) zbs (fun z => by cases z)⟩
    · cases e
  · cases e
mutual
theorem zqj {K : PySem.W.Frag} {H : Hp} : ∀ {d : PyData} {v : V}, d.canLay0 = true → Rp H d v → Rep K H d v
  | .none, v, _, h => by unfold Rp at h; unfold Rep; exact h
  | .bool b, v, _, h => by unfold Rp at h; unfold Rep; exact h
  | .int i, v, _, h => by unfold Rp at h; unfold Rep; exact h
  | .str x, v, _, h => by unfold Rp at h; unfold Rep; exact h
  | .list ds, v, c, h => by
    obtain ⟨a, xs, e, h1, h2⟩ := zey h
    unfold Rep
    exact ⟨a, xs, e, SqL.of h1, zuu (by simpa [PyData.canLay0] using c) h2⟩
  | .tuple ds, v, c, h => by
    obtain ⟨a, xs, e, h1, h2⟩ := zdv h
    unfold Rep
    exact ⟨a, xs, e, SqT.of h1, zuu (by simpa [PyData.canLay0] using c) h2⟩
  | .dict _, v, c, h => by simp [PyData.canLay0] at c
theorem zuu {K : PySem.W.Frag} {H : Hp} : ∀ {ds : List PyData} {vs : List V}, PyData.canLayAll0 ds = true → Rps H ds vs → Reps K H ds vs
  | [], vs, _, h => by unfold Rps at h; unfold Reps; exact h
  | d :: ds, vs, c, h => by
    unfold Rps at h
    obtain ⟨v, ws, e, h1, h2⟩ := h
    have c : d.canLay0 = true ∧ PyData.canLayAll0 ds = true := by simpa [PyData.canLayAll0] using c
    unfold Reps
    exact ⟨v, ws, e, zqj c.1 h1, zuu c.2 h2⟩
end
noncomputable def zww : PyData → PyData → Bool
  | .none, .none => true | .none, .int _ => true | .int _, .none => true | .none, .bool _ => true | .bool _, .none => true | .none, .str _ => true | .str _, .none => true
  | .int _, .int _ => true | .bool _, .bool _ => true | .str _, .str _ => true
  | .int _, .str _ => true | .str _, .int _ => true | .bool _, .str _ => true | .str _, .bool _ => true
  | _, _ => false
noncomputable def eqOk (dx dy : PyData) : Bool := zww dx dy || (SeqAt.shaped dx && SeqAt.shaped dy)
noncomputable def eqD : OF := fun dx dy => if eqOk dx dy = true then some (.bool (PyData.eqv dx dy), false) else none
noncomputable def neD : OF := fun dx dy => if eqOk dx dy = true then some (.bool (!PyData.eqv dx dy), false) else none
theorem zaff {H : Hp} {dx dy : PyData} {x y : V} (s : zww dx dy = true) (rx : Rp H dx x) (ry : Rp H dy y) : scal x y = true ∧ decide (x = y) = PyData.eqv dx dy := by
  cases dx <;> cases dy <;> first
    | (exact absurd (show false = true from s) Bool.false_ne_true)
    | (unfold Rp at rx ry; subst rx; subst ry; refine ⟨rfl, ?_⟩; first | rfl | exact zza | exact zaec | exact zzb | simp [PyData.eqv])
theorem zacy {K : PySem.W.Frag} : SO (fun x y H Q => rEq x y H Q ∨ rEqD K false x y H Q) eqD := by
  intro A H x y dx dy hA rx ry d fr e Q q
  unfold eqD at e
  split at e
  · rename_i h
    cases e
    cases hs : zww dx dy with
    | true =>
      obtain ⟨h1, h2⟩ := zaff hs rx ry
      exact .inl ⟨h1, by rw [h2]; exact q _ H (Same.refl _) zbu (fun z => by cases z)⟩
    | false =>
      unfold eqOk at h
      rw [hs, Bool.false_or, Bool.and_eq_true] at h
      have rx := Rp.same (Offs.same A H) _ rx
      have ry := Rp.same (Offs.same A H) _ ry
      exact .inr ⟨dx, dy, zqj (SeqAt.canLay_of_shaped h.1) rx, zqj (SeqAt.canLay_of_shaped h.2) ry, h.1, h.2, q _ H (Same.refl _) zbu (fun z => by cases z)⟩
  · cases e
theorem zzm {K : PySem.W.Frag} : SO (fun x y H Q => rNe x y H Q ∨ rEqD K true x y H Q) neD := by
  intro A H x y dx dy hA rx ry d fr e Q q
  unfold neD at e
  split at e
  · rename_i h
    cases e
    cases hs : zww dx dy with
    | true =>
      obtain ⟨h1, h2⟩ := zaff hs rx ry
      exact .inl ⟨h1, by rw [h2]; exact q _ H (Same.refl _) zbu (fun z => by cases z)⟩
    | false =>
      unfold eqOk at h
      rw [hs, Bool.false_or, Bool.and_eq_true] at h
      have rx := Rp.same (Offs.same A H) _ rx
      have ry := Rp.same (Offs.same A H) _ ry
      exact .inr ⟨dx, dy, zqj (SeqAt.canLay_of_shaped h.1) rx, zqj (SeqAt.canLay_of_shaped h.2) ry, h.1, h.2, q _ H (Same.refl _) zbu (fun z => by cases z)⟩
  · cases e
noncomputable def zfe (ds : List PyData) : Bool := ds.all zkf
theorem zakx {H : Hp} {d : PyData} {v : V} (f : zkf d = true) (h : Rp H d v) : zsi v = true := by
  cases d <;> first
    | (unfold Rp at h; subst h; rfl)
    | cases f
theorem zaml {H : Hp} {ds : List PyData} {vs : List V} (f : zfe ds = true) (h : Rps H ds vs) : vs.all zsi = true := by
  replace h := zec.mp h
  induction h with
  | nil => rfl
  | cons h _ ih =>
    unfold zfe at f
    rw [List.all_cons, Bool.and_eq_true] at f
    rw [List.all_cons, zakx f.1 h, ih f.2]; rfl
theorem zamm {H : Hp} {d e : PyData} {v u : V} (f : zkf d = true) (g : zkf e = true) (h : Rp H d v) (k : Rp H e u) : eqV v u = PyData.eqv d e := by
  cases d <;> cases e <;> first
    | (unfold Rp at h k; subst h; subst k; rfl)
    | exact absurd (show false = true from f) Bool.false_ne_true
    | exact absurd (show false = true from g) Bool.false_ne_true
theorem zamn {H : Hp} {d : PyData} {v : V} (f : zkf d = true) (h : Rp H d v) {ds : List PyData} {vs : List V} (g : zfe ds = true) (r : Rps H ds vs) : inV v vs = ds.any fun e => PyData.eqv e d := by
  replace r := zec.mp r
  unfold inV
  induction r with
  | nil => rfl
  | cons r _ ih =>
    unfold zfe at g
    rw [List.all_cons, Bool.and_eq_true] at g
    rw [List.any_cons, List.any_cons, zamm g.1 f r h, ih g.2]
noncomputable def zgo : PyData → Option (List PyData)
  | .list ds => some ds
  | .tuple ds => some ds
  | _ => none
noncomputable def inD (neg : Bool) : OF := fun d c => match zgo c with
  | some ds => if zkf d = true ∧ zfe ds = true then some (.bool (if neg then !(ds.any fun e => PyData.eqv e d) else ds.any fun e => PyData.eqv e d), false) else none
  | none => none
theorem zabk {K : PySem.W.Frag} {H : Hp} {c : PyData} {v : V} {ds : List PyData} (h : Rp H c v) (e : zgo c = some ds) : ∃ p xs, v = .ref p ∧ (SqL K H p xs ∨ SqT K H p xs) ∧ Rps H ds xs := by
  cases c <;> first
    | cases e
    | skip
  · obtain ⟨a, xs, e, h1, h2⟩ := zey h; exact ⟨a, xs, e, .inl (SqL.of h1), h2⟩
  · obtain ⟨a, xs, e, h1, h2⟩ := zdv h; exact ⟨a, xs, e, .inr (SqT.of h1), h2⟩
theorem zacz {K : PySem.W.Frag} {neg : Bool} : SO (rIn K neg) (inD neg) := by
  intro A H x y dx dy hA rx ry d fr e Q q
  unfold inD at e
  split at e
  · rename_i ds hi
    split at e
    · rename_i h
      cases e
      have rx := Rp.same (Offs.same A H) _ rx
      obtain ⟨p, xs, rfl, hq, r⟩ := zabk (K := K) (Rp.same (Offs.same A H) _ ry) hi
      refine ⟨p, xs, rfl, hq, zakx h.1 rx, zaml h.2 r, ?_⟩
      rw [zamn h.1 rx h.2 r]
      refine q _ H (Same.refl _) ?_ (fun z => by cases z)
      cases neg <;> exact zbu
    · cases e
  · cases e
noncomputable def ixD : OF
  | .str z, .int i => if z.length ≤ 100000 then (atI z.cps.toList i).map fun c => (.str ⟨#[c]⟩, false) else none
  | .list ds, .int i => (atI ds i).map fun d => (d, false)
  | .tuple ds, .int i => (atI ds i).map fun d => (d, false)
  | _, _ => none
theorem Rps.atI {H : Hp} {ds : List PyData} {vs : List V} (h : Rps H ds vs) {i : Int} {d : PyData} (e : atI ds i = some d) : ∃ v, L2.atI vs i = some v ∧ Rp H d v := by
  unfold L2.atI at e ⊢
  rw [← h.length]
  cases g : ixN ds.length i with
  | none => rw [g] at e; cases e
  | some j =>
    rw [g] at e
    exact h.get2 e
theorem zqk {K : PySem.W.Frag} : SO (rIxU K) ixD := by
  intro A H x y dx dy hA rx ry d fr e Q q
  unfold ixD at e
  split at e
  · split at e
    · rename_i z i hl
      obtain ⟨c, hc, e⟩ := Option.map_eq_some_iff.mp e
      cases e
      cases zlj rx; cases zdr ry
      exact ⟨zez hl, c, hc, q _ H (Same.refl _) zbs (fun z => by cases z)⟩
    · cases e
  · obtain ⟨c, hc, e⟩ := Option.map_eq_some_iff.mp e
    cases e
    obtain ⟨p, xs, rfl, hp, r⟩ := zey rx
    cases zdr ry
    obtain ⟨v, hv, rv⟩ := r.atI hc
    exact ⟨xs, v, .inl (SqL.of (zds hp)), hv, q _ H (Same.refl _) rv (fun z => by cases z)⟩
  · obtain ⟨c, hc, e⟩ := Option.map_eq_some_iff.mp e
    cases e
    obtain ⟨p, xs, rfl, hp, r⟩ := zdv rx
    cases zdr ry
    obtain ⟨v, hv, rv⟩ := r.atI hc
    exact ⟨xs, v, .inr (SqT.of (zds hp)), hv, q _ H (Same.refl _) rv (fun z => by cases z)⟩
  · cases e
end L2
namespace L2
open PySem PySem.Spec PyProof.Rows
noncomputable def zlg : List (PyData × PyData) → Key → Option PyData
  | [], _ => none
  | (k, d) :: r, j => if keyD k = some j then some d else zlg r j
noncomputable def zzn (kvs : List (PyData × PyData)) (j : Key) : Bool := (zlg kvs j).isSome
noncomputable def znp (kvs : List (PyData × PyData)) (k : PyData) (d : PyData) : List (PyData × PyData) :=
  if (kvs.any fun kv => decide (keyD kv.1 = keyD k)) = true then kvs.map (fun kv => if keyD kv.1 = keyD k then (kv.1, d) else kv) else kvs ++ [(k, d)]
noncomputable def znq (kvs more : List (PyData × PyData)) : List (PyData × PyData) := more.foldl (fun acc kv => znp acc kv.1 kv.2) kvs
theorem zlb {H : Hp} {k d : PyData} {r : List (PyData × PyData)} {k' : Key} {v : V} {vs : List (Key × V)} (hk : keyD k = some k') (h : Rp H d v) (q : Rpd H r vs) : Rpd H ((k, d) :: r) ((k', v) :: vs) := by
  show Rpd H ((k, d) :: r) _
  unfold Rpd; exact ⟨k', v, vs, rfl, hk, h, q⟩
theorem zhf {H : Hp} {k d : PyData} {r : List (PyData × PyData)} {ps : List (Key × V)} (h : Rpd H ((k, d) :: r) ps) : ∃ k' v vs, ps = (k', v) :: vs ∧ keyD k = some k' ∧ Rp H d v ∧ Rpd H r vs := by
  unfold Rpd at h; exact h
theorem Rpd.length {H : Hp} : ∀ {kvs : List (PyData × PyData)} {ps : List (Key × V)}, Rpd H kvs ps → kvs.length = ps.length
  | [], ps, h => by unfold Rpd at h; subst h; rfl
  | (k, d) :: r, ps, h => by
    obtain ⟨k', v, vs, rfl, _, _, h3⟩ := zhf h
    rw [List.length_cons, List.length_cons, h3.length]
theorem Rpd.get {H : Hp} {j : Key} : ∀ {kvs : List (PyData × PyData)} {ps : List (Key × V)}, Rpd H kvs ps → match zlg kvs j with
    | some d => ∃ v, valV ps j = some v ∧ Rp H d v
    | none => valV ps j = none
  | [], ps, h => by unfold Rpd at h; subst h; rfl
  | (k, d) :: r, ps, h => by
    obtain ⟨k', v, vs, rfl, hk, h2, h3⟩ := zhf h
    have ih := Rpd.get (j := j) h3
    unfold zlg
    by_cases e : k' = j
    · rw [if_pos (by rw [hk, e])]
      exact ⟨v, zpr e, h2⟩
    · rw [if_neg (fun z => e (by rw [hk] at z; exact Option.some.inj z)), zps e]
      exact ih
theorem Rpd.any {H : Hp} {j : Key} : ∀ {kvs : List (PyData × PyData)} {ps : List (Key × V)}, Rpd H kvs ps → (kvs.any fun kv => decide (keyD kv.1 = some j)) = ps.any fun kv => decide (kv.1 = j)
  | [], ps, h => by unfold Rpd at h; subst h; rfl
  | (k, d) :: r, ps, h => by
    obtain ⟨k', v, vs, rfl, hk, h2, h3⟩ := zhf h
    rw [List.any_cons, List.any_cons, h3.any, hk]
    congr 1
    simp
theorem Rpd.map {H : Hp} {j : Key} {d' : PyData} {v' : V} (h' : Rp H d' v') : ∀ {kvs : List (PyData × PyData)} {ps : List (Key × V)}, Rpd H kvs ps → Rpd H (kvs.map fun kv => if keyD kv.1 = some j then (kv.1, d') else kv) (ps.map fun kv => if kv.1 = j then (kv.1, v') else kv)
  | [], ps, h => by unfold Rpd at h; subst h; exact znl
  | (k, d) :: r, ps, h => by
    obtain ⟨k', v, vs, rfl, hk, h2, h3⟩ := zhf h
    rw [List.map_cons, List.map_cons]
    by_cases e : k' = j
    · rw [if_pos (show keyD (k, d).1 = some j by rw [hk, e]), if_pos (show ((k', v) : Key × V).1 = j from e)]
      exact zlb hk h' (Rpd.map h' h3)
    · rw [if_neg (show ¬ keyD (k, d).1 = some j from fun z => e (by rw [hk] at z; exact Option.some.inj z)), if_neg (show ¬ ((k', v) : Key × V).1 = j from e)]
      exact zlb hk h2 (Rpd.map h' h3)
theorem Rpd.snoc {H : Hp} {k d : PyData} {k' : Key} {v : V} (hk : keyD k = some k') (h' : Rp H d v) : ∀ {kvs : List (PyData × PyData)} {ps : List (Key × V)}, Rpd H kvs ps → Rpd H (kvs ++ [(k, d)]) (ps ++ [(k', v)])
  | [], ps, h => by unfold Rpd at h; subst h; exact zlb hk h' znl
  | (k0, d0) :: r, ps, h => by
    obtain ⟨k1, v1, vs, rfl, hk1, h2, h3⟩ := zhf h
    exact zlb hk1 h2 (Rpd.snoc hk h' h3)
theorem Rpd.put {H : Hp} {k d : PyData} {j : Key} {v : V} {kvs : List (PyData × PyData)} {ps : List (Key × V)} (h : Rpd H kvs ps) (hk : keyD k = some j) (h' : Rp H d v) : Rpd H (znp kvs k d) (putK ps j v) := by
  unfold znp putK
  rw [hk, h.any]
  split
  · exact h.map h'
  · exact h.snoc hk h'
theorem Rpd.merge {H : Hp} : ∀ {more : List (PyData × PyData)} {ps : List (Key × V)} {kvs : List (PyData × PyData)} {qs : List (Key × V)}, Rpd H kvs qs → Rpd H more ps → Rpd H (znq kvs more) (zme qs ps)
  | [], ps, kvs, qs, h, g => by unfold Rpd at g; subst g; exact h
  | (k, d) :: r, ps, kvs, qs, h, g => by
    obtain ⟨k', v, vs, rfl, hk, h2, h3⟩ := zhf g
    show Rpd H (znq (znp kvs k d) r) (zme (putK qs k' v) vs)
    exact Rpd.merge (h.put hk h2) h3
theorem zait {H : Hp} {d : PyData} {v : V} {k : Key} (h : Rp H d v) (e : keyD d = some k) : v = kV k := by
  cases d <;> first
    | (cases e; unfold Rp at h; exact h)
    | cases e
noncomputable def zask (a b : EF) : EF := fun env => (a env).bind fun x => (b env).bind fun y => match x.d with
  | .dict kvs => (keyD y.d).bind fun k => (zlg kvs k).bind fun d => some ⟨d, false, bsOf d x.bs⟩
  | _ => none
noncomputable def eDIn (neg : Bool) (a b : EF) : EF := fun env => (a env).bind fun x => (b env).bind fun y => match y.d with
  | .dict kvs => (keyD x.d).bind fun k => some ⟨.bool (if neg then !zzn kvs k else zzn kvs k), false, []⟩
  | _ => none
theorem zamo {H : Hp} {kvs : List (PyData × PyData)} {ps : List (Key × V)} (r : Rpd H kvs ps) (k : Key) : (valV ps k).isSome = zzn kvs k := by
  have g := r.get (j := k)
  unfold zzn
  cases e : zlg kvs k with
  | none => rw [e] at g; rw [show valV ps k = none from g]; rfl
  | some d => rw [e] at g; obtain ⟨w, e1, _⟩ := g; rw [e1]; rfl
theorem zaky {td ty : TE} {fa fb : EF} (ha : SE ty fa) (hb : SE td fb) : SE (tDIn ty td) (eDIn false fa fb) := by
  intro fx H0 env σ H h rr hr Q q
  unfold eDIn at hr
  obtain ⟨⟨dx, frx, bx⟩, ex, hr⟩ := Option.bind_eq_some_iff.mp hr
  obtain ⟨⟨dy, fry, by'⟩, ey, hr⟩ := Option.bind_eq_some_iff.mp hr
  cases dy with
  | dict kvs =>
    obtain ⟨k, ek, hr⟩ := Option.bind_eq_some_iff.mp hr
    cases hr
    refine ha fx H0 env σ H h _ ex _ fun v H1 s1 v1 => hb fx H0 env σ H1 (h.up s1) _ ey _ fun u H2 s2 v2 => ?_
    obtain ⟨a, ps, rfl, hp, r⟩ := zqf v2.rp
    rw [zait v1.rp ek]
    exact ⟨a, _, rfl, DGet.k (zds hp), by rw [zamo r k]; exact q _ H2 (s1.trans s2) ⟨zbu, fun z => by cases z⟩⟩
  | _ => cases hr
noncomputable def zcy (f : EF) : TF := fun env => (f env).bind fun r => match r.d with | .bool b => some b | _ => none
theorem st_b {te : TE} {f : EF} (h : SE te f) : ST (tB te) (zcy f) := by
  intro fx H0 env σ H hE b hb Q q
  unfold zcy at hb
  obtain ⟨⟨d, fr, bs⟩, e, hb⟩ := Option.bind_eq_some_iff.mp hb
  cases d with
  | bool c =>
    have hb : some c = some b := hb
    cases hb
    exact h fx H0 env σ H hE _ e _ fun v H' s v1 => ⟨_, zke v1.rp, q H' s⟩
  | _ => cases hb
theorem st_t {te : TE} {f : EF} (h : SE te f) : ST (tTest te) (zcy f) := st_b h
noncomputable def truD : PyData → Option Bool
  | .none => some false
  | .bool b => some b
  | .int i => some (i != 0)
  | .str x => if x.length ≤ 100000 then some ((x.length : Int) != 0) else none
  | .list ds => some (!ds.isEmpty)
  | .tuple ds => some (!ds.isEmpty)
  | .dict ds => some (!ds.isEmpty)
noncomputable def tTru (f : EF) : TF := fun env => (f env).bind fun r => truD r.d
theorem zlw {α β : Type} {xs : List α} {ys : List β} (h : xs.length = ys.length) : xs.isEmpty = ys.isEmpty := by
  cases xs <;> cases ys <;> simp at h <;> rfl
theorem zarw {K : PySem.W.Frag} {H : Hp} {d : PyData} {v : V} {b : Bool} (h : Rp H d v) (e : truD d = some b) : TruV K v H b := by
  cases d with
  | none => cases e; cases zafc h; rfl
  | bool c => cases e; cases zke h; rfl
  | int i => cases e; cases zdr h; rfl
  | str x =>
    have e : (if x.length ≤ 100000 then some ((x.length : Int) != 0) else none) = some b := e
    split at e
    · rename_i hl; cases e; cases zlj h; exact ⟨zez hl, rfl⟩
    · cases e
  | list ds => cases e; obtain ⟨a, xs, rfl, h1, h2⟩ := zey h; exact .inl ⟨xs, SqL.of h1, by rw [zlw h2.length]⟩
  | tuple ds => cases e; obtain ⟨a, xs, rfl, h1, h2⟩ := zdv h; exact .inr (.inl ⟨xs, SqT.of h1, by rw [zlw h2.length]⟩)
  | dict ds => cases e; obtain ⟨a, xs, rfl, h1, h2⟩ := zqf h; exact .inr (.inr ⟨xs, h1, by rw [zlw h2.length]⟩)
theorem zin {K : PySem.W.Frag} {te : TE} {f : EF} (h : SE te f) : ST (fun σ H Q => te σ H fun x H1 => ∃ k, TruV K x H1 k ∧ Q k H1) (tTru f) := by
  intro fx H0 env σ H hE b hb Q q
  unfold tTru at hb
  obtain ⟨r, e, hb⟩ := Option.bind_eq_some_iff.mp hb
  exact h fx H0 env σ H hE _ e _ fun v H' s v1 => ⟨b, zarw (Rp.same (Offs.same _ _) _ v1.rp) hb, q H' s⟩
noncomputable def zsj (f g : TF) : TF := fun env => (f env).bind fun b => if b = true then g env else some false
noncomputable def tOrF (f g : TF) : TF := fun env => (f env).bind fun b => if b = true then some true else g env
noncomputable def zkg (f : TF) : TF := fun env => (f env).map fun b => !b
theorem zapm {t u : TT} {f g : TF} (h : ST t f) (k : ST u g) : ST (tAnd t u) (zsj f g) := by
  intro fx H0 env σ H hE b hb Q q
  unfold zsj at hb
  obtain ⟨c, e, hb⟩ := Option.bind_eq_some_iff.mp hb
  refine h fx H0 env σ H hE c e _ fun H' s => ?_
  cases c with
  | true => exact iteT (k fx H0 env σ H' (hE.up s) b hb _ fun H'' s' => q H'' (s.trans s'))
  | false => cases hb; exact iteF (q H' s)
theorem zamp {t u : TT} {f g : TF} (h : ST t f) (k : ST u g) : ST (tOr t u) (tOrF f g) := by
  intro fx H0 env σ H hE b hb Q q
  unfold tOrF at hb
  obtain ⟨c, e, hb⟩ := Option.bind_eq_some_iff.mp hb
  refine h fx H0 env σ H hE c e _ fun H' s => ?_
  cases c with
  | false => exact iteF (k fx H0 env σ H' (hE.up s) b hb _ fun H'' s' => q H'' (s.trans s'))
  | true => cases hb; exact iteT (q H' s)
theorem zql {t : TT} {f : TF} (h : ST t f) : ST (tNot t) (zkg f) := by
  intro fx H0 env σ H hE b hb Q q
  unfold zkg at hb
  obtain ⟨c, e, rfl⟩ := Option.map_eq_some_iff.mp hb
  exact h fx H0 env σ H hE c e _ fun H' s => q H' s
noncomputable def asB : PyData → Option Bool | .bool b => some b | _ => none
noncomputable def eAnd (a b : EF) : EF := fun env => (a env).bind fun x => (asB x.d).bind fun c => if c = true then b env else some ⟨.bool false, false, []⟩
noncomputable def eNot (a : EF) : EF := fun env => (a env).bind fun x => (asB x.d).map fun c => ⟨.bool (!c), false, []⟩
theorem as_b {H : Hp} {d : PyData} {v : V} {c : Bool} (h : Rp H d v) (e : asB d = some c) : v = .bl c := by
  cases d <;> first
    | (cases e; exact zke h)
    | cases e
theorem ztb {ta tb : TE} {fa fb : EF} (ha : SE ta fa) (hb : SE tb fb) : SE (tAndV ta tb) (eAnd fa fb) := by
  intro fx H0 env σ H h rr hr Q q
  unfold eAnd at hr
  obtain ⟨x, ex, hr⟩ := Option.bind_eq_some_iff.mp hr
  obtain ⟨c, ec, hr⟩ := Option.bind_eq_some_iff.mp hr
  refine ha fx H0 env σ H h _ ex _ fun v H1 s1 v1 => ⟨c, as_b v1.rp ec, ?_⟩
  cases c with
  | true => exact iteT (hb fx H0 env σ H1 (h.up s1) _ hr _ fun u H2 s2 v2 => q u H2 (s1.trans s2) (v2.later s1 (Same.refl _) fun _ z => z))
  | false => cases hr; exact iteF (q _ H1 s1 ⟨zbu, fun z => by cases z⟩)
theorem zapn {ta : TE} {fa : EF} (ha : SE ta fa) : SE (tNotV ta) (eNot fa) := by
  intro fx H0 env σ H h rr hr Q q
  unfold eNot at hr
  obtain ⟨x, ex, hr⟩ := Option.bind_eq_some_iff.mp hr
  obtain ⟨c, ec, rfl⟩ := Option.map_eq_some_iff.mp hr
  exact ha fx H0 env σ H h _ ex _ fun v H1 s1 v1 => ⟨c, as_b v1.rp ec, q _ H1 s1 ⟨zbu, fun z => by cases z⟩⟩
end L2
namespace L2
open PySem PySem.Spec PyProof.Rows
noncomputable def aNil : AF := fun _ => some []
noncomputable def zad (a : EF) (r : AF) : AF := fun env => (a env).bind fun x => (r env).map fun xs => x :: xs
theorem zap : SA tNil aNil := by
  intro fx H0 env σ H h rs hr Q q
  cases hr
  exact q [] H (Same.refl _) .nil
theorem zaf {te : TE} {ta : TA} {f : EF} {g : AF} (h1 : SE te f) (h2 : SA ta g) : SA (tCons te ta) (zad f g) := by
  intro fx H0 env σ H h rs hr Q q
  unfold zad at hr
  obtain ⟨x, ex, hr⟩ := Option.bind_eq_some_iff.mp hr
  obtain ⟨xs, exs, rfl⟩ := Option.map_eq_some_iff.mp hr
  exact h1 fx H0 env σ H h x ex _ fun v H1 s1 v1 => h2 fx H0 env σ H1 (h.up s1) xs exs _ fun vs H2 s2 vs2 => q (v :: vs) H2 (s1.trans s2)
    (.cons (v1.later (Same.refl _) s2 fun _ z => z) (Paired.mapP vs2 fun _ _ z => z.later s1 (Same.refl _) fun _ y => y))
noncomputable def zio (rs : List Val) : List PyData := rs.map (·.d)
noncomputable def bss (rs : List Val) : List Nat := rs.flatMap (·.bs)
theorem zie {fx : Addr → Prop} {env : DEnv} {σ : St} {H H' : Hp} : ∀ {rs : List Val} {vs : List V} {cs : List Nat}, (∀ i ∈ bss rs, i ∈ cs) → Paired (fun r v => ValOk (lim fx env σ r.bs) H H' r v) rs vs → Rps (Offs (lim fx env σ cs) H') (zio rs) vs
  | _, _, _, _, .nil => zde
  | r :: rs, v :: vs, cs, hc, .cons h t => zdw (Rp.same (Offs.sub (zlv fun i hi => hc i (List.mem_flatMap.mpr ⟨r, List.mem_cons_self, hi⟩))) _ h.rp)
      (zie (fun i hi => hc i (by obtain ⟨x, h1, h2⟩ := List.mem_flatMap.mp hi; exact List.mem_flatMap.mpr ⟨x, List.mem_cons_of_mem _ h1, h2⟩)) t)
noncomputable def eTup (f : AF) : EF := fun env => (f env).bind fun rs => if rs.length ≤ 100000 then some ⟨.tuple (zio rs), false, bss rs⟩ else none
noncomputable def eLst (f : AF) : EF := fun env => (f env).bind fun rs => if rs.length ≤ 100000 then some ⟨.list (zio rs), true, bss rs⟩ else none
theorem zkh (rs : List Val) : (zio rs).length = rs.length := by unfold zio; rw [List.length_map]
theorem zgp {ta : TA} {f : AF} (ha : SA ta f) : SE (tTup ta) (eTup f) := by
  intro fx H0 env σ H h rr hr Q q
  unfold eTup at hr
  obtain ⟨rs, er, hr⟩ := Option.bind_eq_some_iff.mp hr
  split at hr
  · rename_i hl
    cases hr
    refine ha fx H0 env σ H h rs er _ fun vs H1 s1 v1 => ?_
    have r := zie (fun i hi => hi) v1
    have hA := (h.up s1).lims (bss rs)
    refine ⟨zez (by rw [← r.length, zkh]; exact hl), fun p hp => q _ _ (s1.trans (Same.new hp)) ⟨zno hp (zfa hA hp) r, fun z => by cases z⟩⟩
  · cases hr
theorem zfp {ta : TA} {f : AF} (ha : SA ta f) : SE (tLst ta) (eLst f) := by
  intro fx H0 env σ H h rr hr Q q
  unfold eLst at hr
  obtain ⟨rs, er, hr⟩ := Option.bind_eq_some_iff.mp hr
  split at hr
  · rename_i hl
    cases hr
    refine ha fx H0 env σ H h rs er _ fun vs H1 s1 v1 => ?_
    have r := zie (fun i hi => hi) v1
    have hA := (h.up s1).lims (bss rs)
    refine ⟨zez (by rw [← r.length, zkh]; exact hl), fun p hp => q _ _ (s1.trans (Same.new hp)) ⟨zwt hp (zfa hA hp) r, fun _ => ⟨p, rfl, s1.free hp, zqh hp r⟩⟩⟩
  · cases hr
noncomputable def zaiu : EF := fun _ => some ⟨.dict [], true, []⟩
theorem zzo : SE tDNewK zaiu := by
  intro fx H0 env σ H h rr hr Q q
  cases hr
  intro p hp
  have hA := h.lims []
  exact q _ _ (Same.new hp) ⟨znk (by rw [Offs.get (zfa hA hp)]; exact zaw) znl, fun _ => ⟨p, rfl, hp, ⟨[], zaw, znl⟩⟩⟩
noncomputable def eD1 (k v : EF) : EF := fun env => (k env).bind fun x => (v env).bind fun y => (keyD x.d).bind fun _ => some ⟨.dict [(x.d, y.d)], true, y.bs⟩
theorem zarx {tk tv : TE} {f g : EF} (h1 : SE tk f) (h2 : SE tv g) : SE (tDisp [(tk, tv)]) (eD1 f g) := by
  intro fx H0 env σ H h rr hr Q q
  unfold eD1 at hr
  obtain ⟨x, ex, hr⟩ := Option.bind_eq_some_iff.mp hr
  obtain ⟨y, ey, hr⟩ := Option.bind_eq_some_iff.mp hr
  obtain ⟨k, ek, hr⟩ := Option.bind_eq_some_iff.mp hr
  cases hr
  intro p hp
  have hp0 : Same H (upd H p (.dK [])) := Same.new hp
  have npf : ¬ fx p := zfa h.fxs hp
  have hE : EnvOk (fun b => fx b ∨ b = p) H0 env σ (upd H p (.dK [])) := h.grow hp0 (fun b o e n z => z.elim n fun y => by rw [y, hp] at e; cases e) fun b z => by
    rcases z with z | z
    · obtain ⟨o, e⟩ := h.fxs b z; exact ⟨o, hp0 b o e⟩
    · rw [z]; exact ⟨_, zaw⟩
  refine h1 _ H0 env σ _ hE x ex _ fun v H1 s1 v1 => h2 _ H0 env σ H1 (hE.up s1) y ey _ fun u H2 s2 v2 => ?_
  have ep : H2 p = some (.dK []) := (s1.trans s2) _ _ zaw
  refine ⟨ep, [(k, u)], by rw [zait v1.rp ek]; rfl, (by show 1 ≤ 15; decide), ?_⟩
  have em : zme [] [(k, u)] = [(k, u)] := rfl
  rw [em]
  have rp2 : Rp (Offs (fun b => lim fx env σ y.bs b ∨ b = p) (upd H2 p (.dK [(k, u)]))) y.d u := by
    rw [Offs.upd (.inr rfl)]
    exact Rp.same (Offs.sub fun b z => by
      rcases z with (z | z) | z
      · exact .inl (.inl z)
      · exact .inr z
      · exact .inl (.inr z)) _ v2.rp
  have hs : Same H (upd H2 p (.dK [(k, u)])) := fun b o e => by
    rw [zbc (zbp e hp)]
    exact s2 _ _ (s1 _ _ (hp0 _ _ e))
  have hnp : ¬ lim fx env σ y.bs p := zfa (h.lims y.bs) hp
  refine q _ _ hs ⟨znk (by rw [Offs.get hnp]; exact zaw) (zlb ek (Rp.same (Offs.sub fun b z => .inl z) _ rp2) znl), fun _ => ⟨p, rfl, hp, ⟨_, zaw, zlb ek rp2 znl⟩⟩⟩
noncomputable abbrev GF := List PyData → Option (PyData × Bool)
noncomputable def SC (r : List V → Hp → VK → Prop) (g : GF) : Prop := ∀ (A : Addr → Prop) (H : Hp) (vs : List V) (ds : List PyData), (∀ b, A b → ∃ o, H b = some o) → Rps (Offs A H) ds vs → ∀ d fr, g ds = some (d, fr) → ∀ Q : VK,
  (∀ v H', Same H H' → Rp (Offs A H') d v → (fr = true → ∃ a, v = .ref a ∧ H a = none ∧ zgs (Offs (fun b => A b ∨ b = a) H') H' a d) → Q v H') → r vs H Q
noncomputable def eCB (g : GF) (f : AF) : EF := fun env => (f env).bind fun rs => (g (zio rs)).bind fun z => some ⟨z.1, z.2, bsOf z.1 (bss rs)⟩
theorem zhu {r : List V → Hp → VK → Prop} {g : GF} {ta : TA} {f : AF} (hc : SC r g) (ha : SA ta f) : SE (tCB r ta) (eCB g f) := by
  intro fx H0 env σ H h rr hr Q q
  unfold eCB at hr
  obtain ⟨rs, er, hr⟩ := Option.bind_eq_some_iff.mp hr
  obtain ⟨⟨d, fr⟩, ez, hr⟩ := Option.bind_eq_some_iff.mp hr
  cases hr
  refine ha fx H0 env σ H h rs er _ fun vs H1 s1 v1 => hc (lim fx env σ (bss rs)) H1 vs (zio rs) ((h.up s1).lims _) (zie (fun i hi => hi) v1) d fr ez _ fun w H3 s3 rp fr3 => q w H3 (s1.trans s3) ⟨znm rp, fun e => ?_⟩
  obtain ⟨a, g1, g2, g3⟩ := fr3 e
  refine ⟨a, g1, s1.free g2, ?_⟩
  have nf : zkf d = false := by cases d <;> first | rfl | exact g3.elim
  show zgs (Offs (fun b => lim fx env σ (bsOf d (bss rs)) b ∨ b = a) H3) H3 a d
  rw [show bsOf d (bss rs) = bss rs by unfold bsOf; rw [if_neg (by rw [nf]; decide)]]
  exact g3
theorem rps1 {H : Hp} {d : PyData} {vs : List V} (h : Rps H [d] vs) : ∃ v, vs = [v] ∧ Rp H d v := by
  unfold Rps at h
  obtain ⟨v, ws, rfl, h1, h2⟩ := h
  unfold Rps at h2
  subst h2
  exact ⟨v, rfl, h1⟩
theorem rps2 {H : Hp} {d e : PyData} {vs : List V} (h : Rps H [d, e] vs) : ∃ v u, vs = [v, u] ∧ Rp H d v ∧ Rp H e u := by
  unfold Rps at h
  obtain ⟨v, ws, rfl, h1, h2⟩ := h
  obtain ⟨u, rfl, h3⟩ := rps1 h2
  exact ⟨v, u, rfl, h1, h3⟩
noncomputable def lenD : GF
  | [.str x] => if x.length ≤ 100000 then some (.int x.length, false) else none
  | [.list ds] => some (.int ds.length, false)
  | [.tuple ds] => some (.int ds.length, false)
  | _ => none
theorem zmi {K : PySem.W.Frag} : SC (fun xs H Q => ∃ x n, xs = [x] ∧ LenV K x H n ∧ Q (.int n) H) lenD := by
  intro A H vs ds hA rv d fr e Q q
  unfold lenD at e
  split at e
  · split at e
    · rename_i hl
      cases e
      obtain ⟨v, rfl, r⟩ := rps1 rv
      cases zlj r
      exact ⟨_, _, rfl, ⟨zez hl, rfl⟩, q _ H (Same.refl _) zag (fun z => by cases z)⟩
    · cases e
  · cases e
    obtain ⟨v, rfl, r⟩ := rps1 rv
    obtain ⟨a, xs, rfl, h1, h2⟩ := zey r
    exact ⟨_, _, rfl, .inl ⟨xs, SqL.of (zds h1), rfl⟩, by rw [← h2.length]; exact q _ H (Same.refl _) zag (fun z => by cases z)⟩
  · cases e
    obtain ⟨v, rfl, r⟩ := rps1 rv
    obtain ⟨a, xs, rfl, h1, h2⟩ := zdv r
    exact ⟨_, _, rfl, .inr ⟨xs, SqT.of (zds h1), rfl⟩, by rw [← h2.length]; exact q _ H (Same.refl _) zag (fun z => by cases z)⟩
  · cases e
noncomputable def minD : GF
  | [.int i, .int j] => some (.int (if j < i then j else i), false)
  | _ => none
theorem zapo : SC (fun xs H Q => ∃ i j, xs = [.int i, .int j] ∧ Q (.int (if j < i then j else i)) H) minD := by
  intro A H vs ds hA rv d fr e Q q
  unfold minD at e
  split at e
  · cases e
    obtain ⟨v, u, rfl, r1, r2⟩ := rps2 rv
    cases zdr r1; cases zdr r2
    exact ⟨_, _, rfl, q _ H (Same.refl _) zag (fun z => by cases z)⟩
  · cases e
noncomputable def zuv : GF
  | [c] => (zgo c).map fun ds => (.list ds, true)
  | _ => none
theorem zuw {K : PySem.W.Frag} : SC (fun xs H Q => ∃ p ys, xs = [.ref p] ∧ (SqL K H p ys ∨ SqT K H p ys) ∧ ∀ l, H l = none → Q (.ref l) (upd H l (.lst ys))) zuv := by
  intro A H vs ds hA rv d fr e Q q
  unfold zuv at e
  split at e
  · obtain ⟨es, he, e⟩ := Option.map_eq_some_iff.mp e
    cases e
    obtain ⟨v, rfl, r1⟩ := rps1 rv
    obtain ⟨p, xs, rfl, hq, r⟩ := zabk (K := K) r1 he
    refine ⟨p, xs, rfl, hq.imp (Offs.same A H).seq (SqT.same (Offs.same A H)), fun l hl => ?_⟩
    exact q _ _ (Same.new hl) (zwt hl (zfa hA hl) r) fun _ => ⟨l, rfl, hl, zqh hl r⟩
  · cases e
noncomputable def zlk : GF
  | [c] => (zgo c).map fun ds => (.tuple ds, false)
  | _ => none
theorem zpt {K : PySem.W.Frag} : SC (fun xs H Q => ∃ p ys, xs = [.ref p] ∧ ((SqL K H p ys ∧ ∀ l, H l = none → Q (.ref l) (upd H l (.tup ys))) ∨ (SqT K H p ys ∧ Q (.ref p) H))) zlk := by
  intro A H vs ds hA rv d fr e Q q
  unfold zlk at e
  split at e
  · obtain ⟨es, he, e⟩ := Option.map_eq_some_iff.mp e
    cases e
    obtain ⟨v, rfl, r1⟩ := rps1 rv
    rename_i c
    cases c with
    | list ds =>
      cases he
      obtain ⟨p, xs, rfl, h1, r⟩ := zey r1
      exact ⟨p, xs, rfl, .inl ⟨SqL.of (zds h1), fun l hl => q _ _ (Same.new hl) (zno hl (zfa hA hl) r) (fun z => by cases z)⟩⟩
    | tuple ds =>
      cases he
      obtain ⟨p, xs, rfl, h1, r⟩ := zdv r1
      exact ⟨p, xs, rfl, .inr ⟨SqT.of (zds h1), q _ H (Same.refl _) r1 (fun z => by cases z)⟩⟩
    | _ => cases he
  · cases e
noncomputable def zor : List PyData → Option (List Bool)
  | [] => some []
  | .bool b :: r => (zor r).map fun bs => b :: bs
  | _ => none
theorem zwx {H : Hp} : ∀ {ds : List PyData} {vs : List V} {bs : List Bool}, Rps H ds vs → zor ds = some bs → vs = bs.map V.bl
  | [], vs, bs, h, e => by unfold Rps at h; cases e; exact h
  | d :: ds, vs, bs, h, e => by
    unfold Rps at h
    obtain ⟨v, ws, rfl, h1, h2⟩ := h
    cases d with
    | bool b =>
      obtain ⟨cs, ec, rfl⟩ := Option.map_eq_some_iff.mp e
      rw [zke h1, zwx h2 ec]; rfl
    | _ => cases e
noncomputable def anyD (f : List Bool → Bool) : GF
  | [.list ds] => (zor ds).map fun bs => (.bool (f bs), false)
  | _ => none
theorem zqm {K : PySem.W.Frag} {f : List Bool → Bool} : SC (rAny K f) (anyD f) := by
  intro A H vs ds hA rv d fr e Q q
  unfold anyD at e
  split at e
  · obtain ⟨bs, he, e⟩ := Option.map_eq_some_iff.mp e
    cases e
    obtain ⟨v, rfl, r1⟩ := rps1 rv
    obtain ⟨p, xs, rfl, h1, r⟩ := zey r1
    cases zwx r he
    exact ⟨p, bs, rfl, SqL.of (zds h1), q _ H (Same.refl _) zbu (fun z => by cases z)⟩
  · cases e
noncomputable def zmj : PyData → String
  | .none => "NoneType" | .bool _ => "bool" | .int _ => "int" | .str _ => "str" | .list _ => "list" | .tuple _ => "tuple" | .dict _ => "dict"
theorem zary {K : PySem.W.Frag} {H : Hp} {d : PyData} {v : V} (h : Rp H d v) : TyOf K H v (.type (zmj d)) := by
  cases d with
  | list ds => obtain ⟨a, xs, rfl, h1, _⟩ := zey h; exact .lst h1
  | tuple ds => obtain ⟨a, xs, rfl, h1, _⟩ := zdv h; exact .tup h1
  | dict ds => obtain ⟨a, xs, rfl, h1, _⟩ := zqf h; exact .dK h1
  | none => cases zafc h; exact .non
  | bool b => cases zke h; exact .bl _
  | int b => cases zdr h; exact .int _
  | str b => cases zlj h; exact .str _
noncomputable def isiB (n : String) (d : PyData) : Bool := zmj d == n || (zmj d == "bool" && n == "int")
noncomputable def eIsi (n : String) (a : EF) : EF := fun env => (a env).map fun x => ⟨.bool (isiB n x.d), false, []⟩
theorem zmk {K : PySem.W.Frag} {n : String} {te : TE} {f : EF} (h1 : SE te f) (hk : ∀ d, PySem.W.kitOne K (.type (zmj d)) (.type n) = some (isiB n d)) :
    SE (tCB (fun xs H Q => ∃ x n t b, xs = [x, .ty n] ∧ TyOf K H x t ∧ PySem.W.kitOne K t (.type n) = some b ∧ Q (.bl b) H) (tCons te (tCons (tC (.ty n)) tNil))) (eIsi n f) := by
  intro fx H0 env σ H h rr hr Q q
  unfold eIsi at hr
  obtain ⟨x, ex, rfl⟩ := Option.map_eq_some_iff.mp hr
  refine h1 fx H0 env σ H h _ ex _ fun v H1 s1 v1 => ?_
  exact ⟨v, n, _, _, rfl, zary (Rp.same (Offs.same _ _) _ v1.rp), hk _, q _ H1 s1 ⟨zbu, fun z => by cases z⟩⟩
theorem zabl {K : PySem.W.Frag} : ∀ d, PySem.W.kitOne K (.type (zmj d)) (.type "list") = some (isiB "list" d) := by intro d; cases d <;> rfl
theorem zqn {K : PySem.W.Frag} : ∀ d, PySem.W.kitOne K (.type (zmj d)) (.type "tuple") = some (isiB "tuple" d) := by intro d; cases d <;> rfl
theorem zafg {K : PySem.W.Frag} : ∀ d, PySem.W.kitOne K (.type (zmj d)) (.type "str") = some (isiB "str" d) := by intro d; cases d <;> rfl
theorem zamq {K : PySem.W.Frag} : ∀ d, PySem.W.kitOne K (.type (zmj d)) (.type "int") = some (isiB "int" d) := by intro d; cases d <;> rfl
theorem zaiv {K : PySem.W.Frag} : ∀ d, PySem.W.kitOne K (.type (zmj d)) (.type "bool") = some (isiB "bool" d) := by intro d; cases d <;> rfl
noncomputable abbrev PF' := DEnv → Option (Option Int)
noncomputable def SPt (t : TO) (f : PF') : Prop := ∀ (fx : Addr → Prop) (H0 : Hp) (env : DEnv) (σ : St) (H : Hp), EnvOk fx H0 env σ H → ∀ r, f env = some r → ∀ Q : Option Int → Hp → Prop, (∀ H', Same H H' → Q r H') → t σ H Q
noncomputable def zzp : PF' := fun _ => some none
noncomputable def zwy (a : EF) : PF' := fun env => (a env).bind fun x => match x.d with | .int i => some (some i) | _ => none
theorem zafh : SPt tNoPart zzp := by
  intro fx H0 env σ H h r hr Q q
  cases hr
  exact q H (Same.refl _)
theorem zafi {te : TE} {f : EF} (h1 : SE te f) : SPt (tPart te) (zwy f) := by
  intro fx H0 env σ H h r hr Q q
  unfold zwy at hr
  obtain ⟨⟨d, fr, bs⟩, ex, hr⟩ := Option.bind_eq_some_iff.mp hr
  cases d with
  | int i =>
    cases hr
    exact h1 fx H0 env σ H h _ ex _ fun v H1 s1 v1 => ⟨i, zdr v1.rp, q H1 s1⟩
  | _ => cases hr
noncomputable def cutD (xs : List PyData) (lo hi : Option Int) : List PyData := (xs.drop (HT.sIx xs.length 0 lo)).take (HT.sIx xs.length xs.length hi - HT.sIx xs.length 0 lo)
theorem Rps.drop {H : Hp} {ds : List PyData} {vs : List V} (h : Rps H ds vs) (n : Nat) : Rps H (ds.drop n) (vs.drop n) := by
  induction n generalizing ds vs with
  | zero => exact h
  | succ n ih =>
    cases ds with
    | nil => unfold Rps at h; subst h; exact zde
    | cons d ds => unfold Rps at h; obtain ⟨v, ws, rfl, h1, h2⟩ := h; exact ih h2
theorem Rps.take {H : Hp} {ds : List PyData} {vs : List V} (h : Rps H ds vs) (n : Nat) : Rps H (ds.take n) (vs.take n) := by
  induction n generalizing ds vs with
  | zero => exact zde
  | succ n ih =>
    cases ds with
    | nil => unfold Rps at h; subst h; exact zde
    | cons d ds => unfold Rps at h; obtain ⟨v, ws, rfl, h1, h2⟩ := h; exact zdw h1 (ih h2)
theorem Rps.cut {H : Hp} {ds : List PyData} {vs : List V} (h : Rps H ds vs) (lo hi : Option Int) : Rps H (cutD ds lo hi) (cutV vs lo hi) := by
  unfold cutD cutV
  rw [← h.length]
  exact (h.drop _).take _
noncomputable def slD (d : PyData) (lo hi : Option Int) : Option (PyData × Bool) := match d with
  | .str z => if z.length ≤ 100000 then some (.str (Txt.slice z lo hi), false) else none
  | .list ds => some (.list (cutD ds lo hi), true)
  | _ => none
noncomputable def eSl (a : EF) (l h : PF') : EF := fun env => (a env).bind fun x => (l env).bind fun lo => (h env).bind fun hi => (slD x.d lo hi).bind fun z => some ⟨z.1, z.2, bsOf z.1 x.bs⟩
theorem zapp {K : PySem.W.Frag} {te : TE} {tl th : TO} {f : EF} {fl fh : PF'} (h1 : SE te f) (h2 : SPt tl fl) (h3 : SPt th fh) : SE (tSl (rSlU K) te tl th) (eSl f fl fh) := by
  intro fx H0 env σ H h rr hr Q q
  unfold eSl at hr
  obtain ⟨⟨d, frd, bs⟩, ex, hr⟩ := Option.bind_eq_some_iff.mp hr
  obtain ⟨lo, el, hr⟩ := Option.bind_eq_some_iff.mp hr
  obtain ⟨hi, eh, hr⟩ := Option.bind_eq_some_iff.mp hr
  obtain ⟨⟨d', fr'⟩, ez, hr⟩ := Option.bind_eq_some_iff.mp hr
  cases hr
  refine h1 fx H0 env σ H h _ ex _ fun v H1 s1 v1 => h2 fx H0 env σ H1 (h.up s1) _ el _ fun H2 s2 => h3 fx H0 env σ H2 (h.up (s1.trans s2)) _ eh _ fun H3 s3 => ?_
  have v3 := (v1.later (Same.refl _) (s2.trans s3) fun _ z => z).rp
  have t3 := (s1.trans s2).trans s3
  cases d with
  | str z =>
    have ez : (if z.length ≤ 100000 then some (PyData.str (Txt.slice z lo hi), false) else none) = some (d', fr') := ez
    split at ez
    · rename_i hl
      cases ez
      cases zlj v3
      exact ⟨zez hl, q _ H3 t3 ⟨zbs, fun z => by cases z⟩⟩
    · cases ez
  | list ds =>
    cases ez
    obtain ⟨p, xs, rfl, hp, r⟩ := zey v3
    refine ⟨p, xs, rfl, SqL.of (zds hp), fun l hl => q _ _ (t3.trans (Same.new hl)) ?_⟩
    have hA := (h.up t3).lims bs
    exact ⟨zwt hl (zfa hA hl) (r.cut lo hi), fun _ => ⟨l, rfl, t3.free hl, zqh hl (r.cut lo hi)⟩⟩
  | _ => cases ez
noncomputable def zwz (fx : Addr → Prop) (H0 : Hp) (d : PyData) (fr : Bool) (v : V) (H : Hp) : Prop := Rp (Offs fx H) d v ∧ (fr = true → ∃ a, v = .ref a ∧ H0 a = none ∧ zgs (Offs (fun b => fx b ∨ b = a) H) H a d)
noncomputable def spD (n : Nat) (g : GF) : Sp := fun vs H Q _ => ∃ (fx : Addr → Prop) (ds : List PyData) (d : PyData) (fr : Bool), ds.length = n ∧ (∀ b, fx b → ∃ o, H b = some o) ∧ Rps (Offs fx H) ds vs ∧ g ds = some (d, fr) ∧ ∀ v H', Same H H' → zwz fx H d fr v H' → Q v H'
noncomputable def zbd (n : Nat) (g : GF) (f : AF) : EF := fun env => (f env).bind fun rs => if rs.length = n then (g (zio rs)).bind fun z => some ⟨z.1, z.2, bsOf z.1 (bss rs)⟩ else none
theorem zbg {n : Nat} {g : GF} {ta : TA} {f : AF} (ha : SA ta f) : SE (tCall (spD n g) [] E0 ta) (zbd n g f) := by
  intro fx H0 env σ H h rr hr Q q
  unfold zbd at hr
  obtain ⟨rs, er, hr⟩ := Option.bind_eq_some_iff.mp hr
  split at hr
  · rename_i hn
    obtain ⟨⟨d, fr⟩, ez, hr⟩ := Option.bind_eq_some_iff.mp hr
    cases hr
    refine ha fx H0 env σ H h rs er _ fun vs H1 s1 v1 => ?_
    rw [List.append_nil]
    refine ⟨lim fx env σ (bss rs), zio rs, d, fr, by rw [zkh]; exact hn, (h.up s1).lims _, zie (fun i hi => hi) v1, ez, fun w H3 s3 ⟨rp, fr3⟩ => q w H3 (s1.trans s3) ⟨znm rp, fun e => ?_⟩⟩
    obtain ⟨a, g1, g2, g3⟩ := fr3 e
    refine ⟨a, g1, s1.free g2, ?_⟩
    have nf : zkf d = false := by cases d <;> first | rfl | exact g3.elim
    show zgs (Offs (fun b => lim fx env σ (bsOf d (bss rs)) b ∨ b = a) H3) H3 a d
    rw [show bsOf d (bss rs) = bss rs by unfold bsOf; rw [if_neg (by rw [nf]; decide)]]
    exact g3
  · cases hr
end L2
namespace L2
open PySem PySem.Spec PyProof.Rows
inductive Out where
  | nx (env : DEnv)
  | bk (env : DEnv)
  | ct (env : DEnv)
  | rt (d : PyData) (fr : Bool)
noncomputable def Sat (fx : Addr → Prop) (H0 : Hp) (D : Ends) : Out → Prop
  | .nx env => ∀ σ H, EnvOk fx H0 env σ H → D.nx σ H
  | .bk env => ∀ σ H, EnvOk fx H0 env σ H → D.bk σ H
  | .ct env => ∀ σ H, EnvOk fx H0 env σ H → D.ct σ H
  | .rt d fr => ∀ v H, Same H0 H → zwz fx H0 d fr v H → D.rt v H
noncomputable abbrev SF := DEnv → Option Out
noncomputable def SS (ts : TS) (F : SF) : Prop := ∀ (fx : Addr → Prop) (H0 : Hp) (env : DEnv) (σ : St) (H : Hp) (D : Ends), EnvOk fx H0 env σ H → ∀ o, F env = some o → Sat fx H0 D o → ts D σ H
noncomputable def frz1 (env : DEnv) (i : Nat) : DEnv := match env[i]? with
  | some (.ac d) => env.set i (.pl d)
  | _ => env
noncomputable def frzs (env : DEnv) (bs : List Nat) : DEnv := bs.foldl frz1 env
theorem zaiw (env : DEnv) (i : Nat) : (frz1 env i).length = env.length := by
  unfold frz1; split
  · rw [List.length_set]
  · rfl
theorem zeg {α : Type} {l : List α} {i j : Nat} {x y : α} (h : (l.set i x)[j]? = some y) : (j = i ∧ y = x) ∨ (j ≠ i ∧ l[j]? = some y) := by
  rw [List.getElem?_set] at h
  by_cases e : i = j
  · subst e
    rw [if_pos rfl] at h
    split at h
    · exact .inl ⟨rfl, (Option.some.inj h).symm⟩
    · cases h
  · rw [if_neg e] at h
    exact .inr ⟨fun z => e z.symm, h⟩
theorem znr {env : DEnv} {i j : Nat} {d : PyData} (h : (frz1 env i)[j]? = some (.ac d)) : env[j]? = some (.ac d) ∧ j ≠ i := by
  unfold frz1 at h
  split at h
  · rcases zeg h with ⟨_, e⟩ | ⟨e, h⟩
    · cases e
    · exact ⟨h, e⟩
  · rename_i hn
    refine ⟨h, fun e => ?_⟩
    subst e
    exact hn d h
theorem zamr {env : DEnv} {i j : Nat} {d : PyData} (h : (frz1 env i)[j]? = some (.pl d)) : env[j]? = some (.pl d) ∨ (j = i ∧ env[i]? = some (.ac d)) := by
  unfold frz1 at h
  split at h
  · rename_i d' hd
    rcases zeg h with ⟨e1, e⟩ | ⟨e, h⟩
    · cases e; exact .inr ⟨e1, hd⟩
    · exact .inl h
  · exact .inl h
theorem zaix {env : DEnv} {σ : St} {i : Nat} : ∀ a, own (frz1 env i) σ a → own env σ a := by
  rintro a ⟨j, d, h1, h2⟩
  exact ⟨j, d, (znr h1).1, h2⟩
theorem EnvOk.frz1 {fx : Addr → Prop} {H0 : Hp} {env : DEnv} {σ : St} {H : Hp} (h : EnvOk fx H0 env σ H) (i : Nat) : EnvOk fx H0 (frz1 env i) σ H := by
  have so : Same (Offs (fun a => fx a ∨ own env σ a) H) (Offs (fun a => fx a ∨ own (L2.frz1 env i) σ a) H) := Offs.sub fun b z => z.imp (fun y => y) (zaix b)
  refine ⟨by rw [zaiw]; exact h.len, fun j d e => ?_, fun j d e => ?_, fun j k d d' a h1 h2 h3 h4 => h.inj j k d d' a (znr h1).1 (znr h2).1 h3 h4, h.base, h.fxs⟩
  · rcases zamr e with e | ⟨rfl, e⟩
    · obtain ⟨v, h1, h2⟩ := h.pl j d e
      exact ⟨v, h1, Rp.same so _ h2⟩
    · obtain ⟨a, h1, h2, h3, h4⟩ := h.ac j d e
      refine ⟨_, h1, h4.rp so fun o eo => ?_⟩
      rw [Offs.get]
      · exact eo
      · rintro (z | ⟨k, d', z1, z2⟩)
        · exact h3 z
        · obtain ⟨z1, z3⟩ := znr z1
          exact z3 (h.inj k j d' d a z1 e z2 h1)
  · obtain ⟨a, h1, h2, h3, h4⟩ := h.ac j d (znr e).1
    exact ⟨a, h1, h2, h3, h4.same so fun o z => z⟩
theorem EnvOk.frzs {fx : Addr → Prop} {H0 : Hp} {σ : St} {H : Hp} : ∀ (bs : List Nat) {env : DEnv}, EnvOk fx H0 env σ H → EnvOk fx H0 (frzs env bs) σ H
  | [], _, h => h
  | i :: bs, _, h => EnvOk.frzs bs (h.frz1 i)
theorem zafj : ∀ {bs : List Nat} {env : DEnv} {j : Nat} {d : PyData}, (frzs env bs)[j]? = some (.ac d) → env[j]? = some (.ac d) ∧ j ∉ bs
  | [], _, _, _, h => ⟨h, by simp⟩
  | i :: bs, env, j, d, h => by
    obtain ⟨h1, h2⟩ := zafj (bs := bs) h
    obtain ⟨h3, h4⟩ := znr h1
    exact ⟨h3, by simp [h4, h2]⟩
theorem zej {fx : Addr → Prop} {env : DEnv} {σ : St} {bs : List Nat} : ∀ a, fx a ∨ own (frzs env bs) σ a → lim fx env σ bs a := by
  rintro a (z | ⟨i, d, h1, h2⟩)
  · exact .inl z
  · obtain ⟨h3, h4⟩ := zafj h1
    exact .inr ⟨i, d, h4, h3, h2⟩
theorem zzq {env : DEnv} {σ : St} {i : Nat} {d : PyData} {v : V} : ∀ a, own (env.set i (.pl d)) (σ.set i (some v)) a → own env σ a := by
  rintro a ⟨j, e, h1, h2⟩
  rcases zeg h1 with ⟨_, z⟩ | ⟨ne, h1⟩
  · cases z
  · rcases zeg h2 with ⟨z, _⟩ | ⟨_, h2⟩
    · exact absurd z ne
    · exact ⟨j, e, h1, h2⟩
theorem EnvOk.setPl {fx : Addr → Prop} {H0 : Hp} {env : DEnv} {σ : St} {H : Hp} (h : EnvOk fx H0 env σ H) (i : Nat) {d : PyData} {v : V} (r : Rp (Offs (fun a => fx a ∨ own env σ a) H) d v) : EnvOk fx H0 (env.set i (.pl d)) (σ.set i (some v)) H := by
  have so : Same (Offs (fun a => fx a ∨ own env σ a) H) (Offs (fun a => fx a ∨ own (env.set i (.pl d)) (σ.set i (some v)) a) H) := Offs.sub fun b z => z.imp (fun y => y) (zzq b)
  have kept : ∀ {j : Nat}, j ≠ i → (σ.set i (some v))[j]? = σ[j]? := fun {j} n => List.getElem?_set_ne fun z => n z.symm
  refine ⟨by rw [List.length_set, List.length_set]; exact h.len, fun j e hj => ?_, fun j e hj => ?_, fun j k d1 d2 a h1 h2 h3 h4 => ?_, h.base, h.fxs⟩
  · rcases zeg hj with ⟨rfl, z⟩ | ⟨ne, hj'⟩
    · cases z
      have hl : j < env.length := by have := (List.getElem?_eq_some_iff.mp hj).1; rwa [List.length_set] at this
      exact ⟨v, by rw [List.getElem?_set_self (by rw [← h.len]; exact hl)], Rp.same so _ r⟩
    · obtain ⟨u, h1, h2⟩ := h.pl j e hj'
      exact ⟨u, by rw [kept ne]; exact h1, Rp.same so _ h2⟩
  · rcases zeg hj with ⟨_, z⟩ | ⟨ne, hj'⟩
    · cases z
    · obtain ⟨a, h1, h2, h3, h4⟩ := h.ac j e hj'
      exact ⟨a, by rw [kept ne]; exact h1, h2, h3, h4.same so fun o z => z⟩
  · rcases zeg h1 with ⟨_, z⟩ | ⟨n1, h1⟩
    · cases z
    rcases zeg h2 with ⟨_, z⟩ | ⟨n2, h2⟩
    · cases z
    rw [kept n1] at h3
    rw [kept n2] at h4
    exact h.inj j k d1 d2 a h1 h2 h3 h4
theorem EnvOk.setAc {fx : Addr → Prop} {H0 : Hp} {env : DEnv} {σ : St} {H : Hp} {a : Addr} (h : EnvOk (fun b => fx b ∨ b = a) H0 env σ H) (i : Nat) {d : PyData} (r : zgs (Offs (fun b => (fx b ∨ own env σ b) ∨ b = a) H) H a d) (h0 : H0 a = none) (hf : ¬ fx a) :
    EnvOk fx H0 (env.set i (.ac d)) (σ.set i (some (.ref a))) H := by
  have kept : ∀ {j : Nat}, j ≠ i → (σ.set i (some (V.ref a)))[j]? = σ[j]? := fun {j} n => List.getElem?_set_ne fun z => n z.symm
  have sub : ∀ b, fx b ∨ own (env.set i (.ac d)) (σ.set i (some (.ref a))) b → (fx b ∨ b = a) ∨ own env σ b := by
    rintro b (z | ⟨j, e, h1, h2⟩)
    · exact .inl (.inl z)
    · rcases zeg h1 with ⟨rfl, z⟩ | ⟨ne, h1⟩
      · have hl : j < env.length := by have := (List.getElem?_eq_some_iff.mp ‹(env.set j (.ac d))[j]? = _›).1; rwa [List.length_set] at this
        rw [List.getElem?_set_self (by rw [← h.len]; exact hl)] at h2
        cases h2
        exact .inl (.inr rfl)
      · rw [kept ne] at h2
        exact .inr ⟨j, e, h1, h2⟩
  have so : Same (Offs (fun b => (fx b ∨ b = a) ∨ own env σ b) H) (Offs (fun b => fx b ∨ own (env.set i (.ac d)) (σ.set i (some (.ref a))) b) H) := Offs.sub sub
  have so2 : Same (Offs (fun b => (fx b ∨ own env σ b) ∨ b = a) H) (Offs (fun b => fx b ∨ own (env.set i (.ac d)) (σ.set i (some (.ref a))) b) H) := Offs.sub fun b z => by
    rcases sub b z with (y | y) | y
    · exact .inl (.inl y)
    · exact .inr y
    · exact .inl (.inr y)
  refine ⟨by rw [List.length_set, List.length_set]; exact h.len, fun j e hj => ?_, fun j e hj => ?_, fun j k d1 d2 b h1 h2 h3 h4 => ?_, h.base, fun b z => h.fxs b (.inl z)⟩
  · rcases zeg hj with ⟨_, z⟩ | ⟨ne, hj'⟩
    · cases z
    · obtain ⟨u, h1, h2⟩ := h.pl j e hj'
      exact ⟨u, by rw [kept ne]; exact h1, Rp.same so _ h2⟩
  · rcases zeg hj with ⟨rfl, z⟩ | ⟨ne, hj'⟩
    · cases z
      have hl : j < env.length := by have := (List.getElem?_eq_some_iff.mp hj).1; rwa [List.length_set] at this
      exact ⟨a, by rw [List.getElem?_set_self (by rw [← h.len]; exact hl)], h0, hf, r.same so2 fun o z => z⟩
    · obtain ⟨b, h1, h2, h3, h4⟩ := h.ac j e hj'
      exact ⟨b, by rw [kept ne]; exact h1, h2, fun z => h3 (.inl z), h4.same so fun o z => z⟩
  · rcases zeg h1 with ⟨e1, z1⟩ | ⟨n1, h1'⟩ <;> rcases zeg h2 with ⟨e2, z2⟩ | ⟨n2, h2'⟩
    · rw [e1, e2]
    · subst e1
      have hl : j < env.length := by have := (List.getElem?_eq_some_iff.mp h1).1; rwa [List.length_set] at this
      rw [List.getElem?_set_self (by rw [← h.len]; exact hl)] at h3
      rw [kept n2] at h4
      cases h3
      obtain ⟨b, g1, g2, g3, g4⟩ := h.ac k d2 h2'
      rw [h4] at g1
      cases g1
      exact absurd (.inr rfl) g3
    · subst e2
      have hl : k < env.length := by have := (List.getElem?_eq_some_iff.mp h2).1; rwa [List.length_set] at this
      rw [List.getElem?_set_self (by rw [← h.len]; exact hl)] at h4
      rw [kept n1] at h3
      cases h4
      obtain ⟨b, g1, g2, g3, g4⟩ := h.ac j d1 h1'
      rw [h3] at g1
      cases g1
      exact absurd (.inr rfl) g3
    · rw [kept n1] at h3
      rw [kept n2] at h4
      exact h.inj j k d1 d2 b h1' h2' h3 h4
noncomputable def slOf (r : Val) : Sl := if r.fr = true then .ac r.d else .pl r.d
noncomputable def putV (env : DEnv) (i : Nat) (r : Val) : DEnv := (frzs env r.bs).set i (slOf r)
theorem EnvOk.put {fx : Addr → Prop} {H0 : Hp} {env : DEnv} {σ : St} {H H' : Hp} (h : EnvOk fx H0 env σ H) (s : Same H H') {r : Val} {v : V} (hv : ValOk (lim fx env σ r.bs) H H' r v) (i : Nat) : EnvOk fx H0 (putV env i r) (σ.set i (some v)) H' := by
  unfold putV slOf
  cases e : r.fr with
  | false =>
    rw [if_neg Bool.false_ne_true]
    exact ((h.up s).frzs r.bs).setPl i (Rp.same (Offs.sub zej) _ hv.rp)
  | true =>
    rw [if_pos rfl]
    obtain ⟨a, rfl, ha, hacc⟩ := hv.fr e
    have nfx : ¬ fx a := zfa h.fxs ha
    have g : EnvOk (fun b => fx b ∨ b = a) H0 env σ H' := h.grow s (fun b o eo n z => z.elim n fun y => by rw [y, ha] at eo; cases eo) fun b z => by
      rcases z with z | z
      · obtain ⟨o, eo⟩ := h.fxs b z; exact ⟨o, s b o eo⟩
      · rw [z]; exact hacc.ex
    refine (g.frzs r.bs).setAc i (hacc.same (Offs.sub fun b z => ?_) fun o z => z) (h.base.free ha) nfx
    rcases z with z | z
    · exact .inl (zej b z)
    · exact .inr z
noncomputable def sNil : SF := fun env => some (.nx env)
noncomputable def sSeq (f g : SF) : SF := fun env => (f env).bind fun o => match o with
  | .nx env' => g env'
  | o => some o
theorem ziq : SS tNext sNil := by
  intro fx H0 env σ H D h o e q
  cases e
  exact q σ H h
theorem zcc {t u : TS} {f g : SF} (h1 : SS t f) (h2 : SS u g) : SS (tSeq t u) (sSeq f g) := by
  intro fx H0 env σ H D h o e q
  unfold sSeq at e
  obtain ⟨o1, e1, e⟩ := Option.bind_eq_some_iff.mp e
  refine h1 fx H0 env σ H _ h o1 e1 ?_
  cases o1 with
  | nx env' => exact fun σ' H' h' => h2 fx H0 env' σ' H' D h' o e q
  | bk env' => cases e; exact q
  | ct env' => cases e; exact q
  | rt d fr => cases e; exact q
noncomputable def zabm : SF := fun _ => none
theorem zabn : SS tNever zabm := by
  intro fx H0 env σ H D h o e q
  cases e
noncomputable def zada (f : EF) : SF := fun env => (f env).map fun _ => .nx env
theorem zafk {te : TE} {f : EF} (h1 : SE te f) : SS (tDrop te) (zada f) := by
  intro fx H0 env σ H D h o e q
  unfold zada at e
  obtain ⟨r, er, rfl⟩ := Option.map_eq_some_iff.mp e
  exact h1 fx H0 env σ H h r er _ fun v H' s _ => q σ H' (h.up s)
noncomputable def sRet (f : EF) : SF := fun env => (f env).map fun r => .rt r.d r.fr
theorem zcu {te : TE} {f : EF} (h1 : SE te f) : SS (tRet te) (sRet f) := by
  intro fx H0 env σ H D h o e q
  unfold sRet at e
  obtain ⟨r, er, rfl⟩ := Option.map_eq_some_iff.mp e
  refine h1 fx H0 env σ H h r er _ fun v H' s hv => q v H' (h.base.trans s) ⟨Rp.same (Offs.sub fun b z => .inl z) _ hv.rp, fun z => ?_⟩
  obtain ⟨a, g1, g2, g3⟩ := hv.fr z
  exact ⟨a, g1, h.base.free g2, g3.same (Offs.sub fun b y => y.imp .inl id) fun o z => z⟩
noncomputable def zns (i : Nat) : SF := fun env => match env[i]? with
  | some (.pl d) => some (.rt d false)
  | some (.ac d) => some (.rt d true)
  | _ => none
theorem znt {i : Nat} : SS (tRet (tVar i)) (zns i) := by
  intro fx H0 env σ H D h o e q
  unfold zns at e
  cases ei : env[i]? with
  | none => rw [ei] at e; cases e
  | some sl =>
    rw [ei] at e
    cases sl with
    | no => cases e
    | pl d =>
      cases e
      obtain ⟨v, h1, h2⟩ := h.pl i d ei
      exact ⟨v, h1, q v H h.base ⟨Rp.same (Offs.sub fun b z => .inl z) _ h2, fun z => by cases z⟩⟩
    | ac d =>
      cases e
      obtain ⟨a, h1, h2, h3, h4⟩ := h.ac i d ei
      refine ⟨_, h1, q _ H h.base ⟨h4.rp (Offs.sub fun b z => .inl z) fun o eo => by rw [Offs.get h3]; exact eo, fun _ => ⟨a, rfl, h2, h4.same (Offs.sub fun b z => ?_) fun o z => z⟩⟩⟩
      rcases z with z | z
      · exact .inl z
      · rw [z]; exact .inr ⟨i, d, ei, h1⟩
noncomputable def sIf (c : TF) (f g : SF) : SF := fun env => (c env).bind fun b => if b = true then f env else g env
theorem znu {tc : TT} {t u : TS} {c : TF} {f g : SF} (hc : ST tc c) (h1 : SS t f) (h2 : SS u g) : SS (tIfS tc t u) (sIf c f g) := by
  intro fx H0 env σ H D h o e q
  unfold sIf at e
  obtain ⟨b, eb, e⟩ := Option.bind_eq_some_iff.mp e
  refine hc fx H0 env σ H h b eb _ fun H' s => ?_
  cases b with
  | true => exact iteT (h1 fx H0 env σ H' D (h.up s) o e q)
  | false => exact iteF (h2 fx H0 env σ H' D (h.up s) o e q)
noncomputable def sSet (i : Nat) (f : EF) : SF := fun env => (f env).map fun r => .nx (putV env i r)
theorem zhv {te : TE} {f : EF} {i : Nat} (h1 : SE te f) : SS (tAsg te (gName i)) (sSet i f) := by
  intro fx H0 env σ H D h o e q
  unfold sSet at e
  obtain ⟨r, er, rfl⟩ := Option.map_eq_some_iff.mp e
  exact h1 fx H0 env σ H h r er _ fun v H' s hv => q _ H' (h.put s hv i)
noncomputable abbrev GT := PyData → DEnv → Option DEnv
noncomputable def SG (g : TG) (f : GT) : Prop := ∀ (fx : Addr → Prop) (H0 : Hp) (env : DEnv) (σ : St) (H : Hp) (d : PyData) (v : V), EnvOk fx H0 env σ H → Rp (Offs (fun a => fx a ∨ own env σ a) H) d v → ∀ env', f d env = some env' → ∀ Q : St → Hp → Prop,
  (∀ σ', EnvOk fx H0 env' σ' H → Q σ' H) → g v σ H Q
noncomputable abbrev GTs := List PyData → DEnv → Option DEnv
noncomputable def SGs (g : TGs) (f : GTs) : Prop := ∀ (fx : Addr → Prop) (H0 : Hp) (env : DEnv) (σ : St) (H : Hp) (ds : List PyData) (vs : List V), EnvOk fx H0 env σ H → Rps (Offs (fun a => fx a ∨ own env σ a) H) ds vs → ∀ env', f ds env = some env' → ∀ Q : St → Hp → Prop,
  (∀ σ', EnvOk fx H0 env' σ' H → Q σ' H) → g vs σ H Q
noncomputable def gN (i : Nat) : GT := fun d env => some (env.set i (.pl d))
theorem zcv {i : Nat} : SG (gName i) (gN i) := by
  intro fx H0 env σ H d v h r env' e Q q
  cases e
  exact q _ (h.setPl i r)
noncomputable def zea : GTs := fun ds env => match ds with | [] => some env | _ => none
noncomputable def zau (i : Nat) (g : GTs) : GTs := fun ds env => match ds with | d :: r => g r (env.set i (.pl d)) | [] => none
theorem zeq : SGs gNil zea := by
  intro fx H0 env σ H ds vs h r env' e Q q
  cases ds with
  | nil => cases e; unfold Rps at r; exact ⟨r, q _ h⟩
  | cons _ _ => cases e
theorem zax {i : Nat} {t : TGs} {g : GTs} (h1 : SGs t g) : SGs (gCons (gName i) t) (zau i g) := by
  intro fx H0 env σ H ds vs h r env' e Q q
  cases ds with
  | nil => cases e
  | cons d ds =>
    unfold Rps at r
    obtain ⟨v, ws, rfl, r1, r2⟩ := r
    refine ⟨v, ws, rfl, h1 fx H0 (env.set i (.pl d)) _ H ds ws (h.setPl i r1) (Rps.same (Offs.sub fun b z => z.imp (fun y => y) (zzq b)) _ r2) env' e Q q⟩
noncomputable def gT (n : Nat) (g : GTs) : GT := fun d env => match d with | .tuple ds => if ds.length = n then g ds env else none | _ => none
theorem zgy {K : PySem.W.Frag} {n : Nat} {t : TGs} {g : GTs} (h1 : SGs t g) : SG (gTup K n t) (gT n g) := by
  intro fx H0 env σ H d v h r env' e Q q
  unfold gT at e
  cases d with
  | tuple ds =>
    have e : (if ds.length = n then g ds env else none) = some env' := e
    split at e
    · rename_i hn
      obtain ⟨a, xs, rfl, ha, rs⟩ := zdv r
      exact ⟨a, xs, rfl, SqT.of (zds ha), by rw [← rs.length]; exact hn, h1 fx H0 env σ H ds xs h rs env' e Q q⟩
    · cases e
  | _ => cases e
noncomputable def sAsg (f : EF) (g : GT) : SF := fun env => (f env).bind fun r => (g r.d (frzs env r.bs)).map .nx
theorem zafl {te : TE} {f : EF} {g : TG} {gf : GT} (h1 : SE te f) (h2 : SG g gf) : SS (tAsg te g) (sAsg f gf) := by
  intro fx H0 env σ H D h o e q
  unfold sAsg at e
  obtain ⟨r, er, e⟩ := Option.bind_eq_some_iff.mp e
  obtain ⟨env', e', rfl⟩ := Option.map_eq_some_iff.mp e
  exact h1 fx H0 env σ H h r er _ fun v H' s hv => h2 fx H0 _ σ H' r.d v ((h.up s).frzs r.bs) (Rp.same (Offs.sub zej) _ hv.rp) env' e' _ fun σ' h' => q σ' H' h'
theorem EnvOk.mut {fx : Addr → Prop} {H0 : Hp} {env : DEnv} {σ : St} {H : Hp} (h : EnvOk fx H0 env σ H) {i : Nat} {d d' : PyData} {a : Addr} {o : HO} (e : env[i]? = some (.ac d)) (ea : σ[i]? = some (some (.ref a)))
    (r : zgs (Offs (fun b => fx b ∨ own env σ b) H) (upd H a o) a d') : EnvOk fx H0 (env.set i (.ac d')) σ (upd H a o) := by
  have hl : i < env.length := (List.getElem?_eq_some_iff.mp e).1
  have oa : own env σ a := ⟨i, d, e, ea⟩
  have ow : ∀ b, own (env.set i (.ac d')) σ b ↔ own env σ b := by
    intro b
    constructor
    · rintro ⟨j, d1, h1, h2⟩
      rcases zeg h1 with ⟨rfl, z⟩ | ⟨ne, h1⟩
      · exact ⟨j, d, e, h2⟩
      · exact ⟨j, d1, h1, h2⟩
    · rintro ⟨j, d1, h1, h2⟩
      by_cases hj : j = i
      · subst hj; exact ⟨j, d', by rw [List.getElem?_set_self hl], h2⟩
      · exact ⟨j, d1, by rw [List.getElem?_set_ne fun z => hj z.symm]; exact h1, h2⟩
  have so : Same (Offs (fun b => fx b ∨ own env σ b) H) (Offs (fun b => fx b ∨ own (env.set i (.ac d')) σ b) (upd H a o)) := by
    have : Same (Offs (fun b => fx b ∨ own env σ b) (upd H a o)) (Offs (fun b => fx b ∨ own (env.set i (.ac d')) σ b) (upd H a o)) := Offs.sub fun b z => z.imp (fun y => y) (ow b).mp
    rw [Offs.upd (.inr oa)] at this
    exact this
  obtain ⟨a', g1, g2, g3, g4⟩ := h.ac i d e
  rw [ea] at g1
  cases g1
  refine ⟨by rw [List.length_set]; exact h.len, fun j d1 hj => ?_, fun j d1 hj => ?_, fun j k d1 d2 b h1 h2 h3 h4 => ?_, fun b u eb => by rw [zbc (zbp eb g2)]; exact h.base b u eb, fun b z => ?_⟩
  · rcases zeg hj with ⟨_, z⟩ | ⟨ne, hj'⟩
    · cases z
    · obtain ⟨u, h1, h2⟩ := h.pl j d1 hj'
      exact ⟨u, h1, Rp.same so _ h2⟩
  · rcases zeg hj with ⟨rfl, z⟩ | ⟨ne, hj'⟩
    · cases z
      exact ⟨a, ea, g2, g3, r.same so fun o z => z⟩
    · obtain ⟨b, h1, h2, h3, h4⟩ := h.ac j d1 hj'
      refine ⟨b, h1, h2, h3, h4.same so fun o' z => ?_⟩
      rw [zbc fun y => ne (h.inj j i d1 d a hj' e (by rw [← y]; exact h1) ea)]
      exact z
  · have f : ∀ {j : Nat} {d1 : PyData}, (env.set i (.ac d'))[j]? = some (.ac d1) → ∃ d2, env[j]? = some (.ac d2) := fun {j d1} hj => by
      rcases zeg hj with ⟨rfl, z⟩ | ⟨ne, hj'⟩
      · exact ⟨d, e⟩
      · exact ⟨d1, hj'⟩
    obtain ⟨e1, h1⟩ := f h1
    obtain ⟨e2, h2⟩ := f h2
    exact h.inj j k e1 e2 b h1 h2 h3 h4
  · obtain ⟨u, eu⟩ := h.fxs b z
    exact ⟨u, by rw [zbc fun y => g3 (by rw [← y]; exact z)]; exact eu⟩
noncomputable def sApp (i : Nat) (f : EF) : SF := fun env => match env[i]? with
  | some (.ac (.list ds)) => (f env).bind fun r => if ds.length < 100000 ∧ i ∉ r.bs then some (.nx ((frzs env r.bs).set i (.ac (.list (ds ++ [r.d]))))) else none
  | _ => none
theorem zhb {env : DEnv} {i : Nat} {d : PyData} : ∀ {bs : List Nat}, i ∉ bs → env[i]? = some (.ac d) → (frzs env bs)[i]? = some (.ac d) := by
  intro bs
  induction bs generalizing env with
  | nil => intro _ e; exact e
  | cons j bs ih =>
    intro hn e
    have hj : i ≠ j := fun z => hn (by simp [z])
    refine ih (fun z => hn (List.mem_cons_of_mem _ z)) ?_
    unfold frz1
    split
    · rw [List.getElem?_set_ne fun z => hj z.symm]; exact e
    · exact e
theorem zapq {K : PySem.W.Frag} {i : Nat} {te : TE} {f : EF} (h1 : SE te f) : SS (tDrop (tBM K "list" zzf (tVar i) (tCons te tNil))) (sApp i f) := by
  intro fx H0 env σ H D h o e q
  unfold sApp at e
  split at e
  · rename_i ds ei
    obtain ⟨r, er, e⟩ := Option.bind_eq_some_iff.mp e
    split at e
    · rename_i hl
      cases e
      obtain ⟨a, g1, g2, g3, g4⟩ := h.ac i _ ei
      obtain ⟨xs, hx, rx⟩ := g4
      refine ⟨_, g1, .inl ⟨rfl, _, SqL.of hx⟩, h1 fx H0 env σ H h r er _ fun v H' s hv => ?_⟩
      have h' := (h.up s).frzs r.bs
      have ei' := zhb hl.2 ei
      have hx' := s _ _ hx
      have rx' : Rps (Offs (fun b => fx b ∨ own (frzs env r.bs) σ b) H') ds xs := by
        obtain ⟨a', z1, _, _, z4⟩ := h'.ac i _ ei'
        rw [g1] at z1
        cases z1
        obtain ⟨ys, y1, y2⟩ := z4
        rw [hx'] at y1
        cases y1
        exact y2
      refine ⟨a, xs, v, rfl, rfl, hx', znn (by rw [← rx.length]; exact hl.1), ?_⟩
      refine q σ _ (h'.mut ei' g1 ⟨_, zaw, rx'.append (zdw (Rp.same (Offs.sub zej) _ hv.rp) zde)⟩)
    · cases e
  · cases e
noncomputable def sPut (i : Nat) (fk fv : EF) : SF := fun env => match env[i]? with
  | some (.ac (.dict kvs)) => (fv env).bind fun r => (fk env).bind fun k => (keyD k.d).bind fun _ => if kvs.length < 100000 ∧ i ∉ r.bs then some (.nx ((frzs env r.bs).set i (.ac (.dict (znp kvs k.d r.d))))) else none
  | _ => none
theorem zafm {i : Nat} {tk tv : TE} {fk fv : EF} (h1 : SE tk fk) (h2 : SE tv fv) : SS (sDPut (tVar i) tk tv) (sPut i fk fv) := by
  intro fx H0 env σ H D h o e q
  unfold sPut at e
  split at e
  · rename_i kvs ei
    obtain ⟨r, er, e⟩ := Option.bind_eq_some_iff.mp e
    obtain ⟨k, ek, e⟩ := Option.bind_eq_some_iff.mp e
    obtain ⟨kk, ekk, e⟩ := Option.bind_eq_some_iff.mp e
    split at e
    · rename_i hl
      cases e
      obtain ⟨a, g1, g2, g3, g4⟩ := h.ac i _ ei
      obtain ⟨ps, hx, rx⟩ := g4
      refine h2 fx H0 env σ H h r er _ fun v H' s hv => ⟨_, g1, h1 fx H0 env σ H' (h.up s) k ek _ fun u H2 s2 hk => ?_⟩
      have t2 := s.trans s2
      have h' := (h.up t2).frzs r.bs
      have ei' := zhb hl.2 ei
      have hx' := t2 _ _ hx
      have rx' : Rpd (Offs (fun b => fx b ∨ own (frzs env r.bs) σ b) H2) kvs ps := by
        obtain ⟨a', z1, _, _, z4⟩ := h'.ac i _ ei'
        rw [g1] at z1
        cases z1
        obtain ⟨ys, y1, y2⟩ := z4
        rw [hx'] at y1
        cases y1
        exact y2
      rw [zait hk.rp ekk]
      refine ⟨a, _, rfl, DPut.k hx' (znn (by rw [← rx.length]; exact hl.1)), ?_⟩
      refine q σ _ (h'.mut ei' g1 ⟨_, zaw, rx'.put ekk (Rp.same (Offs.sub zej) _ (hv.later (Same.refl _) s2 fun _ z => z).rp)⟩)
    · cases e
  · cases e
noncomputable def sUpd (i : Nat) (f : EF) : SF := fun env => match env[i]? with
  | some (.ac (.dict kvs)) => (f env).bind fun r => match r.d with
    | .dict more => if kvs.length + more.length ≤ 100000 ∧ i ∉ r.bs then some (.nx ((frzs env r.bs).set i (.ac (.dict (znq kvs more))))) else none
    | _ => none
  | _ => none
theorem zakz {K : PySem.W.Frag} {i : Nat} {te : TE} {f : EF} (h1 : SE te f) : SS (tDrop (tBM K "dict" zaev (tVar i) (tCons te tNil))) (sUpd i f) := by
  intro fx H0 env σ H D h o e q
  unfold sUpd at e
  split at e
  · rename_i kvs ei
    obtain ⟨⟨rd, rfr, rbs⟩, er, e⟩ := Option.bind_eq_some_iff.mp e
    cases rd with
    | dict more =>
      have e : (if kvs.length + more.length ≤ 100000 ∧ i ∉ rbs then some (Out.nx ((frzs env rbs).set i (.ac (.dict (znq kvs more))))) else none) = some o := e
      split at e
      · rename_i hl
        cases e
        obtain ⟨a, g1, g2, g3, g4⟩ := h.ac i _ ei
        obtain ⟨ps, hx, rx⟩ := g4
        refine ⟨_, g1, .inr (.inr (.inl ⟨rfl, .inl ⟨_, hx⟩⟩)), h1 fx H0 env σ H h _ er _ fun v H' s hv => ?_⟩
        have h' := (h.up s).frzs rbs
        have ei' := zhb hl.2 ei
        have hx' := s _ _ hx
        have rx' : Rpd (Offs (fun b => fx b ∨ own (frzs env rbs) σ b) H') kvs ps := by
          obtain ⟨a', z1, _, _, z4⟩ := h'.ac i _ ei'
          rw [g1] at z1
          cases z1
          obtain ⟨ys, y1, y2⟩ := z4
          rw [hx'] at y1
          cases y1
          exact y2
        obtain ⟨b, qs, rfl, hb, rb⟩ := zqf (Rp.same (Offs.sub zej) _ hv.rp)
        have hab : a ≠ b := fun z => by
          subst z
          exact (Offs.of hb).1 (.inr ⟨i, _, ei', g1⟩)
        refine ⟨a, b, ps, qs, rfl, rfl, hab, hx', zds hb, zez (by rw [← rx.length, ← rb.length]; exact hl.1), ?_⟩
        exact q σ _ (h'.mut ei' g1 ⟨_, zaw, rx'.merge rb⟩)
      · cases e
    | _ => cases e
  · cases e
end L2
namespace L2
open PySem PySem.Spec PyProof.Rows
theorem EnvOk.rebase {fx : Addr → Prop} {H0 : Hp} {env : DEnv} {σ : St} {H : Hp} (h : EnvOk fx H0 env σ H) : EnvOk fx (Offs (own env σ) H) env σ H := by
  refine ⟨h.len, h.pl, fun i d e => ?_, h.inj, Offs.same _ _, h.fxs⟩
  obtain ⟨a, h1, h2, h3, h4⟩ := h.ac i d e
  exact ⟨a, h1, Offs.out ⟨i, d, e, h1⟩, h3, h4⟩
theorem EnvOk.floor {fx : Addr → Prop} {H0 : Hp} {env : DEnv} {σ : St} {H : Hp} (h : EnvOk fx H0 env σ H) : Same H0 (Offs (own env σ) H) := fun b o e => by
  rw [Offs.get]
  · exact h.base b o e
  · rintro ⟨i, d, h1, h2⟩
    obtain ⟨a, g1, g2, _⟩ := h.ac i d h1
    rw [h2] at g1
    cases g1
    rw [g2] at e
    cases e
theorem EnvOk.unbase {fx : Addr → Prop} {H0 F : Hp} {env : DEnv} {σ : St} {H : Hp} (h : EnvOk fx F env σ H) (s : Same H0 F) : EnvOk fx H0 env σ H := by
  refine ⟨h.len, h.pl, fun i d e => ?_, h.inj, s.trans h.base, h.fxs⟩
  obtain ⟨a, h1, h2, h3, h4⟩ := h.ac i d e
  exact ⟨a, h1, s.free h2, h3, h4⟩
theorem zwz.unbase {fx : Addr → Prop} {H0 F : Hp} {d : PyData} {fr : Bool} {v : V} {H : Hp} (h : zwz fx F d fr v H) (s : Same H0 F) : zwz fx H0 d fr v H :=
  ⟨h.1, fun e => let ⟨a, h1, h2, h3⟩ := h.2 e; ⟨a, h1, s.free h2, h3⟩⟩
theorem EnvOk.seen {fx : Addr → Prop} {env env' : DEnv} {σ σ' : St} {H H' : Hp} (h : EnvOk fx (Offs (own env σ) H) env' σ' H') : Same (Offs (fun b => fx b ∨ own env σ b) H) (Offs (fun b => fx b ∨ own env' σ' b) H') := fun b o e => by
  obtain ⟨h1, h2⟩ := Offs.of e
  have hF : Offs (own env σ) H b = some o := by rw [Offs.get fun z => h1 (.inr z)]; exact h2
  rw [Offs.get]
  · exact h.base b o hF
  · rintro (z | ⟨i, d, g1, g2⟩)
    · exact h1 (.inl z)
    · obtain ⟨a, k1, k2, _⟩ := h.ac i d g1
      rw [g2] at k1
      cases k1
      rw [k2] at hF
      cases hF
theorem EnvOk.all {fx : Addr → Prop} {H0 : Hp} {env : DEnv} {σ : St} {H : Hp} (h : EnvOk fx H0 env σ H) : ∀ b, fx b ∨ own env σ b → ∃ o, H b = some o := fun b z => h.lims [] b (zamk b z)
noncomputable def Yl (A0 : Addr → Prop) (H1 : Hp) (J : It) (ds : List PyData) : Prop := ∀ (A : Addr → Prop) (H' : Hp), (∀ b, A b → ∃ o, H' b = some o) → Same (Offs A0 H1) (Offs A H') →
  (∀ i d, ds[i]? = some d → J.go i H' ∧ ∀ x H'', J.yld i H' x H'' → Same H' H'' ∧ Rp (Offs A H'') d x) ∧ J.stop ds.length H'
noncomputable abbrev IF' := DEnv → Option (List PyData × List Nat)
noncomputable def SI (wi : TI) (f : IF') : Prop := ∀ (fx : Addr → Prop) (H0 : Hp) (env : DEnv) (σ : St) (H : Hp), EnvOk fx H0 env σ H → ∀ ds bs, f env = some (ds, bs) → ∀ R : It → Hp → Prop,
  (∀ J H1, Same H H1 → Yl (fun b => fx b ∨ own (frzs env bs) σ b) H1 J ds → R J H1) → wi σ H R
noncomputable def iSeq (K : PySem.W.Frag) (te : TE) : TI := fun σ H R => te σ H fun x H1 => ∃ a, x = .ref a ∧ ((∃ xs, SqL K H1 a xs) ∧ R (Itl K a) H1 ∨ (∃ xs, SqT K H1 a xs) ∧ R (Itt K a) H1)
theorem zapr {X : Cx} {tg l : Expr} {tl : TE} (hl : PE X l tl) : PI X tg l (iSeq X.K tl) := by
  intro pins s σ H R I h
  refine thn (hl pins s σ H _ I h) fun v s1 ⟨x, H1, I1, r1, q1⟩ => ?_
  obtain ⟨a, e, q⟩ := q1
  subst e
  cases r1
  rcases q with ⟨⟨xs, hq⟩, q⟩ | ⟨⟨xs, hq⟩, q⟩
  · obtain ⟨its, rv, p, hz⟩ := I1.list hq
    refine wpAny_pyIter_list p.isList ?_
    refine ⟨s1.heap.objs.size, [s1.heap.objs.size], _, _, H1, rfl, I1.kept (t' := s1.toks) fun b o e => Heap.get?_push_of_some _ e, zadz a _, ⟨_, Heap.get?_push_size _ rfl, rfl, rfl⟩, fun b hb => ?_, q⟩
    have e : b = s1.heap.objs.size := by simpa using hb
    subst e
    exact I1.fpOk (Nat.le_refl _) (I1.hok.fresh (Nat.le_refl _))
  · obtain ⟨its, rv, p, hz⟩ := I1.tuple hq
    refine wpAny_pyIter_tuple (show s1.heap.IsTuple a its.toArray from p) ?_
    refine ⟨s1.heap.objs.size, [s1.heap.objs.size], _, _, H1, rfl, I1.kept (t' := s1.toks) fun b o e => Heap.get?_push_of_some _ e, zacr a _, ⟨_, Heap.get?_push_size _ rfl, rfl, rfl⟩, fun b hb => ?_, q⟩
    have e : b = s1.heap.objs.size := by simpa using hb
    subst e
    exact I1.fpOk (Nat.le_refl _) (I1.hok.fresh (Nat.le_refl _))
theorem zams {X : Cx} {K : PySem.W.Frag} (hK : X.K = K) {tg l : Expr} {tl : TE} (hl : PE X l tl) : PI X tg l (iSeq K tl) := by subst hK; exact zapr hl
noncomputable def zas (f : EF) : IF' := fun env => (f env).bind fun r => (zgo r.d).map fun ds => (ds, r.bs)
theorem zamt {K : PySem.W.Frag} {A0 : Addr → Prop} {H1 : Hp} {a : Addr} {ds : List PyData} {xs : List V} (h : Offs A0 H1 a = some (.lst xs)) (r : Rps (Offs A0 H1) ds xs) : Yl A0 H1 (Itl K a) ds := by
  intro A H' hA s
  have ha := zds (s _ _ h)
  have r' := Rps.same s _ r
  refine ⟨fun i d e => ?_, ⟨xs, SqL.of ha, by rw [r.length]; exact Nat.le_refl _⟩⟩
  obtain ⟨v, hv, rv⟩ := r'.get2 e
  refine ⟨⟨xs, v, SqL.of ha, hv⟩, fun x H'' y => ?_⟩
  obtain ⟨rfl, y⟩ := y
  have := y xs (SqL.of ha)
  rw [hv] at this
  cases this
  exact ⟨Same.refl _, rv⟩
theorem zaps {K : PySem.W.Frag} {A0 : Addr → Prop} {H1 : Hp} {a : Addr} {ds : List PyData} {xs : List V} (h : Offs A0 H1 a = some (.tup xs)) (r : Rps (Offs A0 H1) ds xs) : Yl A0 H1 (Itt K a) ds := by
  intro A H' hA s
  have ha := zds (s _ _ h)
  have r' := Rps.same s _ r
  refine ⟨fun i d e => ?_, ⟨xs, SqT.of ha, by rw [r.length]; exact Nat.le_refl _⟩⟩
  obtain ⟨v, hv, rv⟩ := r'.get2 e
  refine ⟨⟨xs, v, SqT.of ha, hv⟩, fun x H'' y => ?_⟩
  obtain ⟨rfl, y⟩ := y
  have := y xs (SqT.of ha)
  rw [hv] at this
  cases this
  exact ⟨Same.refl _, rv⟩
theorem zdj {K : PySem.W.Frag} {te : TE} {f : EF} (h1 : SE te f) : SI (iSeq K te) (zas f) := by
  intro fx H0 env σ H h ds bs e R q
  unfold zas at e
  obtain ⟨⟨d, fr, bs'⟩, er, e⟩ := Option.bind_eq_some_iff.mp e
  obtain ⟨es, he, e⟩ := Option.map_eq_some_iff.mp e
  cases e
  refine h1 fx H0 env σ H h _ er _ fun v H1 s hv => ?_
  have rp := Rp.same (Offs.sub (zej (bs := bs'))) _ hv.rp
  cases d with
  | list ds =>
    cases he
    obtain ⟨a, xs, rfl, ha, r⟩ := zey rp
    exact ⟨a, rfl, .inl ⟨⟨xs, SqL.of (zds ha)⟩, q _ H1 s (zamt ha r)⟩⟩
  | tuple ds =>
    cases he
    obtain ⟨a, xs, rfl, ha, r⟩ := zdv rp
    exact ⟨a, rfl, .inr ⟨⟨xs, SqT.of (zds ha)⟩, q _ H1 s (zaps ha r)⟩⟩
  | _ => cases he
noncomputable def zxa (ds : List PyData) : List PyData := ds.zipIdx.map fun p => .tuple [.int p.2, p.1]
noncomputable def zasi (f : AF) : IF' := fun env => (f env).bind fun rs => match rs with
  | [r] => match r.d with
    | .list ds => some (zxa ds, r.bs)
    | _ => none
  | _ => none
noncomputable def zos (lo : Int) (n : Nat) : List PyData := (List.range n).map fun (k : Nat) => .int (lo + (k : Int))
theorem zabo {A0 : Addr → Prop} {H1 : Hp} {lo : Int} {n : Nat} : Yl A0 H1 (Itr lo n) (zos lo n) := by
  intro A H' hA s
  have hl : (zos lo n).length = n := by unfold zos; simp
  refine ⟨fun i d e => ?_, by rw [hl]; exact Nat.le_refl _⟩
  unfold zos at e
  rw [List.getElem?_map] at e
  by_cases hi : i < n
  · rw [List.getElem?_range hi] at e
    cases e
    exact ⟨hi, fun x H'' ⟨e1, e2⟩ => by subst e1; subst e2; exact ⟨Same.refl _, zag⟩⟩
  · rw [List.getElem?_eq_none (by simpa using hi)] at e
    cases e
noncomputable def zjg (f : AF) : IF' := fun env => (f env).bind fun rs => match rs with
  | [⟨.int j, _, _⟩] => if -(2 ^ 62) ≤ j ∧ j < 2 ^ 62 then some (zos 0 j.toNat, []) else none
  | _ => none
theorem zqo {ta : TA} {f : AF} (h1 : SA ta f) : SI (iRng1 ta) (zjg f) := by
  intro fx H0 env σ H h ds bs e R q
  unfold zjg at e
  obtain ⟨rs, er, e⟩ := Option.bind_eq_some_iff.mp e
  split at e
  · split at e
    · rename_i hj
      cases e
      refine h1 fx H0 env σ H h _ er _ fun vs H1 s hv => ?_
      cases hv with
      | cons hv t =>
        cases t
        cases zdr hv.rp
        exact ⟨_, rfl, hj.1, hj.2, q _ H1 s zabo⟩
    · cases e
  · cases e
noncomputable def forL (g : GT) (body : SF) : List PyData → DEnv → Option Out
  | [], env => some (.nx env)
  | d :: ds, env => (g d env).bind fun e1 => (body e1).bind fun o => match o with
    | .nx e2 => forL g body ds e2
    | .ct e2 => forL g body ds e2
    | .bk e2 => some (.nx e2)
    | .rt d fr => some (.rt d fr)
noncomputable def sFor (f : IF') (g : GT) (body : SF) : SF := fun env => (f env).bind fun z => forL g body z.1 (frzs env z.2)
theorem zll {wi : TI} {g : TG} {tb : TS} {f : IF'} {gf : GT} {body : SF} (h1 : SI wi f) (h2 : SG g gf) (h3 : SS tb body) : SS (tFor wi g tb) (sFor f gf body) := by
  intro fx H0 env σ H D h o e q
  unfold sFor at e
  obtain ⟨⟨ds, bs⟩, er, e⟩ := Option.bind_eq_some_iff.mp e
  refine h1 fx H0 env σ H h ds bs er _ fun J H1 s yl => ?_
  have hE := (h.up s).frzs bs
  have fl := hE.floor
  refine ⟨fun i m σ' H' => m = ds.length - i ∧ i ≤ ds.length ∧ ∃ env', forL gf body (ds.drop i) env' = some o ∧ EnvOk fx (Offs (own (frzs env bs) σ) H1) env' σ' H', ⟨ds.length, rfl, Nat.zero_le _, _, e, hE.rebase⟩, ?_⟩
  rintro i m σ' H' ⟨rfl, hi, env', e', h'⟩
  obtain ⟨yi, ys⟩ := yl _ H' h'.all h'.seen
  by_cases hlt : i < ds.length
  · obtain ⟨yg, yy⟩ := yi i ds[i] (List.getElem?_eq_getElem hlt)
    refine .inr ⟨yg, fun σ'' H'' => i + 1 ≤ ds.length ∧ ∃ env'', forL gf body (ds.drop (i + 1)) env'' = some o ∧ EnvOk fx (Offs (own (frzs env bs) σ) H1) env'' σ'' H'', ?_, ?_⟩
    · rintro σ'' H'' ⟨hle, env'', e'', h''⟩
      exact ⟨ds.length - (i + 1), by omega, rfl, hle, env'', e'', h''⟩
    · intro x H'' hy
      obtain ⟨sy, ry⟩ := yy x H'' hy
      rw [List.drop_eq_getElem_cons hlt] at e'
      obtain ⟨e1, ee1, e'⟩ := Option.bind_eq_some_iff.mp e'
      obtain ⟨o1, eo1, e'⟩ := Option.bind_eq_some_iff.mp e'
      refine h2 fx _ env' σ' H'' _ x (h'.up sy) ry e1 ee1 _ fun σ2 h2' => h3 fx _ e1 σ2 H'' _ h2' o1 eo1 ?_
      cases o1 with
      | nx e2 => exact fun σ3 H3 hh => ⟨hlt, e2, e', hh⟩
      | ct e2 => exact fun σ3 H3 hh => ⟨hlt, e2, e', hh⟩
      | bk e2 => cases e'; exact fun σ3 H3 hh => q σ3 H3 (hh.unbase fl)
      | rt d fr => cases e'; exact fun v H3 sh rt => q v H3 (fl.trans sh) (rt.unbase fl)
  · have hi' : i = ds.length := by omega
    subst hi'
    rw [List.drop_length] at e'
    cases e'
    exact .inl ⟨ys, q σ' H' (h'.unbase fl)⟩
noncomputable def zjp (n : Nat) (ds : List PyData) : DEnv := ds.map .pl ++ List.replicate (n - ds.length) .no
noncomputable def fnD (n : Nat) (f : SF) : GF := fun ds => match f (zjp n ds) with
  | some (.rt d fr) => some (d, fr)
  | some (.nx _) => some (.none, false)
  | _ => none
theorem zqp {ds : List PyData} {n i : Nat} {sl : Sl} (e : (zjp n ds)[i]? = some sl) : (∃ d, ds[i]? = some d ∧ sl = .pl d) ∨ sl = .no := by
  unfold zjp at e
  by_cases hi : i < ds.length
  · rw [List.getElem?_append_left (by simpa using hi), List.getElem?_map, List.getElem?_eq_getElem hi] at e
    cases e
    exact .inl ⟨_, List.getElem?_eq_getElem hi, rfl⟩
  · rw [List.getElem?_append_right (by simpa using hi), List.getElem?_replicate] at e
    split at e
    · cases e; exact .inr rfl
    · cases e
theorem zqq {fx : Addr → Prop} {H : Hp} {N : List Str} {ds : List PyData} {vs : List V} (hf : ∀ b, fx b → ∃ o, H b = some o) (r : Rps (Offs fx H) ds vs) : EnvOk fx H (zjp N.length ds) (zhs N vs) H := by
  have no : ∀ (i : Nat) (d : PyData), (zjp N.length ds)[i]? ≠ some (Sl.ac d) := fun i d e => by
    rcases zqp e with ⟨d', _, z⟩ | z <;> cases z
  refine ⟨?_, fun i d e => ?_, fun i d e => absurd e (no i d), fun i j d e a h1 => absurd h1 (no i d), Same.refl _, hf⟩
  · unfold zjp zhs
    rw [List.length_append, List.length_append, List.length_map, List.length_map, List.length_replicate, List.length_replicate, r.length]
  · rcases zqp e with ⟨d', hd, z⟩ | z
    · cases z
      obtain ⟨v, hv, rv⟩ := r.get2 hd
      refine ⟨v, ?_, Rp.same (Offs.sub fun b z => ?_) _ rv⟩
      · unfold zhs
        have hi : i < vs.length := (List.getElem?_eq_some_iff.mp hv).1
        rw [List.getElem?_append_left (by simpa using hi), List.getElem?_map, hv]; rfl
      · rcases z with z | ⟨j, d', z, _⟩
        · exact z
        · exact absurd z (no j d')
    · cases z
theorem fn_d {N : List Str} {n : Nat} {f : SF} {t : TS} (hs : SS t f) {vs : List V} {H : Hp} {Q : VK} {E : XK} (h : spD n (fnD N.length f) vs H Q E) : t { nx := fun _ H' => Q .non H', rt := Q } (zhs N vs) H := by
  obtain ⟨fx, ds, d, fr, hn, hf, r, g, k⟩ := h
  unfold fnD at g
  split at g
  · rename_i d' fr' eo
    cases g
    exact hs fx H _ _ H _ (zqq hf r) _ eo fun v H' s rt => k v H' s rt
  · rename_i e' eo
    cases g
    exact hs fx H _ _ H _ (zqq hf r) _ eo fun σ H' hE => k .non H' hE.base ⟨zta, fun z => by cases z⟩
  · cases g
theorem zcb {n : Nat} {g : GF} {vs : List V} {H : Hp} {Q : VK} {E : XK} (h : spD n g vs H Q E) : vs.length = n := by
  obtain ⟨fx, ds, d, fr, hn, hf, r, _⟩ := h
  rw [← r.length]; exact hn
end L2
namespace L2
open PySem PySem.Spec PyProof.Rows
noncomputable def zamu : Sl → Sl
  | .ac d => .pl d
  | s => s
noncomputable def envB (own : List Str) (fr : List Nat) (env : DEnv) : DEnv := own.map (fun _ => Sl.no) ++ fr.map (fun j => zamu (env.getD j .no))
noncomputable def isAc : Option Sl → Bool
  | some (.ac _) => true
  | _ => false
noncomputable def capA (fr : List Nat) (env : DEnv) : List Nat := fr.filter fun j => isAc env[j]?
theorem zpu {own : List Str} {fr : List Nat} {env : DEnv} {i : Nat} {d : PyData} (e : (envB own fr env)[i]? = some (.pl d)) : ∃ j k, i = own.length + k ∧ fr[k]? = some j ∧ (env[j]? = some (.pl d) ∨ env[j]? = some (.ac d)) := by
  unfold envB at e
  by_cases hi : i < own.length
  · rw [List.getElem?_append_left (by simpa using hi), List.getElem?_map, List.getElem?_eq_getElem hi] at e
    cases e
  · rw [List.getElem?_append_right (by simpa using hi), List.length_map, List.getElem?_map] at e
    cases ej : fr[i - own.length]? with
    | none => rw [ej] at e; cases e
    | some j =>
      rw [ej] at e
      refine ⟨j, i - own.length, by omega, ej, ?_⟩
      have e : zamu (env.getD j .no) = .pl d := Option.some.inj e
      rw [List.getD_eq_getElem?_getD] at e
      cases ev : env[j]? with
      | none => rw [ev] at e; cases e
      | some s =>
        rw [ev] at e
        cases s with
        | no => cases e
        | pl d' => cases e; exact .inl rfl
        | ac d' => cases e; exact .inr rfl
theorem zhw {own : List Str} {fr : List Nat} {env : DEnv} {i : Nat} {d : PyData} : (envB own fr env)[i]? ≠ some (.ac d) := by
  intro e
  unfold envB at e
  by_cases hi : i < own.length
  · rw [List.getElem?_append_left (by simpa using hi), List.getElem?_map, List.getElem?_eq_getElem hi] at e
    cases e
  · rw [List.getElem?_append_right (by simpa using hi), List.length_map, List.getElem?_map] at e
    cases ej : fr[i - own.length]? with
    | none => rw [ej] at e; cases e
    | some j =>
      rw [ej] at e
      have e : zamu (env.getD j .no) = .ac d := Option.some.inj e
      cases ev : env.getD j .no with
      | no => rw [ev] at e; cases e
      | pl d' => rw [ev] at e; cases e
      | ac d' => rw [ev] at e; cases e
theorem zzr {own : List Str} {fr : List Nat} {σ : St} {k j : Nat} {v : V} (hk : fr[k]? = some j) (hv : σ[j]? = some (some v)) : (tau own fr σ)[own.length + k]? = some (some v) := by
  unfold tau
  rw [List.getElem?_append_right (by simp), List.length_map, Nat.add_sub_cancel_left, List.getElem?_map, hk]
  show some (σ.getD j none) = _
  rw [List.getD_eq_getElem?_getD, hv]; rfl
theorem zqr {fx : Addr → Prop} {H0 : Hp} {env : DEnv} {σ : St} {H H1 : Hp} {p : Addr} (h : EnvOk fx H0 env σ H) (s : Same H H1) (hp : H1 p = none) (own : List Str) (fr : List Nat) (bs : List Nat) :
    EnvOk (fun b => lim fx env σ (bs ++ capA fr env) b ∨ b = p) H1 (envB own fr env) (tau own fr σ) (upd H1 p (.lst [])) := by
  have h1 := h.up s
  have sp : Same H1 (upd H1 p (.lst [])) := Same.new hp
  have so : Same (Offs (fun b => fx b ∨ L2.own env σ b) H1) (Offs (fun b => (lim fx env σ (bs ++ capA fr env) b ∨ b = p) ∨ L2.own (envB own fr env) (tau own fr σ) b) (upd H1 p (.lst []))) := Offs.mono sp fun b o e n z => by
    rcases z with (z | z) | ⟨i, d, z, _⟩
    · exact n (zqg b z)
    · rw [z, hp] at e; cases e
    · exact absurd z zhw
  refine ⟨?_, fun i d e => ?_, fun i d e => absurd e zhw, fun i j d e a z => absurd z zhw, sp, fun b z => ?_⟩
  · unfold envB tau; simp
  · obtain ⟨j, k, rfl, hk, hj⟩ := zpu e
    rcases hj with hj | hj
    · obtain ⟨v, h2, h3⟩ := h1.pl j d hj
      exact ⟨v, zzr hk h2, Rp.same so _ h3⟩
    · obtain ⟨a, h2, h3, h4, h5⟩ := h1.ac j d hj
      refine ⟨_, zzr hk h2, h5.rp so fun o eo => ?_⟩
      rw [Offs.get]
      · exact sp _ _ eo
      · rintro ((z | ⟨i', d', z1, z2, z3⟩) | ⟨i', d', z, _⟩)
        · rcases z with z | ⟨i', d', z1, z2, z3⟩
          · exact h4 z
          · have e2 := h1.inj i' j d' d a z2 hj z3 h2
            subst e2
            refine z1 (List.mem_append_right _ (List.mem_filter.mpr ⟨List.mem_of_getElem? hk, ?_⟩))
            rw [hj]; rfl
        · rw [hp] at eo; cases eo
        · exact absurd z zhw
  · rcases z with z | z
    · obtain ⟨o, e⟩ := h1.lims _ b z; exact ⟨o, sp b o e⟩
    · rw [z]; exact ⟨_, zaw⟩
theorem EnvOk.weaken {fx : Addr → Prop} {H0 : Hp} {env e1 : DEnv} {σ : St} {H : Hp} (h : EnvOk fx H0 e1 σ H) (hl : env.length = e1.length) (hp : ∀ (i : Nat) (d : PyData), env[i]? = some (.pl d) → e1[i]? = some (.pl d)) (ha : ∀ (i : Nat) (d : PyData), env[i]? ≠ some (.ac d)) : EnvOk fx H0 env σ H := by
  refine ⟨hl.trans h.len, fun i d e => ?_, fun i d e => absurd e (ha i d), fun i j d e a z => absurd z (ha i d), h.base, h.fxs⟩
  obtain ⟨v, h1, h2⟩ := h.pl i d (hp i d e)
  exact ⟨v, h1, Rp.same (Offs.sub fun b z => z.imp (fun y => y) fun ⟨j, d', z, _⟩ => absurd z (ha j d')) _ h2⟩
theorem EnvOk.updFx {fx : Addr → Prop} {H0 : Hp} {env : DEnv} {σ : St} {H : Hp} {p : Addr} {o : HO} (h : EnvOk fx H0 env σ H) (hp : fx p) (h0 : H0 p = none) : EnvOk fx H0 env σ (upd H p o) := by
  have so : Offs (fun b => fx b ∨ own env σ b) (upd H p o) = Offs (fun b => fx b ∨ own env σ b) H := Offs.upd (.inl hp)
  refine ⟨h.len, fun i d e => ?_, fun i d e => ?_, h.inj, fun b u e => by rw [zbc (zbp e h0)]; exact h.base b u e, fun b z => ?_⟩
  · rw [so]; exact h.pl i d e
  · obtain ⟨a, h1, h2, h3, h4⟩ := h.ac i d e
    rw [so]
    exact ⟨a, h1, h2, h3, h4.same (Same.refl _) fun u z => by rw [zbc fun y => h3 (by rw [y]; exact hp)]; exact z⟩
  · by_cases e : b = p
    · rw [e]; exact ⟨_, zaw⟩
    · obtain ⟨u, hu⟩ := h.fxs b z
      exact ⟨u, by rw [zbc e]; exact hu⟩
noncomputable def GX (n : Nat) (g : GT) : Prop := ∀ d env e1, g d env = some e1 → e1.length = env.length ∧ ∀ i, n ≤ i → e1[i]? = env[i]?
noncomputable def GXs (n : Nat) (g : GTs) : Prop := ∀ ds env e1, g ds env = some e1 → e1.length = env.length ∧ ∀ i, n ≤ i → e1[i]? = env[i]?
theorem zgt {n i : Nat} (h : i < n) : GX n (gN i) := by
  intro d env e1 e
  cases e
  exact ⟨List.length_set, fun j hj => List.getElem?_set_ne (by omega)⟩
theorem zik {n : Nat} : GXs n zea := by
  intro ds env e1 e
  cases ds with
  | nil => cases e; exact ⟨rfl, fun _ _ => rfl⟩
  | cons _ _ => cases e
theorem zcg {n i : Nat} {g : GTs} (h : i < n) (hg : GXs n g) : GXs n (zau i g) := by
  intro ds env e1 e
  cases ds with
  | nil => cases e
  | cons d ds =>
    obtain ⟨h1, h2⟩ := hg ds _ e1 e
    rw [List.length_set] at h1
    exact ⟨h1, fun j hj => (h2 j hj).trans (List.getElem?_set_ne (by omega))⟩
theorem zlm {n m : Nat} {g : GTs} (hg : GXs n g) : GX n (gT m g) := by
  intro d env e1 e
  unfold gT at e
  cases d with
  | tuple ds =>
    have e : (if ds.length = m then g ds env else none) = some e1 := e
    split at e
    · exact hg ds env e1 e
    · cases e
  | _ => cases e
noncomputable def zdk (g : GT) (t : TF) (e : EF) (env : DEnv) : List PyData → Option (List PyData)
  | [] => some []
  | d :: ds => (g d env).bind fun e1 => (t e1).bind fun b => if b = true then (e e1).bind fun r => (zdk g t e env ds).map fun rs => r.d :: rs else zdk g t e env ds
noncomputable def zdq (own : List Str) (fr : List Nat) (fi : IF') (g : GT) (t : TF) (e : EF) : EF := fun env => (fi env).bind fun z => if z.1.length < 100000 then
  (zdk g t e (envB own fr env) z.1).map fun rs => ⟨.list rs, true, if zfe rs = true then [] else z.2 ++ capA fr env⟩ else none
theorem zir {H H' : Hp} {ds : List PyData} {vs : List V} (f : zfe ds = true) (h : Rps H ds vs) : Rps H' ds vs := by
  replace h := zec.mp h
  induction h with
  | nil => exact zde
  | cons h _ ih =>
    unfold zfe at f
    rw [List.all_cons, Bool.and_eq_true] at f
    exact zdw (zafd f.1 h) (ih f.2)
theorem zdf {own : List Str} {fr : List Nat} {wi : TI} {g : TG} {tt : TT} {te : TE} {fi : IF'} {gf : GT} {t : TF} {e : EF} (h1 : SI wi fi) (h2 : SG g gf) (hx : GX own.length gf) (h3 : ST tt t) (h4 : SE te e) :
    SE (tComp1 wi g tt te own fr) (zdq own fr fi gf t e) := by
  intro fx H0 env σ H h rr hr Q q
  unfold zdq at hr
  obtain ⟨⟨ds, bs⟩, ei, hr⟩ := Option.bind_eq_some_iff.mp hr
  split at hr
  · rename_i hlen
    have hlen : ds.length < 100000 := hlen
    obtain ⟨rs, ers, rfl⟩ := Option.map_eq_some_iff.mp hr
    refine h1 fx H0 env σ H h ds bs ei _ fun J H1 s yl => fun p hp => ?_
    have hB := zqr h s hp own fr bs
    generalize hA : (fun b => lim fx env σ (bs ++ capA fr env) b) = A
    have hA' : ∀ b, lim fx env σ (bs ++ capA fr env) b ↔ A b := fun b => by rw [← hA]
    have eA : (fun b => lim fx env σ (bs ++ capA fr env) b ∨ b = p) = fun b => A b ∨ b = p := by rw [← hA]
    rw [eA] at hB
    have nA : ¬ A p := fun z => by
      obtain ⟨o, eo⟩ := (h.up s).lims _ p ((hA' p).mpr z)
      rw [hp] at eo; cases eo
    have seen : ∀ {σ' : St} {H' : Hp}, EnvOk (fun b => A b ∨ b = p) H1 (envB own fr env) σ' H' → Same (Offs (fun b => fx b ∨ L2.own (frzs env bs) σ b) H1) (Offs (fun b => A b ∨ b = p) H') := fun {σ' H'} hE => Offs.mono hE.base fun b o eo n z => by
      rcases z with z | z
      · rcases (hA' b).mpr z with z | ⟨i, d, z1, z2, z3⟩
        · exact n (.inl z)
        · exact n (.inr ⟨i, d, zhb (fun y => z1 (List.mem_append_left _ y)) z2, z3⟩)
      · rw [z, hp] at eo; cases eo
    refine ⟨fun i m σ' H' => m = ds.length - i ∧ i ≤ ds.length ∧ ∃ vs done rest, H' p = some (.lst vs) ∧ Rps (Offs (fun b => A b ∨ b = p) H') done vs ∧ done.length ≤ i ∧ zdk gf t e (envB own fr env) (ds.drop i) = some rest ∧ done ++ rest = rs ∧ EnvOk (fun b => A b ∨ b = p) H1 (envB own fr env) σ' H',
      ⟨ds.length, rfl, Nat.zero_le _, [], [], rs, zaw, zde, Nat.zero_le _, ers, rfl, hB⟩, ?_⟩
    rintro i m σ' H' ⟨rfl, hi, vs, done, rest, ep, rd, dl, ec, edr, hE⟩
    obtain ⟨yi, ys⟩ := yl _ H' hE.fxs (seen hE)
    by_cases hlt : i < ds.length
    · obtain ⟨yg, yy⟩ := yi i ds[i] (List.getElem?_eq_getElem hlt)
      refine .inr ⟨yg, fun σ'' H'' => i + 1 ≤ ds.length ∧ ∃ vs done rest, H'' p = some (.lst vs) ∧ Rps (Offs (fun b => A b ∨ b = p) H'') done vs ∧ done.length ≤ i + 1 ∧ zdk gf t e (envB own fr env) (ds.drop (i + 1)) = some rest ∧ done ++ rest = rs ∧ EnvOk (fun b => A b ∨ b = p) H1 (envB own fr env) σ'' H'', ?_, ?_⟩
      · rintro σ'' H'' ⟨hle, hh⟩
        exact ⟨ds.length - (i + 1), by omega, rfl, hle, hh⟩
      · intro x H'' hy
        obtain ⟨sy, ry⟩ := yy x H'' hy
        rw [List.drop_eq_getElem_cons hlt] at ec
        obtain ⟨e1, ee1, ec⟩ := Option.bind_eq_some_iff.mp ec
        obtain ⟨b, eb, ec⟩ := Option.bind_eq_some_iff.mp ec
        have ry' : Rp (Offs (fun a => (A a ∨ a = p) ∨ L2.own (envB own fr env) σ' a) H'') ds[i] x := Rp.same (Offs.sub fun b z => z.elim (fun y => y) fun ⟨j, d', z, _⟩ => absurd z zhw) _ ry
        refine h2 _ H1 (envB own fr env) σ' H'' _ x (hE.up sy) ry' e1 ee1 _ fun σ2 hE2 => ?_
        refine h3 _ H1 e1 σ2 H'' hE2 b eb _ fun H3 s3 => ?_
        have hE3 := hE2.up s3
        obtain ⟨gl, gk⟩ := hx _ _ _ ee1
        have back : ∀ {H4 : Hp}, EnvOk (fun b => A b ∨ b = p) H1 e1 σ2 H4 → EnvOk (fun b => A b ∨ b = p) H1 (envB own fr env) σ2 H4 := fun {H4} hh => hh.weaken gl.symm (fun j d' ej => by
          by_cases hj : own.length ≤ j
          · rw [gk j hj]; exact ej
          · obtain ⟨_, k, rfl, _⟩ := zpu ej; omega) fun j d' => zhw
        cases b with
        | false =>
          have ec : zdk gf t e (envB own fr env) (ds.drop (i + 1)) = some rest := ec
          exact iteF ⟨hlt, vs, done, rest, s3 _ _ (sy _ _ ep), Rps.same (Offs.grow (sy.trans s3)) _ rd, Nat.le_succ_of_le dl, ec, edr, back hE3⟩
        | true =>
          have ec : ((e e1).bind fun r => (zdk gf t e (envB own fr env) (ds.drop (i + 1))).map fun rs => r.d :: rs) = some rest := ec
          obtain ⟨r, er, ec⟩ := Option.bind_eq_some_iff.mp ec
          obtain ⟨rest', er', rfl⟩ := Option.map_eq_some_iff.mp ec
          refine iteT (h4 _ H1 e1 σ2 H3 hE3 r er _ fun v H4 s4 hv => ?_)
          have t4 := (sy.trans s3).trans s4
          refine ⟨vs, t4 _ _ ep, znn (by rw [← rd.length]; omega), hlt, vs ++ [v], done ++ [r.d], rest', zaw, ?_, by rw [List.length_append]; simp; omega, er', by rw [← edr]; simp, (back (hE3.up s4)).updFx (.inr rfl) hp⟩
          rw [Offs.upd (.inr rfl)]
          exact (Rps.same (Offs.grow t4) _ rd).append (zdw (Rp.same (Offs.sub fun b z => .inl z) _ hv.rp) zde)
    · have hi' : i = ds.length := by omega
      subst hi'
      rw [List.drop_length] at ec
      cases ec
      rw [List.append_nil] at edr
      subst edr
      refine .inl ⟨ys, q _ H' (s.trans hE.base) ⟨?_, fun _ => ⟨p, rfl, s.free hp, ?_⟩⟩⟩
      · show Rp (Offs (lim fx env σ (if zfe done = true then [] else bs ++ capA fr env)) H') (.list done) (.ref p)
        have nl : ∀ cs, ¬ lim fx env σ cs p := fun cs z => by
          obtain ⟨o, eo⟩ := (h.up s).lims _ p z
          rw [hp] at eo; cases eo
        refine zfd (by rw [Offs.get (nl _)]; exact ep) ?_
        split
        · rename_i f; exact zir f rd
        · exact Rps.same (Offs.sub fun b z => .inl ((hA' b).mp z)) _ rd
      · show zgs (Offs (fun b => lim fx env σ (if zfe done = true then [] else bs ++ capA fr env) b ∨ b = p) H') H' p (.list done)
        refine ⟨vs, ep, ?_⟩
        split
        · rename_i f; exact zir f rd
        · exact Rps.same (Offs.sub fun b z => z.imp (hA' b).mp id) _ rd
  · cases hr
end L2
namespace L2
open PySem PySem.Spec PyProof.Rows
section
variable {X : Cx} {K : PySem.W.Frag}
theorem zafn (hK : X.K = K) {a : Expr} {ta : TE} (ha : PE X a ta) (he : ∀ whole, isTrue a X.env whole = (do let v ← whole; standAt a.pos; holding [v] (truthy v))) :
    PT X a (fun σ H Q => ta σ H fun x H' => ∃ k, TruV K x H' k ∧ Q k H') := by subst hK; exact zahw ha he
theorem zjh (hK : X.K = K) : CallR X (.type "tuple") (fun xs H Q => ∃ p ys, xs = [.ref p] ∧ ((SqL K H p ys ∧ ∀ l, H l = none → Q (.ref l) (upd H l (.tup ys))) ∨ (SqT K H p ys ∧ Q (.ref p) H))) := by subst hK; exact zup
theorem ztc (hK : X.K = K) (hu : X.A.units + 64 < cLine) : OpR X (compareOp .Eq) (fun x y H Q => rEq x y H Q ∨ rEqD K false x y H Q) := by subst hK; exact zarl.or (zaph hu)
theorem zqs (hK : X.K = K) (hu : X.A.units + 64 < cLine) : OpR X (compareOp .NotEq) (fun x y H Q => rNe x y H Q ∨ rEqD K true x y H Q) := by subst hK; exact zarm.or (zapi hu)
noncomputable def zca : TF := fun _ => some true
theorem zes : ST tAll zca := by
  intro fx H0 env σ H hE b hb Q q
  cases hb
  exact q H (Same.refl _)
noncomputable def eNeg (a : EF) : EF := fun env => (a env).bind fun x => match x.d with | .int i => some ⟨.int (-i), false, []⟩ | _ => none
theorem zapt {te : TE} {f : EF} (h1 : SE te f) : SE (tUn (rU fun i => .int (-i)) te) (eNeg f) := by
  intro fx H0 env σ H h rr hr Q q
  unfold eNeg at hr
  obtain ⟨⟨d, fr, bs⟩, ex, hr⟩ := Option.bind_eq_some_iff.mp hr
  cases d with
  | int i =>
    cases hr
    exact h1 fx H0 env σ H h _ ex _ fun v H1 s1 v1 => ⟨i, zdr v1.rp, q _ H1 s1 ⟨zag, fun z => by cases z⟩⟩
  | _ => cases hr
end
end L2
namespace PySem
open Sem (wp)
end PySem
namespace L2
open PySem PySem.Spec PyProof.Rows
end L2
namespace L2
open PySem PySem.Spec PyProof.Rows
end L2
namespace L2
open PySem PySem.Spec PyProof.Rows
noncomputable def zcz (i : Nat) (b : EF) : EF := fun env => match env[i]? with
  | some (.pl (.dict kvs)) => (b env).bind fun y => (keyD y.d).bind fun k => (zlg kvs k).bind fun d => some ⟨d, false, []⟩
  | some (.ac (.dict kvs)) => (b env).bind fun y => (keyD y.d).bind fun k => (zlg kvs k).bind fun d => some ⟨d, false, []⟩
  | _ => none
theorem zji {i : Nat} {ty : TE} {fb : EF} (hb : SE ty fb) : SE (tDGet (tVar i) ty) (zcz i fb) := by
  intro fx H0 env σ H h rr hr Q q
  unfold zcz at hr
  have key : ∀ (a : Addr) (ps : List (Key × V)) (kvs : List (PyData × PyData)), σ[i]? = some (some (.ref a)) → H a = some (.dK ps) → Rpd (Offs (fun b => fx b ∨ own env σ b) H) kvs ps → ((fb env).bind fun y => (keyD y.d).bind fun k => (zlg kvs k).bind fun d => some (⟨d, false, []⟩ : Val)) = some rr → tDGet (tVar i) ty σ H Q := by
    intro a ps kvs hs ha r hr
    obtain ⟨y, ey, hr⟩ := Option.bind_eq_some_iff.mp hr
    obtain ⟨k, ek, hr⟩ := Option.bind_eq_some_iff.mp hr
    obtain ⟨d, ed, hr⟩ := Option.bind_eq_some_iff.mp hr
    cases hr
    refine ⟨_, hs, hb fx H0 env σ H h _ ey _ fun u H2 s2 v2 => ?_⟩
    have g := (Rpd.same (Offs.grow s2) _ r).get (j := k)
    rw [ed] at g
    obtain ⟨w, e1, e2⟩ := g
    rw [zait v2.rp ek]
    have dg := DGet.k (k := k) (s2 _ _ ha)
    rw [e1] at dg
    exact ⟨a, w, rfl, dg, q w H2 s2 ⟨Rp.same (Offs.sub zqg) _ e2, fun z => by cases z⟩⟩
  split at hr
  · rename_i kvs ei
    obtain ⟨v, h1, h2⟩ := h.pl i _ ei
    obtain ⟨a, ps, rfl, ha, r⟩ := zqf h2
    exact key a ps kvs h1 (zds ha) r hr
  · rename_i kvs ei
    obtain ⟨a, h1, h2, h3, ps, ha, r⟩ := h.ac i _ ei
    exact key a ps kvs h1 ha r hr
  · cases hr
noncomputable def eIxV (i : Nat) (b : EF) : EF := fun env => match env[i]? with
  | some (.ac (.list ds)) => (b env).bind fun y => match y.d with
    | .int k => (atI ds k).map fun d => ⟨d, false, []⟩
    | _ => none
  | _ => eOp ixD (eVar i) b env
theorem zfq {K : PySem.W.Frag} {i : Nat} {tb : TE} {fb : EF} (hb : SE tb fb) : SE (tOp (rIxU K) (tVar i) tb) (eIxV i fb) := by
  intro fx H0 env σ H h rr hr Q q
  unfold eIxV at hr
  split at hr
  · rename_i ds ei
    obtain ⟨⟨dy, fy, bys⟩, ey, hr⟩ := Option.bind_eq_some_iff.mp hr
    cases dy with
    | int k =>
      obtain ⟨d, ed, rfl⟩ := Option.map_eq_some_iff.mp hr
      obtain ⟨a, h1, h2, h3, xs, ha, r⟩ := h.ac i _ ei
      refine ⟨_, h1, hb fx H0 env σ H h _ ey _ fun u H2 s2 v2 => ?_⟩
      cases zdr v2.rp
      obtain ⟨v, hv, rv⟩ := (Rps.same (Offs.grow s2) _ r).atI ed
      exact ⟨xs, v, .inl (SqL.of (s2 _ _ ha)), hv, q _ H2 s2 ⟨Rp.same (Offs.sub zqg) _ rv, fun z => by cases z⟩⟩
    | _ => cases hr
  · exact zcs zqk (zae i) hb fx H0 env σ H h rr hr Q q
end L2
namespace L2
open PySem PySem.Spec PyProof.Rows
noncomputable def zabp (wi : TI) (g : TG) (tt : TT) (tm : TM) : TM := fun σ H Q => wi σ H fun J H1 => zaik J g tt tm σ H1 Q
section
variable {X : Cx}
theorem zzs {M : Model} {P : Program} {w : World} {A : Around} {R : Result → Shared → Prop} {s : Shared} {elt : Expr} {g0 : Comprehension} {target iter : Expr} {ifs : List Expr} {rest : List Comprehension} {scope : Scope} {cpos : Pos} {it acc : Value} {env : Env}
    (l : codeAny (model P w) A (.compLoop (.ListComp elt (g0 :: ⟨target, iter, ifs, 0⟩ :: rest) scope cpos) 1 it acc env) R s)
    (t : ∀ (A : Around) (E : Value → Shared → Prop), wpAny (model P w) A (pyIter it) (fun u s' => u = it ∧ s' = s) E s) :
    codeAny (model P w) A (.compStart (.ListComp elt (g0 :: ⟨target, iter, ifs, 0⟩ :: rest) scope cpos) 1 it acc env) R s := by
  refine codeAny_of_tree ?_
  show wpAny _ _ ((compStart (.ListComp elt (g0 :: ⟨target, iter, ifs, 0⟩ :: rest) scope cpos) 1 it acc env).onRaise (fun x => do noteFrame x env; standAt theWindowsPlace)) _ _ s
  refine wpAny_notedAt ?_
  unfold compStart
  show wpAny _ _ (ask >>= _) _ _ s
  refine wpAny_bind (wpAny_askSetting (wpAny_ite ?_))
  split
  · first
      | exact wpAny_bind (wpAny_pure (wpAny_pure (And.intro rfl l)))
      | exact wpAny_pure (And.intro rfl l)
  · refine wpAny_bind (wpAny_rule ?_)
    first
      | exact wpAny_bind (wpAny_standAt (wpAny_bind (thn (t _ _) fun u s' z => by obtain ⟨e1, e2⟩ := z; subst e1; subst e2; exact wpAny_pure (And.intro rfl l))))
      | (show wpAny _ _ (standAt iter.pos >>= _) _ _ s; exact wpAny_bind (wpAny_standAt (wpAny_bind (thn (t _ _) fun u s' z => by obtain ⟨e1, e2⟩ := z; subst e1; subst e2; exact wpAny_pure (And.intro rfl l)))))
theorem zabq {elt0 : Expr} {g0 : Comprehension} {scope : Scope} {cpos : Pos} {target iter : Expr} {ifs : List Expr} {wi : TI} {g : TG} {tt : TT} {te : TE} {p : Addr}
    (hx : X.xe = fun _ _ => False) (hc : X.calm = true) (hi : PI X target iter wi) (hg : PG X target g) (ht : PF X ifs tt) (he : PE X elt0 te)
    (hs : ∀ x, foldedSetIterable iter X.env x = pure x) :
    PM X (do
      let x ← eval iter X.env
      standAt iter.pos
      let x ← foldedSetIterable iter X.env x
      let _ ← runOwn (.compStart (.ListComp elt0 [g0, ⟨target, iter, ifs, 0⟩] scope cpos) 1 (← holding [x] (pyIter x)) (.ref p) X.env) X.env) (zabp wi g tt (zzh p te)) := by
  intro pins s σ H Q I h
  refine wpAny_bind (thn (hi pins s σ H _ I h) fun v s1 h1 => ?_)
  refine wpAny_bind (wpAny_standAt ?_)
  rw [hs]
  refine wpAny_bind (wpAny_pure (wpAny_bind (wpAny_holding (thn h1 fun itv s2 h2 => ?_))))
  obtain ⟨it, fp, tn, J, H2, e, I2, T, st2, f2, q⟩ := h2
  subst e
  refine wpAny_bind (thn (wpAny_runOwn (h := none) (Q := fun _ s' => ∃ σ' H', Inv X pins σ' H' s' ∧ Q σ' H') ?_) fun _ _ z => wpAny_pure z)
  refine zzs (M := model X.prog X.w) ?_ fun A E => T.self A 0 s2 _ E st2 ⟨rfl, rfl⟩
  refine codeAny_mono (zqc (X := X) (pins := pins) hx hc (elt0 := elt0) (gens := [g0, ⟨target, iter, ifs, 0⟩]) (depth := 1) (ip := iter.pos) (emit := (do let _ ← call (.builtin "list.append") [.ref p, ← eval elt0 X.env])) rfl T hg ht (zzi he) I2 st2 f2 q) fun r s5 hr => ?_
  obtain ⟨rfl, z⟩ := hr
  exact z
theorem zapu (elt target iter target2 iter2 : Expr) (ifs ifs2 : List Expr) (scope : Scope) (cpos : Pos) (it acc : Value) (env : Env) :
    compTurn (.ListComp elt [⟨target, iter, ifs, 0⟩, ⟨target2, iter2, ifs2, 0⟩] scope cpos) 0 it acc env = (do
      standAt iter.pos
      match ← pyNext it with
      | none => pure (.done .next)
      | some v =>
        letOwnedTupleGo target it v
        assign target env v
        let mut ok := true
        for c in ifs do
          if ok then ok ← isTrue c env (eval c env)
        if ok then do
          let x ← eval iter2 env
          standAt iter2.pos
          let x ← foldedSetIterable iter2 env x
          let i ← holding [x] (pyIter x)
          let _ ← runOwn (.compStart (.ListComp elt [⟨target, iter, ifs, 0⟩, ⟨target2, iter2, ifs2, 0⟩] scope cpos) 1 i acc env) env
          again (.compLoop (.ListComp elt [⟨target, iter, ifs, 0⟩, ⟨target2, iter2, ifs2, 0⟩] scope cpos) 0 it acc env)
        else again (.compLoop (.ListComp elt [⟨target, iter, ifs, 0⟩, ⟨target2, iter2, ifs2, 0⟩] scope cpos) 0 it acc env)) := rfl
noncomputable def tComp2 (wi : TI) (g : TG) (tt : TT) (wi2 : TI) (g2 : TG) (tt2 : TT) (te : TE) (own : List Str) (fr : List Nat) : TE := zail wi g tt (fun p => zabp wi2 g2 tt2 (zzh p te)) own fr
theorem zaiy {scope : Scope} {N' own : List Str} {fr : List Nat} {elt target iter target2 iter2 : Expr} {ifs ifs2 : List Expr} {cpos : Pos} {wi wi2 : TI} {g g2 : TG} {tt tt2 : TT} {te : TE} (c : CompOk X scope N' own fr) (hc : X.calm = true) (hi : PI X target iter wi)
    (hb : ∀ (cl : List (Str × Addr)) (C : Addr) (s : Shared) (H : Hp) (fp : List Addr), PG (cxComp X scope N' own cl C s H fp) target g ∧ PF (cxComp X scope N' own cl C s H fp) ifs tt ∧ PI (cxComp X scope N' own cl C s H fp) target2 iter2 wi2 ∧ PG (cxComp X scope N' own cl C s H fp) target2 g2 ∧ PF (cxComp X scope N' own cl C s H fp) ifs2 tt2 ∧ PE (cxComp X scope N' own cl C s H fp) elt te)
    (hs : ∀ x, foldedSetIterable iter X.env x = pure x := by intro _; rfl) (hs2 : ∀ env x, foldedSetIterable iter2 env x = pure x := by intro _ _; rfl) :
    PE X (.ListComp elt [⟨target, iter, ifs, 0⟩, ⟨target2, iter2, ifs2, 0⟩] scope cpos) (tComp2 wi g tt wi2 g2 tt2 te own fr) :=
  zabi (emit := fun acc env => do
      let x ← eval iter2 env
      standAt iter2.pos
      let x ← foldedSetIterable iter2 env x
      let _ ← runOwn (.compStart (.ListComp elt [⟨target, iter, ifs, 0⟩, ⟨target2, iter2, ifs2, 0⟩] scope cpos) 1 (← holding [x] (pyIter x)) acc env) env) c hc (fun it acc env => by
      rw [zapu]
      refine bind_congr fun _ => bind_congr fun r => ?_
      cases r with
      | none => rfl
      | some v =>
        refine bind_congr fun _ => bind_congr fun _ => bind_congr fun ok => ?_
        cases ok with
        | false => rfl
        | true => simp only [if_true, bind_assoc, pure_bind]) hi
    (fun cl C s H fp p => let ⟨h1, h2, h3, h4, h5, h6⟩ := hb cl C s H fp; ⟨h1, h2, zabq (X := cxComp X scope N' own cl C s H fp) rfl hc h3 h4 h5 h6 (fun x => hs2 _ x)⟩) hs
end
noncomputable def NoAc (env : DEnv) : Prop := ∀ (i : Nat) (d : PyData), env[i]? ≠ some (.ac d)
noncomputable def GZ (lo hi : Nat) (g : GT) : Prop := ∀ d env e1, g d env = some e1 → e1.length = env.length ∧ (∀ i, (i < lo ∨ hi ≤ i) → e1[i]? = env[i]?) ∧ (NoAc env → NoAc e1)
theorem zaiz {env : DEnv} {i : Nat} {d : PyData} (h : NoAc env) : NoAc (env.set i (.pl d)) := by
  intro j d' e
  by_cases q : i = j
  · subst q
    by_cases l : i < env.length
    · rw [List.getElem?_set_self l] at e; cases e
    · rw [List.getElem?_eq_none (by simp; omega)] at e; cases e
  · rw [List.getElem?_set_ne q] at e; exact h j d' e
theorem zux {lo hi i : Nat} (h : lo ≤ i) (h' : i < hi) : GZ lo hi (gN i) := by
  intro d env e1 e
  cases e
  exact ⟨List.length_set, fun j hj => List.getElem?_set_ne (by omega), zaiz⟩
theorem zqt {g : GT} {t : TF} {e : EF} {env : DEnv} : ∀ {ds rs : List PyData}, zdk g t e env ds = some rs → rs.length ≤ ds.length
  | [], rs, h => by cases h; exact Nat.le_refl _
  | d :: ds, rs, h => by
    unfold zdk at h
    obtain ⟨e1, _, h⟩ := Option.bind_eq_some_iff.mp h
    obtain ⟨b, _, h⟩ := Option.bind_eq_some_iff.mp h
    split at h
    · obtain ⟨r, _, h⟩ := Option.bind_eq_some_iff.mp h
      obtain ⟨rs', h', rfl⟩ := Option.map_eq_some_iff.mp h
      have := zqt h'
      simp; omega
    · have := zqt h
      simp; omega
noncomputable def innL (f2 : IF') (g2 : GT) (t2 : TF) (e : EF) (e1 : DEnv) : Option (List PyData) := (f2 e1).bind fun z => if z.1.length < 300 then zdk g2 t2 e e1 z.1 else none
noncomputable def zjq (g : GT) (t : TF) (f2 : IF') (g2 : GT) (t2 : TF) (e : EF) (env : DEnv) : List PyData → Option (List PyData)
  | [] => some []
  | d :: ds => (g d env).bind fun e1 => (t e1).bind fun b => if b = true then (innL f2 g2 t2 e e1).bind fun r1 => (zjq g t f2 g2 t2 e env ds).map fun rs => r1 ++ rs else zjq g t f2 g2 t2 e env ds
noncomputable def zqu (own : List Str) (fr : List Nat) (fi : IF') (g : GT) (t : TF) (f2 : IF') (g2 : GT) (t2 : TF) (e : EF) : EF := fun env => (fi env).bind fun z => if z.1.length < 300 then
  (zjq g t f2 g2 t2 e (envB own fr env) z.1).map fun rs => ⟨.list rs, true, if zfe rs = true then [] else z.2 ++ capA fr env⟩ else none
theorem zaja {wi2 : TI} {g2 : TG} {tt2 : TT} {te : TE} {f2 : IF'} {gf2 : GT} {t2 : TF} {e : EF} {B : Addr → Prop} {H1 : Hp} {e1 : DEnv} {σ : St} {H : Hp} {p : Addr} {vs : List V} {done rest ds : List PyData} {bs : List Nat} {Q : St → Hp → Prop} {k n : Nat}
    (h5 : SI wi2 f2) (h6 : SG g2 gf2) (hy : GZ k n gf2) (h7 : ST tt2 t2) (h4 : SE te e) (na : NoAc e1) (no : ∀ (i : Nat) (d : PyData), k ≤ i → i < n → e1[i]? ≠ some (.pl d))
    (hB : B p) (hp : H1 p = none) (hE : EnvOk B H1 e1 σ H) (ep : H p = some (.lst vs)) (rd : Rps (Offs B H) done vs) (ei : f2 e1 = some (ds, bs)) (dl : done.length + ds.length < 100000) (ec : zdk gf2 t2 e e1 ds = some rest)
    (q : ∀ σ' H' vs', H' p = some (.lst vs') → Rps (Offs B H') (done ++ rest) vs' → EnvOk B H1 e1 σ' H' → Q σ' H') : zabp wi2 g2 tt2 (zzh p te) σ H Q := by
  refine h5 B H1 e1 σ H hE ds bs ei _ fun J H4 s4 yl => ?_
  have hE4 := hE.up s4
  have n4 : Offs (fun b => b = p) H4 p = none := Offs.out rfl
  refine ⟨fun i m σ' H' => m = ds.length - i ∧ i ≤ ds.length ∧ ∃ vs done' rest', H' p = some (.lst vs) ∧ Rps (Offs B H') done' vs ∧ done'.length ≤ done.length + i ∧ zdk gf2 t2 e e1 (ds.drop i) = some rest' ∧ done' ++ rest' = done ++ rest ∧ EnvOk B (Offs (fun b => b = p) H4) e1 σ' H',
    ⟨ds.length, rfl, Nat.zero_le _, vs, done, rest, s4 _ _ ep, Rps.same (Offs.grow s4) _ rd, Nat.le_refl _, ec, rfl, ⟨hE4.len, hE4.pl, fun i d z => absurd z (na i d), hE4.inj, Offs.same _ _, hE4.fxs⟩⟩, ?_⟩
  rintro i m σ' H' ⟨rfl, hi, vs, done', rest', ep', rd', dl', ec', edr, hE'⟩
  obtain ⟨yi, ys⟩ := yl B H' hE'.fxs fun b o z => by
    obtain ⟨z1, z2⟩ := Offs.of z
    have hb : ¬ B b := fun y => z1 (.inl y)
    rw [Offs.get hb]
    exact hE'.base b o (by rw [Offs.get fun y => hb (by rw [y]; exact hB)]; exact z2)
  by_cases hlt : i < ds.length
  · obtain ⟨yg, yy⟩ := yi i ds[i] (List.getElem?_eq_getElem hlt)
    refine .inr ⟨yg, fun σ'' H'' => i + 1 ≤ ds.length ∧ ∃ vs done' rest', H'' p = some (.lst vs) ∧ Rps (Offs B H'') done' vs ∧ done'.length ≤ done.length + (i + 1) ∧ zdk gf2 t2 e e1 (ds.drop (i + 1)) = some rest' ∧ done' ++ rest' = done ++ rest ∧ EnvOk B (Offs (fun b => b = p) H4) e1 σ'' H'', ?_, ?_⟩
    · rintro σ'' H'' ⟨hle, hh⟩
      exact ⟨ds.length - (i + 1), by omega, rfl, hle, hh⟩
    · intro x H'' hyx
      obtain ⟨sy, ry⟩ := yy x H'' hyx
      rw [List.drop_eq_getElem_cons hlt] at ec'
      obtain ⟨e2, ee2, ec'⟩ := Option.bind_eq_some_iff.mp ec'
      obtain ⟨b, eb, ec'⟩ := Option.bind_eq_some_iff.mp ec'
      have ry' : Rp (Offs (fun a => B a ∨ L2.own e1 σ' a) H'') ds[i] x := Rp.same (Offs.sub fun b z => z.elim (fun y => y) fun ⟨j, d', z, _⟩ => absurd z (na _ _)) _ ry
      refine h6 _ _ e1 σ' H'' _ x (hE'.up sy) ry' e2 ee2 _ fun σ2 hE2 => ?_
      refine h7 _ _ e2 σ2 H'' hE2 b eb _ fun H3 s3 => ?_
      have hE3 := hE2.up s3
      obtain ⟨gl, gk, _⟩ := hy _ _ _ ee2
      have back : ∀ {H4' : Hp}, EnvOk B (Offs (fun b => b = p) H4) e2 σ2 H4' → EnvOk B (Offs (fun b => b = p) H4) e1 σ2 H4' := fun {H4'} hh => hh.weaken gl.symm (fun j d' ej => by
        by_cases hj : j < k ∨ n ≤ j
        · rw [gk j hj]; exact ej
        · exact absurd ej (no j d' (by omega) (by omega))) na
      cases b with
      | false =>
        have ec' : zdk gf2 t2 e e1 (ds.drop (i + 1)) = some rest' := ec'
        exact iteF ⟨hlt, vs, done', rest', s3 _ _ (sy _ _ ep'), Rps.same (Offs.grow (sy.trans s3)) _ rd', Nat.le_succ_of_le dl', ec', edr, back hE3⟩
      | true =>
        have ec' : ((e e2).bind fun r => (zdk gf2 t2 e e1 (ds.drop (i + 1))).map fun rs => r.d :: rs) = some rest' := ec'
        obtain ⟨r, er, ec'⟩ := Option.bind_eq_some_iff.mp ec'
        obtain ⟨rest2, er', rfl⟩ := Option.map_eq_some_iff.mp ec'
        refine iteT (h4 _ _ e2 σ2 H3 hE3 r er _ fun v H5 s5 hv => ?_)
        have t5 := (sy.trans s3).trans s5
        refine ⟨vs, t5 _ _ ep', znn (by rw [← rd'.length]; omega), hlt, vs ++ [v], done' ++ [r.d], rest2, zaw, ?_, by rw [List.length_append]; simp; omega, er', by rw [← edr]; simp, (back (hE3.up s5)).updFx hB n4⟩
        rw [Offs.upd hB]
        refine (Rps.same (Offs.grow t5) _ rd').append (zdw (Rp.same (Offs.sub fun b z => .inl z) _ hv.rp) zde)
  · have hi' : i = ds.length := by omega
    subst hi'
    rw [List.drop_length] at ec'
    cases ec'
    rw [List.append_nil] at edr
    subst edr
    exact .inl ⟨ys, q σ' H' vs ep' rd' ⟨hE'.len, hE'.pl, fun i d z => absurd z (na i d), hE'.inj, fun b o z => hE'.base b o (by rw [Offs.get fun y => by rw [y, hp] at z; cases z]; exact s4 b o (hE.base b o z)), hE'.fxs⟩⟩
end L2
namespace L2
open PySem PySem.Spec PyProof.Rows
theorem zajb {own : List Str} {fr : List Nat} {env : DEnv} {i : Nat} (h : i < own.length) : (envB own fr env)[i]? = some .no := by
  unfold envB
  rw [List.getElem?_append_left (by simpa using h), List.getElem?_map, List.getElem?_eq_getElem h]; rfl
theorem zabr {own : List Str} {fr : List Nat} {wi wi2 : TI} {g g2 : TG} {tt tt2 : TT} {te : TE} {fi f2 : IF'} {gf gf2 : GT} {t t2 : TF} {e : EF} {k : Nat} (h1 : SI wi fi) (h2 : SG g gf) (hx : GZ 0 k gf) (hk : k ≤ own.length) (h3 : ST tt t)
    (h5 : SI wi2 f2) (h6 : SG g2 gf2) (hy : GZ k own.length gf2) (h7 : ST tt2 t2) (h4 : SE te e) :
    SE (tComp2 wi g tt wi2 g2 tt2 te own fr) (zqu own fr fi gf t f2 gf2 t2 e) := by
  intro fx H0 env σ H h rr hr Q q
  unfold zqu at hr
  obtain ⟨⟨ds, bs⟩, ei, hr⟩ := Option.bind_eq_some_iff.mp hr
  split at hr
  · rename_i hlen
    have hlen : ds.length < 300 := hlen
    obtain ⟨rs, ers, rfl⟩ := Option.map_eq_some_iff.mp hr
    refine h1 fx H0 env σ H h ds bs ei _ fun J H1 s yl => fun p hp => ?_
    have hB := zqr h s hp own fr bs
    generalize hA : (fun b => lim fx env σ (bs ++ capA fr env) b) = A
    have hA' : ∀ b, lim fx env σ (bs ++ capA fr env) b ↔ A b := fun b => by rw [← hA]
    have eA : (fun b => lim fx env σ (bs ++ capA fr env) b ∨ b = p) = fun b => A b ∨ b = p := by rw [← hA]
    rw [eA] at hB
    have seen : ∀ {σ' : St} {H' : Hp}, EnvOk (fun b => A b ∨ b = p) H1 (envB own fr env) σ' H' → Same (Offs (fun b => fx b ∨ L2.own (frzs env bs) σ b) H1) (Offs (fun b => A b ∨ b = p) H') := fun {σ' H'} hE => Offs.mono hE.base fun b o eo n z => by
      rcases z with z | z
      · rcases (hA' b).mpr z with z | ⟨i, d, z1, z2, z3⟩
        · exact n (.inl z)
        · exact n (.inr ⟨i, d, zhb (fun y => z1 (List.mem_append_left _ y)) z2, z3⟩)
      · rw [z, hp] at eo; cases eo
    refine ⟨fun i m σ' H' => m = ds.length - i ∧ i ≤ ds.length ∧ ∃ vs done rest, H' p = some (.lst vs) ∧ Rps (Offs (fun b => A b ∨ b = p) H') done vs ∧ done.length ≤ i * 300 ∧ zjq gf t f2 gf2 t2 e (envB own fr env) (ds.drop i) = some rest ∧ done ++ rest = rs ∧ EnvOk (fun b => A b ∨ b = p) H1 (envB own fr env) σ' H',
      ⟨ds.length, rfl, Nat.zero_le _, [], [], rs, zaw, zde, Nat.zero_le _, ers, rfl, hB⟩, ?_⟩
    rintro i m σ' H' ⟨rfl, hi, vs, done, rest, ep, rd, dl, ec, edr, hE⟩
    obtain ⟨yi, ys⟩ := yl _ H' hE.fxs (seen hE)
    by_cases hlt : i < ds.length
    · obtain ⟨yg, yy⟩ := yi i ds[i] (List.getElem?_eq_getElem hlt)
      refine .inr ⟨yg, fun σ'' H'' => i + 1 ≤ ds.length ∧ ∃ vs done rest, H'' p = some (.lst vs) ∧ Rps (Offs (fun b => A b ∨ b = p) H'') done vs ∧ done.length ≤ (i + 1) * 300 ∧ zjq gf t f2 gf2 t2 e (envB own fr env) (ds.drop (i + 1)) = some rest ∧ done ++ rest = rs ∧ EnvOk (fun b => A b ∨ b = p) H1 (envB own fr env) σ'' H'', ?_, ?_⟩
      · rintro σ'' H'' ⟨hle, hh⟩
        exact ⟨ds.length - (i + 1), by omega, rfl, hle, hh⟩
      · intro x H'' hyx
        obtain ⟨sy, ry⟩ := yy x H'' hyx
        rw [List.drop_eq_getElem_cons hlt] at ec
        obtain ⟨e1, ee1, ec⟩ := Option.bind_eq_some_iff.mp ec
        obtain ⟨b, eb, ec⟩ := Option.bind_eq_some_iff.mp ec
        have ry' : Rp (Offs (fun a => (A a ∨ a = p) ∨ L2.own (envB own fr env) σ' a) H'') ds[i] x := Rp.same (Offs.sub fun b z => z.elim (fun y => y) fun ⟨j, d', z, _⟩ => absurd z zhw) _ ry
        refine h2 _ H1 (envB own fr env) σ' H'' _ x (hE.up sy) ry' e1 ee1 _ fun σ2 hE2 => ?_
        refine h3 _ H1 e1 σ2 H'' hE2 b eb _ fun H3 s3 => ?_
        have hE3 := hE2.up s3
        obtain ⟨gl, gk, gn⟩ := hx _ _ _ ee1
        have na : NoAc e1 := gn fun _ _ => zhw
        have back : ∀ {σ4 : St} {H4 : Hp}, EnvOk (fun b => A b ∨ b = p) H1 e1 σ4 H4 → EnvOk (fun b => A b ∨ b = p) H1 (envB own fr env) σ4 H4 := fun {σ4 H4} hh => hh.weaken gl.symm (fun j d' ej => by
          by_cases hj : own.length ≤ j
          · rw [gk j (.inr (by omega))]; exact ej
          · obtain ⟨_, k, rfl, _⟩ := zpu ej; omega) fun j d' => zhw
        cases b with
        | false =>
          have ec : zjq gf t f2 gf2 t2 e (envB own fr env) (ds.drop (i + 1)) = some rest := ec
          exact iteF ⟨hlt, vs, done, rest, s3 _ _ (sy _ _ ep), Rps.same (Offs.grow (sy.trans s3)) _ rd, by omega, ec, edr, back hE3⟩
        | true =>
          have ec : ((innL f2 gf2 t2 e e1).bind fun r1 => (zjq gf t f2 gf2 t2 e (envB own fr env) (ds.drop (i + 1))).map fun rs => r1 ++ rs) = some rest := ec
          obtain ⟨r1, er, ec⟩ := Option.bind_eq_some_iff.mp ec
          obtain ⟨rest', er', rfl⟩ := Option.map_eq_some_iff.mp ec
          obtain ⟨⟨ds2, bs2⟩, e2, er⟩ := Option.bind_eq_some_iff.mp er
          split at er
          · rename_i hl2
            have hl2 : ds2.length < 300 := hl2
            have l2 := zqt er
            refine iteT (zaja (B := fun b => A b ∨ b = p) (p := p) (vs := vs) (done := done) h5 h6 hy h7 h4 na (fun j d' h8 h9 ej => ?_) (.inr rfl) hp hE3 (s3 _ _ (sy _ _ ep)) (Rps.same (Offs.grow (sy.trans s3)) _ rd) e2 (by omega) er fun σ5 H5 vs5 ep5 rd5 hE5 => ?_)
            · rw [gk j (.inr h8), zajb h9] at ej; cases ej
            · have l2' : r1.length ≤ ds2.length := l2
              exact ⟨hlt, vs5, done ++ r1, rest', ep5, rd5, by rw [List.length_append]; omega, er', by rw [← edr, List.append_assoc], back hE5⟩
          · cases er
    · have hi' : i = ds.length := by omega
      subst hi'
      rw [List.drop_length] at ec
      cases ec
      rw [List.append_nil] at edr
      subst edr
      refine .inl ⟨ys, q _ H' (s.trans hE.base) ⟨?_, fun _ => ⟨p, rfl, s.free hp, ?_⟩⟩⟩
      · show Rp (Offs (lim fx env σ (if zfe done = true then [] else bs ++ capA fr env)) H') (.list done) (.ref p)
        have nl : ∀ cs, ¬ lim fx env σ cs p := fun cs z => by
          obtain ⟨o, eo⟩ := (h.up s).lims _ p z
          rw [hp] at eo; cases eo
        refine zfd (by rw [Offs.get (nl _)]; exact ep) ?_
        split
        · rename_i f; exact zir f rd
        · exact Rps.same (Offs.sub fun b z => .inl ((hA' b).mp z)) _ rd
      · show zgs (Offs (fun b => lim fx env σ (if zfe done = true then [] else bs ++ capA fr env) b ∨ b = p) H') H' p (.list done)
        refine ⟨vs, ep, ?_⟩
        split
        · rename_i f; exact zir f rd
        · exact Rps.same (Offs.sub fun b z => z.imp (hA' b).mp id) _ rd
  · cases hr
end L2
namespace PySem
open Sem (wp)
end PySem
namespace L2
open PySem PySem.Spec PyProof.Rows
instance memKey (k : Key) (l : List Key) : Decidable (k ∈ l) := decidable_of_iff (∃ x, x ∈ l ∧ x = k) ⟨fun ⟨x, h, e⟩ => e ▸ h, fun h => ⟨k, h, rfl⟩⟩
end L2
namespace L2
open PySem PySem.Spec PyProof.Rows
end L2
namespace PySem
open Sem (wp)
noncomputable def SqIt (b : Bool) (h : Heap) (it l : Addr) (i : Nat) : Prop := match b with
  | true => h.IsListIter it l i
  | false => h.IsTupleIter it l i
noncomputable def zfw (b : Bool) (h : Heap) (l : Addr) (xs : Array Value) : Prop := match b with
  | true => h.IsList l xs
  | false => h.IsTuple l xs
theorem SqIt.moved {b : Bool} {h h' : Heap} {it l : Addr} {i : Nat} (x : SqIt b h it l i) (e : ∀ o, h.get? it = some o → h'.get? it = some o) : SqIt b h' it l i := by
  cases b with
  | true => obtain ⟨o, q, r⟩ := x; exact ⟨o, e o q, r⟩
  | false => obtain ⟨o, q, r⟩ := x; exact ⟨o, e o q, r⟩
theorem zfw.moved {b : Bool} {h h' : Heap} {l : Addr} {xs : Array Value} (x : zfw b h l xs) (e : ∀ o, h.get? l = some o → h'.get? l = some o) : zfw b h' l xs := by
  cases b with
  | true => obtain ⟨o, q, r⟩ := x; exact ⟨o, e o q, r⟩
  | false => obtain ⟨o, q, r⟩ := x; exact ⟨o, e o q, r⟩
theorem SqIt.at {b : Bool} {h h' : Heap} {it l : Addr} {i : Nat} (x : SqIt b h it l i) (e : ∀ o, h.get? it = some o → h'.get? it = some o) : SqIt b h' it l i := x.moved e
theorem SqIt.extBut {b : Bool} {h h' : Heap} {it l c : Addr} {i : Nat} (x : SqIt b h it l i) (s : Heap.ExtBut c h h') (n : it ≠ c) : SqIt b h' it l i := x.moved fun o e => s _ o n e
theorem zfw.extBut {b : Bool} {h h' : Heap} {l c : Addr} {xs : Array Value} (x : zfw b h l xs) (s : Heap.ExtBut c h h') (n : l ≠ c) : zfw b h' l xs := x.moved fun o e => s _ o n e
theorem SqIt.obj {b : Bool} {h : Heap} {it l : Addr} {i : Nat} (x : SqIt b h it l i) : ∃ o, h.get? it = some o ∧ ∀ v, o.data ≠ .cell v := by
  cases b with
  | true => obtain ⟨o, q, _, r⟩ := x; exact ⟨o, q, fun v z => by rw [r] at z; cases z⟩
  | false => obtain ⟨o, q, _, r⟩ := x; exact ⟨o, q, fun v z => by rw [r] at z; cases z⟩
section
variable {prog : Program} {w : World} {A : Around} {E : Value → Shared → Prop} {s : Shared}
theorem zuy {it l : Addr} {i : Nat} {items} {x : Value} {Q : Value → Shared → Prop} (hit : s.heap.IsTupleIter it l i)
    (hl : s.heap.IsTuple l items) (hx : items[i]? = some x)
    (hQ : ∀ h', h'.IsTupleIter it l (i + 1) → Heap.SameBut it s.heap h' → Q x { s with heap := h' }) :
    wpAny (model prog w) A (Builtin.SmallTypes.nextOf (.ref it)) Q E s := by
  obtain ⟨o, ho, hc, hd⟩ := id hit
  obtain ⟨ol, hol, _, nl, hdl⟩ := hl
  unfold Builtin.SmallTypes.nextOf
  refine wpAny_bind (wpAny_callSpecial?_slot (name := Str.ofString "__next__") hit.typeIs F.slot_tuple_iterator_next
    (wpAny_call_entry F.slot_tuple_iterator_next hit.typeIs F.entry_tuple_iterator_next ?_ (F.args_tuple_iterator_next_1 _)))
  show wpAny _ _ (field (.ref it) 0 >>= _) _ _ s
  refine wpAny_bind (wpAny_field ho hd (x := .ref l) rfl ?_)
  show wpAny _ _ (if (Value.ref l == Value.none) = true then _ else _) _ _ s
  rw [if_neg (show ¬ ((Value.ref l == Value.none) = true) from Bool.false_ne_true)]
  show wpAny _ _ (field (.ref it) 1 >>= _) _ _ s
  refine wpAny_bind (wpAny_field ho hd (x := .int i 0) rfl ?_)
  show wpAny _ _ (seqItems? (.ref l) >>= _) _ _ s
  refine wpAny_bind (wpAny_seqItems hol hdl ?_)
  simp only [Int.toNat_natCast, hx]
  refine wpAny_bind (wpAny_setField ho hd (by simp) (wpAny_pure ⟨x, rfl, wpAny_pure (hQ _ ?_ (Heap.SameBut.update ..))⟩))
  exact ⟨_, Heap.get?_update_self _ ho (Obj.isFreed_of_fields (Obj.data_mapFields hd _)), (Obj.cls_mapFields ..).trans hc, by
    rw [Obj.data_mapFields hd]; simp [rawInt]⟩
theorem zxb {it l : Addr} {i : Nat} {items} {Q : Value → Shared → Prop} (hh : A.handled = none)
    (hit : s.heap.IsTupleIter it l i) (hl : s.heap.IsTuple l items) (hx : items[i]? = none)
    (hE : ∀ h' e, Heap.ExtBut it s.heap h' → (∃ o, h'.get? e = some o ∧ o.cls = .type "StopIteration") → E (.ref e) { s with heap := h' }) :
    wpAny (model prog w) A (Builtin.SmallTypes.nextOf (.ref it)) Q E s := by
  obtain ⟨o, ho, hc, hd⟩ := id hit
  obtain ⟨ol, hol, _, nl, hdl⟩ := hl
  unfold Builtin.SmallTypes.nextOf
  refine wpAny_bind (wpAny_callSpecial?_slot (name := Str.ofString "__next__") hit.typeIs F.slot_tuple_iterator_next
    (wpAny_call_entry F.slot_tuple_iterator_next hit.typeIs F.entry_tuple_iterator_next ?_ (F.args_tuple_iterator_next_1 _)))
  show wpAny _ _ (field (.ref it) 0 >>= _) _ _ s
  refine wpAny_bind (wpAny_field ho hd (x := .ref l) rfl ?_)
  show wpAny _ _ (if (Value.ref l == Value.none) = true then _ else _) _ _ s
  rw [if_neg (show ¬ ((Value.ref l == Value.none) = true) from Bool.false_ne_true)]
  show wpAny _ _ (field (.ref it) 1 >>= _) _ _ s
  refine wpAny_bind (wpAny_field ho hd (x := .int i 0) rfl ?_)
  show wpAny _ _ (seqItems? (.ref l) >>= _) _ _ s
  refine wpAny_bind (wpAny_seqItems hol hdl ?_)
  simp only [Int.toNat_natCast, hx]
  refine wpAny_bind (wpAny_rule (wpAny_bind (wpAny_setField ho hd (by simp) ?_)))
  show wpAny _ _ (newExc (.type "StopIteration") [] >>= _) _ _ _
  refine wpAny_bind ?_
  simp only [newExc, newTuple]
  refine wpAny_bind (wpAny_newObj_type ?_ (by size_fits))
  refine wpAny_bind (m := firstArgMember _ _) (wpAny_of_eq (a := Value.none) (by first | rfl | (simp only [firstArgMember]; rfl)) ?_)
  refine wpAny_newObj_type ?_ (by size_fits)
  simp only [raiseNew]
  refine wpAny_bind (wpAny_handled ?_)
  first | rw [show A.in1.handled = none from hh] | rw [hh]
  refine wpAny_bind (wpAny_pure (wpAny_throw ?_))
  exact hE _ _ (((Heap.SameBut.update ..).extBut.push _).push _) ⟨_, Heap.get?_push_size _ rfl, rfl⟩
theorem zuz {b : Bool} {it l : Addr} {i : Nat} {xs : Array Value} {x : Value} {Q : Value → Shared → Prop} (hit : SqIt b s.heap it l i) (hl : zfw b s.heap l xs) (hx : xs[i]? = some x)
    (hQ : ∀ h', SqIt b h' it l (i + 1) → Heap.SameBut it s.heap h' → Q x { s with heap := h' }) : wpAny (model prog w) A (Builtin.SmallTypes.nextOf (.ref it)) Q E s := by
  cases b with
  | true => exact wpAny_nextOf_list_item hit hl hx hQ
  | false => exact zuy hit hl hx hQ
theorem zabs {b : Bool} {it l : Addr} {i : Nat} {xs : Array Value} {Q : Value → Shared → Prop} (hh : A.handled = none) (hit : SqIt b s.heap it l i) (hl : zfw b s.heap l xs) (hx : xs[i]? = none)
    (hE : ∀ h' e, Heap.ExtBut it s.heap h' → (∃ o, h'.get? e = some o ∧ o.cls = .type "StopIteration") → E (.ref e) { s with heap := h' }) : wpAny (model prog w) A (Builtin.SmallTypes.nextOf (.ref it)) Q E s := by
  cases b with
  | true => exact wpAny_nextOf_list_end hh hit hl hx hE
  | false => exact zxb hh hit hl hx hE
theorem zadb {b1 b2 : Bool} {z TI TO i1 i2 l1 l2 : Addr} {k1 k2 : Nat} {xs ys : Array Value} {x y a b : Value} {Q : Value → Shared → Prop} (D : ZipApart z TI TO i1 i2 l1 l2)
    (hz : IsZip s.heap z TI TO .none) (hTI : IsPair s.heap TI (.ref i1) (.ref i2)) (hTO : IsPair s.heap TO a b)
    (h1 : SqIt b1 s.heap i1 l1 k1) (h2 : SqIt b2 s.heap i2 l2 k2) (hl1 : zfw b1 s.heap l1 xs) (hl2 : zfw b2 s.heap l2 ys) (hx : xs[k1]? = some x) (hy : ys[k2]? = some y)
    (hQ : ∀ h', IsZip h' z TI TO (rawInt s.heap.objs.size) → IsPair h' TO x y → SqIt b1 h' i1 l1 (k1 + 1) → SqIt b2 h' i2 l2 (k2 + 1) → IsPair h' s.heap.objs.size x y → h'.objs.size = s.heap.objs.size + 1 →
      (∀ c o, c ≠ z → c ≠ TO → c ≠ i1 → c ≠ i2 → s.heap.get? c = some o → h'.get? c = some o) → Q (.ref s.heap.objs.size) { s with heap := h' }) :
    wpAny (model prog w) A (Builtin.«zip.__next__» ⟨[.ref z], []⟩) (fun fin s' => ∃ v, fin = .done (.ret v) ∧ Q v s') E s := by
  show wpAny _ _ (field (.ref z) 2 >>= _) _ _ _
  refine wpAny_bind (wpAny_field hz rfl (x := .bool false) rfl ?_)
  show wpAny _ _ (field (.ref z) 3 >>= _) _ _ _
  refine wpAny_bind (wpAny_field hz rfl (x := .ref TI) rfl ?_)
  refine wpAny_bind (wpAny_seqItems hTI rfl ?_)
  show wpAny _ _ (Builtin.SmallTypes.ownedTupleIsFree (.ref z) >>= _) _ _ _
  refine wpAny_bind ?_
  unfold Builtin.SmallTypes.ownedTupleIsFree
  refine wpAny_bind (wpAny_field hz rfl (x := .none) rfl (wpAny_pure ?_))
  simp only [if_true]
  refine wpAny_bind (wpAny_rule ?_)
  refine wpAny_bind (wpAny_field hz rfl (x := .ref TO) rfl ?_)
  refine wpAny_bind (wpAny_setField_rec hz (by simp) fun h₁ hz₁ hs₁ => ?_)
  replace hz₁ : IsZip h₁ z TI TO .ellipsis := hz₁
  refine wpAny_bind ?_
  simp only [List.zipIdx_cons, List.zipIdx_nil, List.forIn_cons, List.forIn_nil]
  refine wpAny_bind (wpAny_bind (wpAny_onRaise ?_))
  show wpAny _ _ (Builtin.SmallTypes.nextOf (.ref i1) >>= _) _ _ _
  refine wpAny_bind (zuz (h1.extBut hs₁.extBut D.i1z) (hl1.extBut hs₁.extBut D.l1z) hx fun h₂ h1₂ hs₂ => wpAny_pure ?_)
  have hTO₂ : IsPair h₂ TO a b := hs₂.extBut _ _ D.TOi1 (hs₁.extBut _ _ D.TOz hTO)
  refine wpAny_bind (wpAny_seqItems hTO₂ rfl ?_)
  refine wpAny_bind (wpAny_updateSeq_pair hTO₂ fun h₃ hTO₃ hs₃ => ?_)
  replace hTO₃ : IsPair h₃ TO x b := hTO₃
  refine wpAny_bind (wpAny_letGo (wpAny_pure ?_))
  refine wpAny_bind (wpAny_bind (wpAny_onRaise ?_))
  show wpAny _ _ (Builtin.SmallTypes.nextOf (.ref i2) >>= _) _ _ _
  refine wpAny_bind (zuz (((h2.extBut hs₁.extBut D.i2z).extBut hs₂.extBut D.i12.symm).extBut hs₃.extBut D.TOi2.symm)
    (((hl2.extBut hs₁.extBut D.l2z).extBut hs₂.extBut D.l2i1).extBut hs₃.extBut D.l2TO) hy fun h₄ h2₄ hs₄ => wpAny_pure ?_)
  have hTO₄ : IsPair h₄ TO x b := hs₄.extBut _ _ D.TOi2 hTO₃
  refine wpAny_bind (wpAny_seqItems hTO₄ rfl ?_)
  refine wpAny_bind (wpAny_updateSeq_pair hTO₄ fun h₅ hTO₅ hs₅ => ?_)
  replace hTO₅ : IsPair h₅ TO x y := hTO₅
  refine wpAny_bind (wpAny_letGo (wpAny_pure (wpAny_pure ?_)))
  refine wpAny_bind (wpAny_seqItems hTO₅ rfl ?_)
  refine wpAny_bind (wpAny_newTuple ?_)
  have hsz : h₅.objs.size = s.heap.objs.size := by rw [hs₅.1, hs₄.1, hs₃.1, hs₂.1, hs₁.1]
  have hz₅ : IsZip h₅ z TI TO .ellipsis := hs₅.extBut _ _ D.TOz.symm (hs₄.extBut _ _ D.i2z.symm (hs₃.extBut _ _ D.TOz.symm (hs₂.extBut _ _ D.i1z.symm hz₁)))
  have hk₅ : ∀ c o, c ≠ z → c ≠ TO → c ≠ i1 → c ≠ i2 → s.heap.get? c = some o → h₅.get? c = some o := fun c o c1 c2 c3 c4 e =>
    hs₅.extBut _ _ c2 (hs₄.extBut _ _ c4 (hs₃.extBut _ _ c2 (hs₂.extBut _ _ c3 (hs₁.extBut _ _ c1 e))))
  have h1₅ : SqIt b1 h₅ i1 l1 (k1 + 1) := ((h1₂.extBut hs₃.extBut D.TOi1.symm).extBut hs₄.extBut D.i12).extBut hs₅.extBut D.TOi1.symm
  have h2₅ : SqIt b2 h₅ i2 l2 (k2 + 1) := h2₄.extBut hs₅.extBut D.TOi2.symm
  have hzlt : z < h₅.objs.size := Heap.lt_size hz₅
  have hTOlt : TO < h₅.objs.size := Heap.lt_size hTO₅
  have hi1lt : i1 < h₅.objs.size := by obtain ⟨_, e, _⟩ := h1₅.obj; exact Heap.lt_size e
  have hi2lt : i2 < h₅.objs.size := by obtain ⟨_, e, _⟩ := h2₅.obj; exact Heap.lt_size e
  show wpAny _ _ (Builtin.SmallTypes.ownedTupleHandOut (.ref z) (.ref h₅.objs.size) >>= _) _ _ _
  refine wpAny_bind ?_
  unfold Builtin.SmallTypes.ownedTupleHandOut
  have hz₆ : IsZip (h₅.push { cls := .type "tuple", data := .seq #[x, y] }) z TI TO .ellipsis := Heap.get?_push_of_some _ hz₅
  refine wpAny_bind (wpAny_setField_rec hz₆ (by simp) fun h₇ hz₇ hs₇ => ?_)
  replace hz₇ : IsZip h₇ z TI TO (rawInt h₅.objs.size) := hz₇
  refine wpAny_setField_rec hz₇ (by simp) fun h₈ hz₈ hs₈ => ?_
  replace hz₈ : IsZip h₈ z TI TO (rawInt h₅.objs.size) := hz₈
  have up : ∀ c o, c ≠ z → h₅.get? c = some o → h₈.get? c = some o := fun c o c1 e => hs₈.extBut _ _ c1 (hs₇.extBut _ _ c1 (Heap.get?_push_of_some _ e))
  have hT₈ : IsPair h₈ h₅.objs.size x y := hs₈.extBut _ _ (Nat.ne_of_gt hzlt) (hs₇.extBut _ _ (Nat.ne_of_gt hzlt) (Heap.get?_push_size _ rfl))
  have hz8 : h₈.objs.size = h₅.objs.size + 1 := by rw [hs₈.1, hs₇.1, Heap.size_push]
  rw [hsz] at hz₈ hT₈ hz8
  refine wpAny_pure ⟨_, rfl, ?_⟩
  show Q (.ref h₅.objs.size) _
  rw [hsz]
  exact hQ h₈ hz₈ (up _ _ D.TOz hTO₅) (h1₅.at fun o e => up _ o D.i1z e) (h2₅.at fun o e => up _ o D.i2z e) hT₈ hz8 fun c o c1 c2 c3 c4 e => up c o c1 (hk₅ c o c1 c2 c3 c4 e)
theorem zafo {b1 b2 : Bool} {z TI TO i1 i2 l1 l2 : Addr} {k1 k2 : Nat} {xs ys : Array Value} {a b : Value} {Q : Fin → Shared → Prop} (hh : A.handled = none) (D : ZipApart z TI TO i1 i2 l1 l2)
    (hz : IsZip s.heap z TI TO .none) (hTI : IsPair s.heap TI (.ref i1) (.ref i2)) (hTO : IsPair s.heap TO a b)
    (h1 : SqIt b1 s.heap i1 l1 k1) (h2 : SqIt b2 s.heap i2 l2 k2) (hl1 : zfw b1 s.heap l1 xs) (hl2 : zfw b2 s.heap l2 ys) (hend : xs[k1]? = none ∨ ys[k2]? = none)
    (hE : ∀ h' e, (∀ c o, c ≠ z → c ≠ TO → c ≠ i1 → c ≠ i2 → s.heap.get? c = some o → h'.get? c = some o) → (∃ o, h'.get? e = some o ∧ o.cls = .type "StopIteration") → E (.ref e) { s with heap := h' }) :
    wpAny (model prog w) A (Builtin.«zip.__next__» ⟨[.ref z], []⟩) Q E s := by
  show wpAny _ _ (field (.ref z) 2 >>= _) _ _ _
  refine wpAny_bind (wpAny_field hz rfl (x := .bool false) rfl ?_)
  show wpAny _ _ (field (.ref z) 3 >>= _) _ _ _
  refine wpAny_bind (wpAny_field hz rfl (x := .ref TI) rfl ?_)
  refine wpAny_bind (wpAny_seqItems hTI rfl ?_)
  show wpAny _ _ (Builtin.SmallTypes.ownedTupleIsFree (.ref z) >>= _) _ _ _
  refine wpAny_bind ?_
  unfold Builtin.SmallTypes.ownedTupleIsFree
  refine wpAny_bind (wpAny_field hz rfl (x := .none) rfl (wpAny_pure ?_))
  simp only [if_true]
  refine wpAny_bind (wpAny_rule ?_)
  refine wpAny_bind (wpAny_field hz rfl (x := .ref TO) rfl ?_)
  refine wpAny_bind (wpAny_setField_rec hz (by simp) fun h₁ hz₁ hs₁ => ?_)
  replace hz₁ : IsZip h₁ z TI TO .ellipsis := hz₁
  refine wpAny_bind ?_
  simp only [List.zipIdx_cons, List.zipIdx_nil, List.forIn_cons, List.forIn_nil]
  refine wpAny_bind (wpAny_bind (wpAny_onRaise ?_))
  show wpAny _ _ (Builtin.SmallTypes.nextOf (.ref i1) >>= _) _ _ _
  cases hx : xs[k1]? with
  | none =>
    refine wpAny_bind (zabs hh (h1.extBut hs₁.extBut D.i1z) (hl1.extBut hs₁.extBut D.l1z) hx fun h₂ e hs₂ he => ?_)
    obtain ⟨oe, hoe, hce⟩ := he
    have hz₂ : IsZip h₂ z TI TO .ellipsis := hs₂ _ _ D.i1z.symm hz₁
    have hez : e ≠ z := fun x => by subst x; rw [hz₂] at hoe; cases hoe; simp at hce
    refine wpAny_setField_rec hz₂ (by simp) fun h₃ _ hs₃ => hE h₃ e (fun c o c1 _ c3 _ x => hs₃.extBut _ _ c1 (hs₂ _ _ c3 (hs₁.extBut _ _ c1 x))) ⟨oe, hs₃.extBut _ _ hez hoe, hce⟩
  | some x =>
    have hy : ys[k2]? = none := by rcases hend with h | h; rw [hx] at h; cases h; exact h
    refine wpAny_bind (zuz (h1.extBut hs₁.extBut D.i1z) (hl1.extBut hs₁.extBut D.l1z) hx fun h₂ h1₂ hs₂ => wpAny_pure ?_)
    have hTO₂ : IsPair h₂ TO a b := hs₂.extBut _ _ D.TOi1 (hs₁.extBut _ _ D.TOz hTO)
    refine wpAny_bind (wpAny_seqItems hTO₂ rfl ?_)
    refine wpAny_bind (wpAny_updateSeq_pair hTO₂ fun h₃ hTO₃ hs₃ => ?_)
    refine wpAny_bind (wpAny_letGo (wpAny_pure ?_))
    refine wpAny_bind (wpAny_bind (wpAny_onRaise ?_))
    show wpAny _ _ (Builtin.SmallTypes.nextOf (.ref i2) >>= _) _ _ _
    refine wpAny_bind (zabs hh (((h2.extBut hs₁.extBut D.i2z).extBut hs₂.extBut D.i12.symm).extBut hs₃.extBut D.TOi2.symm)
      (((hl2.extBut hs₁.extBut D.l2z).extBut hs₂.extBut D.l2i1).extBut hs₃.extBut D.l2TO) hy fun h₄ e hs₄ he => ?_)
    obtain ⟨oe, hoe, hce⟩ := he
    have hz₄ : IsZip h₄ z TI TO .ellipsis := hs₄ _ _ D.i2z.symm (hs₃.extBut _ _ D.TOz.symm (hs₂.extBut _ _ D.i1z.symm hz₁))
    have hez : e ≠ z := fun x => by subst x; rw [hz₄] at hoe; cases hoe; simp at hce
    refine wpAny_setField_rec hz₄ (by simp) fun h₅ _ hs₅ => hE h₅ e (fun c o c1 c2 c3 c4 x => hs₅.extBut _ _ c1 (hs₄ _ _ c4 (hs₃.extBut _ _ c2 (hs₂.extBut _ _ c3 (hs₁.extBut _ _ c1 x))))) ⟨oe, hs₅.extBut _ _ hez hoe, hce⟩
structure ZipAt (b1 b2 : Bool) (h : Heap) (z TI TO i1 i2 l1 l2 : Addr) (f0 : Value) (k : Nat) : Prop where
  z : IsZip h z TI TO f0
  ti : IsPair h TI (.ref i1) (.ref i2)
  to : ∃ a b, IsPair h TO a b
  i1 : SqIt b1 h i1 l1 k
  i2 : SqIt b2 h i2 l2 k
theorem zafp {b1 b2 : Bool} {z TI TO i1 i2 l1 l2 : Addr} {k : Nat} {xs ys : Array Value} {x y : Value} {Q : Value → Shared → Prop} (D : ZipApart z TI TO i1 i2 l1 l2)
    (hz : ZipAt b1 b2 s.heap z TI TO i1 i2 l1 l2 .none k) (hl1 : zfw b1 s.heap l1 xs) (hl2 : zfw b2 s.heap l2 ys) (hx : xs[k]? = some x) (hy : ys[k]? = some y)
    (hQ : ∀ h', ZipAt b1 b2 h' z TI TO i1 i2 l1 l2 (rawInt s.heap.objs.size) (k + 1) → IsPair h' s.heap.objs.size x y →
      (∀ c o, c ≠ z → c ≠ TO → c ≠ i1 → c ≠ i2 → s.heap.get? c = some o → h'.get? c = some o) → Q (.ref s.heap.objs.size) { s with heap := h' }) :
    wpAny (model prog w) A (Builtin.«zip.__next__» ⟨[.ref z], []⟩) (fun fin s' => ∃ v, fin = .done (.ret v) ∧ Q v s') E s := by
  obtain ⟨p1, p2, ⟨a, b, p3⟩, p4, p5⟩ := hz
  exact zadb D p1 p2 p3 p4 p5 hl1 hl2 hx hy fun h' q1 q2 q3 q4 q5 _ q7 => hQ h' ⟨q1, q7 _ _ D.TIz D.TITO D.TIi1 D.TIi2 p2, ⟨x, y, q2⟩, q3, q4⟩ q5 q7
theorem zajc {b1 b2 : Bool} {z TI TO i1 i2 l1 l2 : Addr} {k : Nat} {xs ys : Array Value} {Q : Fin → Shared → Prop} (hh : A.handled = none) (D : ZipApart z TI TO i1 i2 l1 l2)
    (hz : ZipAt b1 b2 s.heap z TI TO i1 i2 l1 l2 .none k) (hl1 : zfw b1 s.heap l1 xs) (hl2 : zfw b2 s.heap l2 ys) (hend : xs[k]? = none ∨ ys[k]? = none)
    (hE : ∀ h' e, (∀ c o, c ≠ z → c ≠ TO → c ≠ i1 → c ≠ i2 → s.heap.get? c = some o → h'.get? c = some o) → (∃ o, h'.get? e = some o ∧ o.cls = .type "StopIteration") → E (.ref e) { s with heap := h' }) :
    wpAny (model prog w) A (Builtin.«zip.__next__» ⟨[.ref z], []⟩) Q E s := by
  obtain ⟨p1, p2, ⟨a, b, p3⟩, p4, p5⟩ := hz
  exact zafo hh D p1 p2 p3 p4 p5 hl1 hl2 hend hE
end
end PySem
namespace L2
open PySem PySem.Spec PyProof.Rows
noncomputable def SqX (b : Bool) (K : PySem.W.Frag) (H : Hp) (a : Addr) (xs : List V) : Prop := match b with
  | true => SqL K H a xs
  | false => SqT K H a xs
section
variable {X : Cx} {pins : List (Addr × Obj)} {σ : St} {H : Hp} {s : Shared}
theorem Inv.sq {b : Bool} {a : Addr} {xs : List V} (I : Inv X pins σ H s) (h : SqX b X.K H a xs) : ∃ its : List Value, Vals xs its ∧ zfw b s.heap a its.toArray ∧ xs.length ≤ sizeLine := by
  cases b with
  | true => obtain ⟨its, r, p, z⟩ := I.list h; exact ⟨its, r, p.isList, z⟩
  | false => obtain ⟨its, r, p, z⟩ := I.tuple h; exact ⟨its, r, (show s.heap.IsTuple a its.toArray from p), z⟩
theorem Inv.sq_inj {b : Bool} {a : Addr} {xs ys : List V} (I : Inv X pins σ H s) (h : SqX b X.K H a xs) (h' : SqX b X.K H a ys) : xs = ys := by
  cases b with
  | true => exact I.list_inj h h'
  | false => exact I.tuple_inj h h'
end
noncomputable def Itz (K : PySem.W.Frag) (b1 : Bool) (a1 : Addr) (b2 : Bool) (a2 : Addr) : It :=
  ⟨fun i H => ∃ xs ys x y, SqX b1 K H a1 xs ∧ SqX b2 K H a2 ys ∧ xs[i]? = some x ∧ ys[i]? = some y,
   fun i H v H' => ∃ p x y, v = .ref p ∧ H p = none ∧ H' = upd H p (.tup [x, y]) ∧ (∀ xs, SqX b1 K H a1 xs → xs[i]? = some x) ∧ ∀ ys, SqX b2 K H a2 ys → ys[i]? = some y,
   fun i H => ∃ xs ys, SqX b1 K H a1 xs ∧ SqX b2 K H a2 ys ∧ (xs.length ≤ i ∨ ys.length ≤ i)⟩
theorem zajd {P : Program} {w : World} {K : PySem.W.Frag} {elts : List Expr} {x1} {tpos : Pos} {b1 b2 : Bool} {z TI TO i1 i2 l1 l2 : Addr} (D : ZipApart z TI TO i1 i2 l1 l2) :
    Turn P w K (.Tuple elts x1 tpos) (Itz K b1 l1 b2 l2) [z, TI, TO, i1, i2] z (fun i h => ZipAt b1 b2 h z TI TO i1 i2 l1 l2 .none i) where
  mem := by simp
  obj := fun i h st b hb => by
    obtain ⟨a, c, hto⟩ := st.to
    simp only [List.mem_cons, List.not_mem_nil, or_false] at hb
    rcases hb with rfl | rfl | rfl | rfl | rfl
    · exact ⟨_, st.z, fun v q => by simp at q⟩
    · exact ⟨_, st.ti, fun v q => by simp at q⟩
    · exact ⟨_, hto, fun v q => by simp at q⟩
    · exact st.i1.obj
    · exact st.i2.obj
  keep := fun i h h' st k => by
    obtain ⟨a, c, hto⟩ := st.to
    exact ⟨k z (by simp) _ st.z, k TI (by simp) _ st.ti, ⟨a, c, k TO (by simp) _ hto⟩, st.i1.moved fun o q => k i1 (by simp) o q, st.i2.moved fun o q => k i2 (by simp) o q⟩
  item := by
    intro X hP hw hK hc i pins s σ H E I hf st hg
    subst hP hw hK
    obtain ⟨xs, ys, x, y, q1, q2, hx, hy⟩ := hg
    obtain ⟨its1, rv1, p1, _⟩ := I.sq q1
    obtain ⟨its2, rv2, p2, _⟩ := I.sq q2
    obtain ⟨u1, hu1, ru1⟩ := rv1.get hx
    obtain ⟨u2, hu2, ru2⟩ := rv2.get hy
    have hT : s.TypeIs (.ref z) "zip" := ⟨_, st.z, rfl⟩
    unfold pyNext
    refine wpAny_bind (wpAny_attempt (wpAny_callSpecial?_slot (name := Str.ofString "__next__") hT F.slot_zip_next (wpAny_call_entry F.slot_zip_next hT F.entry_zip_next
      (zafp D st p1 p2 (x := u1) (y := u2) (by simpa using hu1) (by simpa using hu2) fun h1 zt tp kp => wpAny_pure ?_) (F.args_zip_next_1 _))))
    refine ⟨_, rfl, wpAny_letOwnedTupleGo_zip (s := { s with heap := h1 }) zt.z fun h2 z2 sb2 => ?_⟩
    have hp : H s.heap.objs.size = none := I.hok.fresh (Nat.le_refl _)
    have fz := hf z (by simp)
    have fO := hf TO (by simp)
    have f1 := hf i1 (by simp)
    have f2 := hf i2 (by simp)
    have lt : ∀ b ∈ [z, TI, TO, i1, i2], b ≠ s.heap.objs.size := fun b hb => by
      obtain ⟨a, c, hto⟩ := st.to
      simp only [List.mem_cons, List.not_mem_nil, or_false] at hb
      rcases hb with rfl | rfl | rfl | rfl | rfl
      · exact Nat.ne_of_lt (Heap.lt_size st.z)
      · exact Nat.ne_of_lt (Heap.lt_size st.ti)
      · exact Nat.ne_of_lt (Heap.lt_size hto)
      · obtain ⟨o, q, _⟩ := st.i1.obj; exact Nat.ne_of_lt (Heap.lt_size q)
      · obtain ⟨o, q, _⟩ := st.i2.obj; exact Nat.ne_of_lt (Heap.lt_size q)
    have k2 : ∀ b o, b ≠ z → b ≠ TO → b ≠ i1 → b ≠ i2 → s.heap.get? b = some o → h2.get? b = some o := fun b o e1 e2 e3 e4 q => (sb2.2 b e1).trans (kp b o e1 e2 e3 e4 q)
    have t2 : IsPair h2 s.heap.objs.size u1 u2 := (sb2.2 _ (Ne.symm (lt z (by simp)))).trans tp
    have nch : ∀ b, b ∉ [z, TO, i1, i2] → b ≠ z ∧ b ≠ TO ∧ b ≠ i1 ∧ b ≠ i2 := fun b hb => ⟨fun q => hb (by simp [q]), fun q => hb (by simp [q]), fun q => hb (by simp [q]), fun q => hb (by simp [q])⟩
    have k3 : ∀ b o, b ∉ [z, TO, i1, i2] → s.heap.get? b = some o → h2.get? b = some o := fun b o hb q => let ⟨e1, e2, e3, e4⟩ := nch b hb; k2 b o e1 e2 e3 e4 q
    have nH : ∀ c v, H c = some v → c ∉ [z, TO, i1, i2] := fun c v q hc => by
      have : H c = none := by
        simp only [List.mem_cons, List.not_mem_nil, or_false] at hc
        rcases hc with rfl | rfl | rfl | rfl
        · exact fz.1
        · exact fO.1
        · exact f1.1
        · exact f2.1
      rw [this] at q; cases q
    refine ⟨.ref s.heap.objs.size, upd H s.heap.objs.size (.tup [x, y]), ?_, rfl, ⟨_, x, y, rfl, hp, rfl, fun zs q => by rw [I.sq_inj q q1]; exact hx, fun zs q => by rw [I.sq_inj q q2]; exact hy⟩, ?_, fun b hb => by rw [zbc (lt b hb)]; exact (hf b hb).1⟩
    · refine Inv.step (s := s) (h' := h2) (g' := s.gens) (d' := s.drawn) (t' := s.toks) (ch := [z, TO, i1, i2]) I (fun b hb => ?_) (fun b o _ _ hc q _ => k3 b o hc q) (fun b o _ _ hc q _ => ⟨o.slots, k3 b o hc q⟩)
        (fun b o _ q n => by rw [zbc (Nat.ne_of_lt (Heap.lt_size q))]; exact n) (fun b o hc q => ⟨o, k3 b o hc q⟩)
        (fun b xs q => by rw [zbc (zbp q hp)]; exact q) (fun b o v q => by rw [zbc (zbp q hp)]; exact q) (fun b ps q => ⟨#[], by rw [zbc (zbp q hp), q]; simp⟩) (fun m hm => ?_) (fun b v q => ?_) I.bare
      · have := hf b (by
          simp only [List.mem_cons, List.not_mem_nil, or_false] at hb ⊢
          rcases hb with rfl | rfl | rfl | rfl <;> simp)
        exact ⟨this.2.2.2.1, this.2.1, this.2.2.2.2.1, this.2.2.2.2.2⟩
      · obtain ⟨o, es, ep, ho, r⟩ := hm
        exact ⟨o, es, ep, k2 _ o (Ne.symm fz.2.1) (Ne.symm fO.2.1) (Ne.symm f1.2.1) (Ne.symm f2.2.1) ho, r⟩
      · by_cases hb : b = s.heap.objs.size
        · subst hb
          rw [zaw] at q
          cases q
          exact ⟨by show 2 ≤ sizeLine; decide, [u1, u2], .cons ru1 (.cons ru2 .nil), _, t2, rfl, _, rfl⟩
        · rw [zbc hb] at q
          refine (I.hok b v q).stay (fun c w' hc r => ?_) (fun c r => by rw [zbc (zbp r hp)]; exact r) fun c ys r => by rw [zbc (zbp r hp)]; exact r
          rcases hc with rfl | hc
          · exact k3 c w' (nH c v q) r
          · exact k3 c w' (nH c _ hc) r
    · obtain ⟨a, c, hto⟩ := zt.to
      exact ⟨z2, (sb2.2 _ D.TIz).trans zt.ti, ⟨a, c, (sb2.2 _ D.TOz).trans hto⟩, zt.i1.moved fun o q => (sb2.2 _ D.i1z).trans q, zt.i2.moved fun o q => (sb2.2 _ D.i2z).trans q⟩
  done := by
    intro X hP hw hK hc i pins s σ H E I hf st hg
    subst hP hw hK
    obtain ⟨xs, ys, q1, q2, hle⟩ := hg
    obtain ⟨its1, rv1, p1, _⟩ := I.sq q1
    obtain ⟨its2, rv2, p2, _⟩ := I.sq q2
    have l1' := rv1.length
    have l2' := rv2.length
    have hT : s.TypeIs (.ref z) "zip" := ⟨_, st.z, rfl⟩
    unfold pyNext
    refine wpAny_bind (wpAny_attempt (wpAny_callSpecial?_slot (name := Str.ofString "__next__") hT F.slot_zip_next (wpAny_call_entry F.slot_zip_next hT F.entry_zip_next
      (zajc (by exact I.ok.hd hc) D st p1 p2 (by rcases hle with q | q; exact .inl (by simp; omega); exact .inr (by simp; omega)) fun h' e kp he => ?_) (F.args_zip_next_1 _))))
    obtain ⟨o, ho, hcl⟩ := he
    refine wpAny_bind (wpAny_isInstance (T := "StopIteration") (b := true) ⟨o, ho, hcl⟩ isSubtype_stop (wpAny_pure ⟨rfl, ?_⟩))
    have fz := hf z (by simp)
    have fO := hf TO (by simp)
    have f1 := hf i1 (by simp)
    have f2 := hf i2 (by simp)
    have nch : ∀ b, b ∉ [z, TO, i1, i2] → b ≠ z ∧ b ≠ TO ∧ b ≠ i1 ∧ b ≠ i2 := fun b hb => ⟨fun q => hb (by simp [q]), fun q => hb (by simp [q]), fun q => hb (by simp [q]), fun q => hb (by simp [q])⟩
    have k3 : ∀ b o, b ∉ [z, TO, i1, i2] → s.heap.get? b = some o → h'.get? b = some o := fun b o hb q => let ⟨e1, e2, e3, e4⟩ := nch b hb; kp b o e1 e2 e3 e4 q
    have nH : ∀ c v, H c = some v → c ∉ [z, TO, i1, i2] := fun c v q hc => by
      have : H c = none := by
        simp only [List.mem_cons, List.not_mem_nil, or_false] at hc
        rcases hc with rfl | rfl | rfl | rfl
        · exact fz.1
        · exact fO.1
        · exact f1.1
        · exact f2.1
      rw [this] at q; cases q
    refine Inv.step (s := s) (h' := h') (g' := s.gens) (d' := s.drawn) (t' := s.toks) (ch := [z, TO, i1, i2]) I (fun b hb => ?_) (fun b o _ _ hc q _ => k3 b o hc q) (fun b o _ _ hc q _ => ⟨o.slots, k3 b o hc q⟩)
        (fun b o _ q n => n) (fun b o hc q => ⟨o, k3 b o hc q⟩) (fun b xs q => q) (fun b o v q => q) (fun b ps q => ⟨#[], by rw [q]; simp⟩) (fun m hm => ?_) (fun b v q => ?_) I.bare
    · have := hf b (by
          simp only [List.mem_cons, List.not_mem_nil, or_false] at hb ⊢
          rcases hb with rfl | rfl | rfl | rfl <;> simp)
      exact ⟨this.2.2.2.1, this.2.1, this.2.2.2.2.1, this.2.2.2.2.2⟩
    · obtain ⟨o, es, ep, ho, r⟩ := hm
      exact ⟨o, es, ep, kp _ o (Ne.symm fz.2.1) (Ne.symm fO.2.1) (Ne.symm f1.2.1) (Ne.symm f2.2.1) ho, r⟩
    · refine (I.hok b v q).stay (fun c w' hc r => ?_) (fun c r => r) fun c ys r => r
      rcases hc with rfl | hc
      · exact k3 c w' (nH c v q) r
      · exact k3 c w' (nH c _ hc) r
  self := fun _ _ _ _ _ st h => wpAny_pyIter_zip st.z h
end L2
namespace PySem
open Sem (wp)
noncomputable def itO (b : Bool) (l : Addr) : Obj := match b with
  | true => { cls := .type "list_iterator", data := .fields #[.ref l, .int 0 0] }
  | false => { cls := .type "tuple_iterator", data := .fields #[.ref l, .int 0 0] }
noncomputable def zx1 (b1 : Bool) (h : Heap) (l1 : Addr) : Heap := h.push (itO b1 l1)
noncomputable def zx2 (b1 b2 : Bool) (h : Heap) (l1 l2 : Addr) : Heap := (zx1 b1 h l1).push (itO b2 l2)
noncomputable def zx3 (b1 b2 : Bool) (h : Heap) (l1 l2 : Addr) : Heap := (zx2 b1 b2 h l1 l2).push { cls := .type "tuple", data := .seq #[.ref h.objs.size, .ref (zx1 b1 h l1).objs.size] }
noncomputable def zx4 (b1 b2 : Bool) (h : Heap) (l1 l2 : Addr) : Heap := (zx3 b1 b2 h l1 l2).push { cls := .type "tuple", data := .seq #[.none, .none] }
noncomputable def zx5 (b1 b2 : Bool) (h : Heap) (l1 l2 : Addr) : Heap := (zx4 b1 b2 h l1 l2).push { cls := .type "zip", data := .fields #[.none, .bool false, .bool false, .ref (zx2 b1 b2 h l1 l2).objs.size, .ref (zx3 b1 b2 h l1 l2).objs.size] }
theorem zadc (b1 b2 : Bool) (l1 l2 : Addr) (xs ys : Array Value) :
    Meets (Builtin.«zip.__new__» ⟨[.type "zip", .ref l1, .ref l2], []⟩) (fun _ R s => zfw b1 s.heap l1 xs ∧ zfw b2 s.heap l2 ys ∧ R (.ok (.ret (.ref (zx4 b1 b2 s.heap l1 l2).objs.size))) { s with heap := zx5 b1 b2 s.heap l1 l2 }) :=
  .of_wp fun prog w A R s h => by
    obtain ⟨hp, g, d, tk, os⟩ := s; obtain ⟨h1, h2, h⟩ := h
    have hsub := sub_zip
    cases b1 with
    | true =>
      have e1 : Heap.IsList (Shared.heap ⟨hp, g, d, tk, os⟩) l1 xs := h1
      cases b2 with
      | true =>
        have e2 : Heap.IsList (Shared.heap ⟨hp.push { cls := .type "list_iterator", data := .fields #[.ref l1, .int 0 0] }, g, d, tk, os⟩) l2 ys := Heap.IsList.push h2 _
        wp_walk using wpAny_pyIter_list e1, wpAny_pyIter_list e2
        exact ⟨_, rfl, h⟩
      | false =>
        have e2 : Heap.IsTuple (Shared.heap ⟨hp.push { cls := .type "list_iterator", data := .fields #[.ref l1, .int 0 0] }, g, d, tk, os⟩) l2 ys := Heap.IsTuple.push h2 _
        wp_walk using wpAny_pyIter_list e1, wpAny_pyIter_tuple e2
        exact ⟨_, rfl, h⟩
    | false =>
      have e1 : Heap.IsTuple (Shared.heap ⟨hp, g, d, tk, os⟩) l1 xs := h1
      cases b2 with
      | true =>
        have e2 : Heap.IsList (Shared.heap ⟨hp.push { cls := .type "tuple_iterator", data := .fields #[.ref l1, .int 0 0] }, g, d, tk, os⟩) l2 ys := Heap.IsList.push h2 _
        wp_walk using wpAny_pyIter_tuple e1, wpAny_pyIter_list e2
        exact ⟨_, rfl, h⟩
      | false =>
        have e2 : Heap.IsTuple (Shared.heap ⟨hp.push { cls := .type "tuple_iterator", data := .fields #[.ref l1, .int 0 0] }, g, d, tk, os⟩) l2 ys := Heap.IsTuple.push h2 _
        wp_walk using wpAny_pyIter_tuple e1, wpAny_pyIter_tuple e2
        exact ⟨_, rfl, h⟩
theorem zva {b : Bool} {h : Heap} {a l : Addr} (e : h.get? a = some (itO b l)) : SqIt b h a l 0 := by
  cases b with
  | true => exact ⟨_, e, rfl, rfl⟩
  | false => exact ⟨_, e, rfl, rfl⟩
theorem zafq {prog : Program} {w : World} {A : Around} {E : Value → Shared → Prop} {s : Shared} {b1 b2 : Bool} {l1 l2 : Addr} {xs ys : Array Value} {Q : Value → Shared → Prop} (h1 : zfw b1 s.heap l1 xs) (h2 : zfw b2 s.heap l2 ys)
    (h : ∀ h', ZipAt b1 b2 h' (s.heap.objs.size + 4) (s.heap.objs.size + 2) (s.heap.objs.size + 3) s.heap.objs.size (s.heap.objs.size + 1) l1 l2 .none 0 → (∀ c o, s.heap.get? c = some o → h'.get? c = some o) → Q (.ref (s.heap.objs.size + 4)) { s with heap := h' }) :
    wpAny (model prog w) A (call (.type "zip") [.ref l1, .ref l2]) Q E s := by
  refine callType_new F.called_zip (by decide) (F.typeCall_zip_2 _ _) (F.newCall_zip_2 _ _) (fun obj => F.args_object_init_3 obj _ _) F.entry_zip_new (zadc b1 b2 l1 l2 xs ys) ⟨h1, h2, ?_⟩
  have z1 : (zx1 b1 s.heap l1).objs.size = s.heap.objs.size + 1 := Heap.size_push ..
  have z2 : (zx2 b1 b2 s.heap l1 l2).objs.size = s.heap.objs.size + 2 := by unfold zx2; rw [Heap.size_push, z1]
  have z3 : (zx3 b1 b2 s.heap l1 l2).objs.size = s.heap.objs.size + 3 := by unfold zx3; rw [Heap.size_push, z2]
  have z4 : (zx4 b1 b2 s.heap l1 l2).objs.size = s.heap.objs.size + 4 := by unfold zx4; rw [Heap.size_push, z3]
  have fr : ∀ o : Obj, (zx5 b1 b2 s.heap l1 l2).get? (zx4 b1 b2 s.heap l1 l2).objs.size = some { cls := .type "zip", dict := none, data := .fields #[.none, .bool false, .bool false, .ref (zx2 b1 b2 s.heap l1 l2).objs.size, .ref (zx3 b1 b2 s.heap l1 l2).objs.size], slots := #[] } := fun _ => Heap.get?_push_size _ rfl
  have g5 := fr { cls := .none, data := .seq #[] }
  have g4 : (zx5 b1 b2 s.heap l1 l2).get? (zx3 b1 b2 s.heap l1 l2).objs.size = some { cls := .type "tuple", data := .seq #[.none, .none] } := Heap.get?_push_of_some _ (Heap.get?_push_size _ rfl)
  have g3 : (zx5 b1 b2 s.heap l1 l2).get? (zx2 b1 b2 s.heap l1 l2).objs.size = some { cls := .type "tuple", data := .seq #[.ref s.heap.objs.size, .ref (zx1 b1 s.heap l1).objs.size] } := Heap.get?_push_of_some _ (Heap.get?_push_of_some _ (Heap.get?_push_size _ rfl))
  have g2 : (zx5 b1 b2 s.heap l1 l2).get? (zx1 b1 s.heap l1).objs.size = some (itO b2 l2) := Heap.get?_push_of_some _ (Heap.get?_push_of_some _ (Heap.get?_push_of_some _ (Heap.get?_push_size _ (by cases b2 <;> rfl))))
  have g1 : (zx5 b1 b2 s.heap l1 l2).get? s.heap.objs.size = some (itO b1 l1) := Heap.get?_push_of_some _ (Heap.get?_push_of_some _ (Heap.get?_push_of_some _ (Heap.get?_push_of_some _ (Heap.get?_push_size _ (by cases b1 <;> rfl)))))
  show _ ∧ _
  rw [z2, z3, z4] at g5
  rw [z1, z2] at g3
  rw [z3] at g4
  rw [z1] at g2
  rw [z4]
  exact ⟨⟨_, g5, rfl⟩, h _ ⟨g5, g3, ⟨_, _, g4⟩, zva g1, zva g2⟩ fun c o q => Heap.get?_push_of_some _ (Heap.get?_push_of_some _ (Heap.get?_push_of_some _ (Heap.get?_push_of_some _ (Heap.get?_push_of_some _ q))))⟩
end PySem
namespace L2
open PySem PySem.Spec PyProof.Rows
theorem zapv : bootBuiltins "zip" = some (.type "zip") := by decide +kernel
noncomputable def iZip (K : PySem.W.Frag) (ta : TA) : TI := fun σ H R => ta σ H fun vs H1 => ∃ b1 b2 a1 a2, vs = [.ref a1, .ref a2] ∧ (∃ xs, SqX b1 K H1 a1 xs) ∧ (∃ ys, SqX b2 K H1 a2 ys) ∧ R (Itz K b1 a1 b2 a2) H1
theorem zfw.there {b : Bool} {h : Heap} {l : Addr} {xs : Array Value} (x : zfw b h l xs) : l < h.objs.size := by
  cases b with
  | true => obtain ⟨o, q, _⟩ := x; exact Heap.lt_size q
  | false => obtain ⟨o, q, _⟩ := x; exact Heap.lt_size q
theorem zafr {n l1 l2 : Nat} (h1 : l1 < n) (h2 : l2 < n) : ZipApart (n + 4) (n + 2) (n + 3) n (n + 1) l1 l2 := by
  constructor <;> first | exact Nat.ne_of_lt (by omega) | exact Nat.ne_of_gt (by omega)
theorem zapw {X : Cx} {K : PySem.W.Frag} (hK : X.K = K) {a b : Expr} {ta : TA} {p pos : Pos} {elts : List Expr} {x1} {tpos : Pos} (hg : Gl X "zip") (hm : X.mg "zip" = none) (ha : PA X [a, b] ta) (hs : starEach [a, b] X.env = (false, eval a X.env) :: starEach [b] X.env := by rfl) (hs2 : (backTo pos (starEach [b] X.env)).any (·.1) = false := by rfl) :
    PI X (.Tuple elts x1 tpos) (.Call (.Name "zip" p) [a, b] [] pos) (iZip K ta) := by
  subst hK
  intro pins s σ H R I h
  refine Call_ (zsv I hg hm zapv (callWith_type1 (thn (ha pos pins s σ H _ I h) fun us s1 ⟨vs, H1, I1, r1, q1⟩ => ?_) hs hs2))
  obtain ⟨b1, b2, l1, l2, rfl, ⟨xs, e1⟩, ⟨ys, e2⟩, q⟩ := q1
  obtain ⟨u1, u2, rfl, ru1, ru2⟩ := zals r1
  cases ru1
  cases ru2
  obtain ⟨its1, rv1, p1, _⟩ := I1.sq e1
  obtain ⟨its2, rv2, p2, _⟩ := I1.sq e2
  have t1 := zfw.there p1
  have t2 := zfw.there p2
  refine zafq p1 p2 fun h' zt hk => wpAny_pyIter_zip zt.z ?_
  have I2 : Inv X pins σ H1 { s1 with heap := h' } := I1.kept (t' := s1.toks) hk
  have D := zafr t1 t2
  refine ⟨s1.heap.objs.size + 4, [s1.heap.objs.size + 4, s1.heap.objs.size + 2, s1.heap.objs.size + 3, s1.heap.objs.size, s1.heap.objs.size + 1], _, _, H1, rfl, I2, zajd D, zt, fun c hc => ?_, q⟩
  have hge : s1.heap.objs.size ≤ c := by
    simp only [List.mem_cons, List.not_mem_nil, or_false] at hc
    rcases hc with rfl | rfl | rfl | rfl | rfl
    · exact Nat.le_add_right _ _
    · exact Nat.le_add_right _ _
    · exact Nat.le_add_right _ _
    · exact Nat.le_refl _
    · exact Nat.le_add_right _ _
  exact I1.fpOk hge (I1.hok.fresh hge)
noncomputable def znv (f : AF) : IF' := fun env => (f env).bind fun rs => match rs with
  | [r, t] => (zgo r.d).bind fun ds => (zgo t.d).map fun es => (List.zipWith (fun d e => .tuple [d, e]) ds es, r.bs ++ t.bs)
  | _ => none
theorem zafs {K : PySem.W.Frag} {A : Addr → Prop} {H : Hp} {d : PyData} {ds : List PyData} {v : V} (h : Rp (Offs A H) d v) (e : zgo d = some ds) : ∃ (b : Bool) (a : Addr) (xs : List V), v = .ref a ∧ Rps (Offs A H) ds xs ∧ ∀ (B : Addr → Prop) (H' : Hp), Same (Offs A H) (Offs B H') → SqX b K H' a xs := by
  cases d with
  | list es =>
    cases e
    obtain ⟨a, xs, rfl, ha, r⟩ := zey h
    exact ⟨true, a, xs, rfl, r, fun B H' s => SqL.of (zds (s _ _ ha))⟩
  | tuple es =>
    cases e
    obtain ⟨a, xs, rfl, ha, r⟩ := zdv h
    exact ⟨false, a, xs, rfl, r, fun B H' s => SqT.of (zds (s _ _ ha))⟩
  | _ => cases e
theorem zaje {ds es : List PyData} {i : Nat} {d : PyData} (h : (List.zipWith (fun d e => PyData.tuple [d, e]) ds es)[i]? = some d) : ∃ a b, ds[i]? = some a ∧ es[i]? = some b ∧ d = .tuple [a, b] := by
  rw [List.getElem?_zipWith] at h
  cases e1 : ds[i]? with
  | none => rw [e1] at h; cases h
  | some a =>
    cases e2 : es[i]? with
    | none => rw [e1, e2] at h; cases h
    | some b => rw [e1, e2] at h; cases h; exact ⟨a, b, rfl, rfl, rfl⟩
theorem zxc {K : PySem.W.Frag} {ta : TA} {f : AF} (h1 : SA ta f) : SI (iZip K ta) (znv f) := by
  intro fx H0 env σ H h ds bs e R q
  unfold znv at e
  obtain ⟨rs, er, e⟩ := Option.bind_eq_some_iff.mp e
  split at e
  · rename_i r t
    obtain ⟨d1, ed1, e⟩ := Option.bind_eq_some_iff.mp e
    obtain ⟨d2, ed2, e⟩ := Option.map_eq_some_iff.mp e
    cases e
    refine h1 fx H0 env σ H h _ er _ fun vs H1 s hv => ?_
    cases hv with
    | cons hv1 hv' =>
      cases hv' with
      | cons hv2 hv'' =>
        cases hv''
        have sub1 : ∀ b, (fx b ∨ own (frzs env (r.bs ++ t.bs)) σ b) → lim fx env σ r.bs b := fun b z => zlv (fun i hi => List.mem_append_left _ hi) b (zej b z)
        have sub2 : ∀ b, (fx b ∨ own (frzs env (r.bs ++ t.bs)) σ b) → lim fx env σ t.bs b := fun b z => zlv (fun i hi => List.mem_append_right _ hi) b (zej b z)
        obtain ⟨b1, a1, xs, rfl, r1, e1⟩ := zafs (K := K) (Rp.same (Offs.sub sub1) _ hv1.rp) ed1
        obtain ⟨b2, a2, ys, rfl, r2, e2⟩ := zafs (K := K) (Rp.same (Offs.sub sub2) _ hv2.rp) ed2
        refine ⟨b1, b2, a1, a2, rfl, ⟨xs, e1 _ H1 (Same.refl _)⟩, ⟨ys, e2 _ H1 (Same.refl _)⟩, q _ H1 s ?_⟩
        intro A H' hA ss
        have q1 := e1 A H' ss
        have q2 := e2 A H' ss
        have r1' := Rps.same ss _ r1
        have r2' := Rps.same ss _ r2
        refine ⟨fun i d e => ?_, ⟨xs, ys, q1, q2, ?_⟩⟩
        · obtain ⟨c1, c2, ec1, ec2, rfl⟩ := zaje e
          obtain ⟨v1, g1, rv1⟩ := r1'.get2 ec1
          obtain ⟨v2, g2, rv2⟩ := r2'.get2 ec2
          refine ⟨⟨xs, ys, v1, v2, q1, q2, g1, g2⟩, fun x H'' y => ?_⟩
          obtain ⟨p, x', y', rfl, hp, rfl, y1, y2⟩ := y
          have z1 := y1 xs q1
          rw [g1] at z1
          cases z1
          have z2 := y2 ys q2
          rw [g2] at z2
          cases z2
          exact ⟨Same.new hp, zno hp (zfa hA hp) (zdw rv1 (zdw rv2 zde))⟩
        · rw [List.length_zipWith, r1.length, r2.length]
          rcases Nat.le_total xs.length ys.length with z | z
          · exact .inl (by rw [Nat.min_eq_left z]; exact Nat.le_refl _)
          · exact .inr (by rw [Nat.min_eq_right z]; exact Nat.le_refl _)
  · cases e
end L2
namespace L2
open PySem PySem.Spec PyProof.Rows
noncomputable def rInS (K : PySem.W.Frag) (neg : Bool) : R2 := fun x y H Q => ∃ d c ds, Rep K H d x ∧ Rep K H c y ∧ zgo c = some ds ∧ SeqAt.shaped d = true ∧ SeqAt.shaped c = true ∧ Q (.bl (if neg then !(ds.any fun e => PyData.eqv e d) else ds.any fun e => PyData.eqv e d)) H
section
variable {X : Cx}
theorem shp {d : PyData} (h : SeqAt.shaped d = true) : d.canLay0 = true ∧ d.depth ≤ 64 := by
  unfold SeqAt.shaped at h
  rw [Bool.and_eq_true] at h
  exact ⟨h.1, of_decide_eq_true h.2⟩
theorem zasj {K : PySem.W.Frag} (hK : X.K = K) (hu : X.A.units + 64 < cLine) : OpR X (compareOp .In) (rInS K false) := by
  subst hK
  intro pins s σ H x y v u Q I rx ry h
  obtain ⟨d, c, ds, hd, hc, hi, sd, sc, q⟩ := h
  obtain ⟨as, r1⟩ := zfm I d hd rx
  obtain ⟨bs, r2⟩ := zfm I c hc ry
  obtain ⟨l1, p1⟩ := shp sd
  obtain ⟨l2, p2⟩ := shp sc
  have q : EP X pins σ Q (.bool (ds.any fun e => PyData.eqv e d)) s := ⟨.bl (ds.any fun e => PyData.eqv e d), H, I, rfl, q⟩
  cases c with
  | list es =>
    cases hi
    have p2 : PyData.depthAll ds + 1 ≤ 64 := p2
    exact SeqAt.in_list_reads r2 r1 l2 l1 (by have := Nat.min_le_left (PyData.depthAll ds) d.depth; omega) q
  | tuple es =>
    cases hi
    have p2 : PyData.depthAll ds + 1 ≤ 64 := p2
    exact SeqAt.in_tuple_reads r2 r1 l2 l1 (by have := Nat.min_le_left (PyData.depthAll ds) d.depth; omega) q
  | _ => cases hi
theorem zaft {K : PySem.W.Frag} (hK : X.K = K) (hu : X.A.units + 64 < cLine) : OpR X (compareOp .NotIn) (rInS K true) := by
  subst hK
  intro pins s σ H x y v u Q I rx ry h
  obtain ⟨d, c, ds, hd, hc, hi, sd, sc, q⟩ := h
  obtain ⟨as, r1⟩ := zfm I d hd rx
  obtain ⟨bs, r2⟩ := zfm I c hc ry
  obtain ⟨l1, p1⟩ := shp sd
  obtain ⟨l2, p2⟩ := shp sc
  have q : EP X pins σ Q (.bool (!(ds.any fun e => PyData.eqv e d))) s := ⟨.bl (!(ds.any fun e => PyData.eqv e d)), H, I, rfl, q⟩
  cases c with
  | list es =>
    cases hi
    have p2 : PyData.depthAll ds + 1 ≤ 64 := p2
    exact SeqAt.notIn_list_reads r2 r1 l2 l1 (by have := Nat.min_le_left (PyData.depthAll ds) d.depth; omega) q
  | tuple es =>
    cases hi
    have p2 : PyData.depthAll ds + 1 ≤ 64 := p2
    exact SeqAt.notIn_tuple_reads r2 r1 l2 l1 (by have := Nat.min_le_left (PyData.depthAll ds) d.depth; omega) q
  | _ => cases hi
end
noncomputable def inS (neg : Bool) : OF := fun d c => match zgo c with
  | some ds => if SeqAt.shaped d = true ∧ SeqAt.shaped c = true then some (.bool (if neg then !(ds.any fun e => PyData.eqv e d) else ds.any fun e => PyData.eqv e d), false) else none
  | none => none
theorem zapx {K : PySem.W.Frag} {neg : Bool} : SO (rInS K neg) (inS neg) := by
  intro A H x y dx dy hA rx ry d fr e Q q
  unfold inS at e
  split at e
  · rename_i ds hi
    split at e
    · rename_i h
      cases e
      refine ⟨dx, dy, ds, zqj (SeqAt.canLay_of_shaped h.1) (Rp.same (Offs.same A H) _ rx), zqj (SeqAt.canLay_of_shaped h.2) (Rp.same (Offs.same A H) _ ry), hi, h.1, h.2, q _ H (Same.refl _) ?_ (fun z => by cases z)⟩
      cases neg <;> exact zbu
    · cases e
  · cases e
end L2
namespace PySem
open Sem (wp)
open AutoSeq1 (wpAny_loadPart')
theorem zajf {prog : Program} {w : World} {A : Around} (hh : A.handled = none) (b : Bool) (it l : Addr) (hne : l ≠ it) (items : Array Value) :
    Draws prog w A it [it, l] items.size (fun i v => items[i]? = some v) (fun i h => SqIt b h it l i ∧ zfw b h l items) where
  live := fun _ _ st => let ⟨o, ho, _⟩ := st.1.obj; ⟨o, ho⟩
  frame := fun _ _ _ st hk => ⟨st.1.moved fun o e => hk it (by simp) o e, st.2.moved fun o e => hk l (by simp) o e⟩
  item := fun i s Q E hi st hQ => by
    refine zuz st.1 st.2 (x := items[i]) (by simp [hi]) fun h' hit' hs' => ?_
    exact hQ _ h' s.toks (by simp [hi]) ⟨hit', st.2.moved fun o e => hs'.extBut _ o hne e⟩ hs'
  done := fun s Q E st hE => zabs hh st.1 st.2 (by simp) hE
theorem zpi (l : Addr) (items : Array Value) (n : Nat) (dct : Option Addr) (sl : Array (Option Value)) :
    Meets (Builtin.«enumerate.__new__» ⟨[.type "enumerate", .ref l], []⟩) (fun _ R s => s.heap.get? l = some { cls := .type "tuple", dict := dct, data := .seq items n, slots := sl } ∧
      R (.ok (.ret (.ref (s.heap.push (itO false l)).objs.size))) { s with heap := (s.heap.push (itO false l)).push { cls := .type "enumerate", data := .fields #[.none, .bool false, .ref s.heap.objs.size, rawInt 0, .none, .none] } }) :=
  .of_wp fun prog w A R s h => by
    obtain ⟨hp, g, d, tk, os⟩ := s; obtain ⟨hl, h⟩ := h
    have hsub := sub_enumerate
    have e1 : Heap.IsTuple (Shared.heap ⟨hp, g, d, tk, os⟩) l items := ⟨_, hl, rfl, n, rfl⟩
    wp_walk using wpAny_loadPart' hl
    refine wpAny_stack_any fun st => wpAny_pure ?_
    split
    · rename_i c _ _ _ _ _
      cases (c == Value.type "enumerate")
      · wp_walk using wpAny_loadPart' hl, wpAny_pyIter_tuple e1
        exact ⟨_, rfl, h⟩
      · wp_walk using wpAny_loadPart' hl, wpAny_pyIter_tuple e1
        exact ⟨_, rfl, h⟩
    · wp_walk using wpAny_loadPart' hl, wpAny_pyIter_tuple e1
      exact ⟨_, rfl, h⟩
theorem zxd {prog : Program} {w : World} {A : Around} {E : Value → Shared → Prop} {s : Shared} {b : Bool} {l : Addr} {items : Array Value} {Q : Value → Shared → Prop} (hL : zfw b s.heap l items)
    (h : ∀ h', IsEnum h' (s.heap.objs.size + 1) s.heap.objs.size 0 .none → SqIt b h' s.heap.objs.size l 0 → (∀ c o, s.heap.get? c = some o → h'.get? c = some o) → Q (.ref (s.heap.objs.size + 1)) { s with heap := h' }) :
    wpAny (model prog w) A (call (.type "enumerate") [.ref l]) Q E s := by
  cases b with
  | true => exact call_enumerate_list hL fun h' e i _ k => h h' e i k
  | false =>
    obtain ⟨⟨c, dct, dt, sl⟩, hl, hc, n, hd⟩ := hL
    replace hc : c = .type "tuple" := hc
    replace hd : dt = .seq items n := hd
    subst hc hd
    refine callType_new F.called_enumerate (by decide) (F.typeCall_enumerate_1 _) (F.newCall_enumerate_1 _) (fun obj => F.args_object_init_2 obj _) F.entry_enumerate_new (zpi l items n dct sl) ⟨hl, ?_⟩
    have hz : (s.heap.push (itO false l)).objs.size = s.heap.objs.size + 1 := Heap.size_push ..
    have he := Heap.get?_push_size (s.heap.push (itO false l)) (o := { cls := .type "enumerate", data := .fields #[.none, .bool false, .ref s.heap.objs.size, rawInt 0, .none, .none] }) rfl
    show _ ∧ _
    rw [hz] at he ⊢
    exact ⟨⟨_, he, rfl⟩, h _ he (zva (b := false) (Heap.get?_push_of_some _ (Heap.get?_push_size _ rfl))) fun c o x => Heap.get?_push_of_some _ (Heap.get?_push_of_some _ x)⟩
end PySem
namespace L2
open PySem PySem.Spec PyProof.Rows
noncomputable def Itx (K : PySem.W.Frag) (b : Bool) (a : Addr) : It :=
  ⟨fun i H => ∃ xs x, SqX b K H a xs ∧ xs[i]? = some x, fun i H x H' => ∃ p y, x = .ref p ∧ H p = none ∧ H' = upd H p (.tup [.int i, y]) ∧ ∀ xs, SqX b K H a xs → xs[i]? = some y, fun i H => ∃ xs, SqX b K H a xs ∧ xs.length ≤ i⟩
theorem zadd {P : Program} {w : World} {K : PySem.W.Frag} {elts : List Expr} {x1} {tpos : Pos} {b : Bool} (a e it : Addr) (hne : e ≠ it) (hea : e ≠ a) (hai : a ≠ it) :
    Turn P w K (.Tuple elts x1 tpos) (Itx K b a) [e, it] e (fun i h => SqIt b h it a i ∧ ∃ old, IsEnum h e it (i : Int) old) where
  mem := by simp
  obj := fun i h st c hc => by
    obtain ⟨h1, old, h4⟩ := st
    rcases List.mem_cons.mp hc with rfl | hc
    · exact ⟨_, h4, fun v z => by simp at z⟩
    · have q : c = it := by simpa using hc
      subst q
      exact h1.obj
  keep := fun i h h' st k => ⟨st.1.moved fun o q => k it (by simp) o q, let ⟨old, q⟩ := st.2; ⟨old, k e (by simp) _ q⟩⟩
  item := by
    intro X hP hw hK hc i pins s σ H E I hf st hg
    subst hP hw hK
    obtain ⟨xs, x, hq, hx⟩ := hg
    obtain ⟨its, rv, p, hz⟩ := I.sq hq
    obtain ⟨u, hu, ru⟩ := rv.get hx
    obtain ⟨hit, old, he⟩ := st
    have fe := hf e (by simp)
    have fi := hf it (by simp)
    have hlt : i < its.toArray.size := by
      obtain ⟨hh, _⟩ := List.getElem?_eq_some_iff.mp hu
      simpa using hh
    refine wpAny_pyNext_enum_itemD (zajf (by exact I.ok.hd hc) b it a hai its.toArray) he ⟨hit, p⟩ hlt hne (by simp [hne, hea]) fun u' h1 tk pu e1 i1 t1 z1 k1 => ?_
    have hu' : u' = u := by
      have pu : its.toArray[i]? = some u' := pu
      rw [List.getElem?_toArray, hu] at pu
      exact (Option.some.inj pu).symm
    subst hu'
    refine ⟨_, rfl, wpAny_letOwnedTupleGo_enum (s := { s with heap := h1, toks := tk + 1 }) e1 fun h2 e2 sb2 => ?_⟩
    have hp : H s.heap.objs.size = none := I.hok.fresh (Nat.le_refl _)
    have hes : e ≠ s.heap.objs.size := Nat.ne_of_lt (Heap.lt_size he)
    have k2 : ∀ c o, c ≠ e → c ≠ it → s.heap.get? c = some o → h2.get? c = some o := fun c o q1 q2 q => (sb2.2 c q1).trans (k1 c o q1 q2 q)
    have t2 : h2.get? s.heap.objs.size = some { cls := .type "tuple", data := .seq #[.int i tk, u'] } := (sb2.2 _ (Ne.symm hes)).trans t1
    have nch : ∀ c, c ∉ [e, it] → c ≠ e ∧ c ≠ it := fun c hb => ⟨fun z => hb (by simp [z]), fun z => hb (by simp [z])⟩
    refine ⟨.ref s.heap.objs.size, upd H s.heap.objs.size (.tup [.int i, x]), ?_, rfl, ⟨_, x, rfl, hp, rfl, fun ys hy => by rw [I.sq_inj hy hq]; exact hx⟩, ⟨?_, u', e2⟩, fun c hb => ?_⟩
    · refine Inv.step (s := s) (h' := h2) (g' := s.gens) (d' := s.drawn) (t' := tk + 1) (ch := [e, it]) I (fun c hb => ?_) (fun c o _ _ hc q _ => k2 c o (nch c hc).1 (nch c hc).2 q) (fun c o _ _ hc q _ => ⟨o.slots, k2 c o (nch c hc).1 (nch c hc).2 q⟩)
        (fun c o _ q n => by rw [zbc (Nat.ne_of_lt (Heap.lt_size q))]; exact n) (fun c o hc q => ⟨o, k2 c o (nch c hc).1 (nch c hc).2 q⟩)
        (fun c xs q => by rw [zbc (zbp q hp)]; exact q) (fun c o v q => by rw [zbc (zbp q hp)]; exact q) (fun c ps q => ⟨#[], by rw [zbc (zbp q hp), q]; simp⟩) (fun m hm => ?_) (fun c v q => ?_) I.bare
      · rcases List.mem_cons.mp hb with rfl | hb
        · exact ⟨fe.2.2.2.1, fe.2.1, fe.2.2.2.2.1, fe.2.2.2.2.2⟩
        · have z : c = it := by simpa using hb
          subst z
          exact ⟨fi.2.2.2.1, fi.2.1, fi.2.2.2.2.1, fi.2.2.2.2.2⟩
      · obtain ⟨o, es, ep, ho, r⟩ := hm
        exact ⟨o, es, ep, k2 _ o (Ne.symm fe.2.1) (Ne.symm fi.2.1) ho, r⟩
      · by_cases hb : c = s.heap.objs.size
        · subst hb
          rw [zaw] at q
          cases q
          exact ⟨by show 2 ≤ sizeLine; decide, [.int i tk, u'], .cons ⟨_, rfl⟩ (.cons ru .nil), _, t2, rfl, _, rfl⟩
        · rw [zbc hb] at q
          have nt : ∀ c w', H c = some w' → c ≠ e ∧ c ≠ it := fun c w' z => ⟨(fun y => by rw [y, fe.1] at z; cases z), (fun y => by rw [y, fi.1] at z; cases z)⟩
          refine (I.hok c v q).stay (fun c w' hc r => ?_) (fun c r => by rw [zbc (zbp r hp)]; exact r) fun c ys r => by rw [zbc (zbp r hp)]; exact r
          rcases hc with rfl | hc
          · exact k2 c w' (nt c v q).1 (nt c v q).2 r
          · exact k2 c w' (nt c _ hc).1 (nt c _ hc).2 r
    · exact i1.1.moved fun o q => (sb2.2 _ (Ne.symm hne)).trans q
    · rcases List.mem_cons.mp hb with rfl | hb
      · rw [zbc hes]; exact fe.1
      · have z : c = it := by simpa using hb
        subst z
        obtain ⟨o, q1, _⟩ := hit.obj
        rw [zbc (Nat.ne_of_lt (Heap.lt_size q1))]
        exact fi.1
  done := by
    intro X hP hw hK hc i pins s σ H E I hf st hg
    subst hP hw hK
    obtain ⟨xs, hq, hx⟩ := hg
    obtain ⟨its, rv, p, hz⟩ := I.sq hq
    obtain ⟨hit, old, he⟩ := st
    obtain ⟨f0, f1, f2, f3, f4, f5⟩ := hf it (by simp)
    have hl := rv.length
    have hT : s.TypeIs (.ref e) "enumerate" := ⟨_, he, rfl⟩
    unfold pyNext
    refine wpAny_bind (wpAny_attempt (wpAny_callSpecial?_slot (name := Str.ofString "__next__") hT F.slot_enumerate_next (wpAny_call_entry F.slot_enumerate_next hT F.entry_enumerate_next ?_ (F.args_enumerate_next_1 _))))
    show wpAny _ _ (field (.ref e) 2 >>= _) _ _ _
    refine wpAny_bind (wpAny_field he rfl (x := .ref it) rfl ?_)
    refine wpAny_bind (zabs (by exact I.ok.hd hc) hit p (by simp; omega) fun h' x he' hx' => ?_)
    obtain ⟨o, ho, hcl⟩ := hx'
    refine wpAny_bind (wpAny_isInstance (T := "StopIteration") (b := true) ⟨o, ho, hcl⟩ isSubtype_stop (wpAny_pure ⟨rfl, ?_⟩))
    exact I.turned (t' := s.toks) (fun c o hb q => he' c o hb q) f0 f1 f3 f4 f5
  self := fun _ _ _ _ _ st h => let ⟨_, q⟩ := st.2; wpAny_pyIter_enum q h
noncomputable def iEnumX (K : PySem.W.Frag) (ta : TA) : TI := fun σ H R => ta σ H fun vs H1 => ∃ b a, vs = [.ref a] ∧ (∃ xs, SqX b K H1 a xs) ∧ R (Itx K b a) H1
theorem zajg {X : Cx} {K : PySem.W.Frag} (hK : X.K = K) {a : Expr} {ta : TA} {p pos : Pos} {elts : List Expr} {x1} {tpos : Pos} (hg : Gl X "enumerate") (hm : X.mg "enumerate" = none) (ha : PA X [a] ta) (hs : starEach [a] X.env = [(false, eval a X.env)] := by rfl) :
    PI X (.Tuple elts x1 tpos) (.Call (.Name "enumerate" p) [a] [] pos) (iEnumX K ta) := by
  subst hK
  intro pins s σ H R I h
  refine Call_ (zsv I hg hm boot_enumerate (PyProof.Rows.callWith_type1 (thn (ha pos pins s σ H _ I h) fun us s1 ⟨vs, H1, I1, r1, q1⟩ => ?_) hs rfl))
  obtain ⟨b, l, rfl, ⟨xs, hq⟩, q⟩ := q1
  obtain ⟨u, rfl, ru⟩ := zacv r1
  cases ru
  obtain ⟨its, rv, pl, hz⟩ := I1.sq hq
  have lt := zfw.there pl
  refine zxd pl fun h' he hit hk => wpAny_pyIter_enum he ?_
  have I2 : Inv X pins σ H1 { s1 with heap := h' } := I1.kept (t' := s1.toks) hk
  refine ⟨s1.heap.objs.size + 1, [s1.heap.objs.size + 1, s1.heap.objs.size], _, _, H1, rfl, I2, zadd l _ _ (Nat.succ_ne_self _) (Nat.ne_of_gt (Nat.lt_succ_of_lt lt)) (Nat.ne_of_lt lt), ⟨hit, _, he⟩, fun c hb => ?_, q⟩
  rcases List.mem_cons.mp hb with rfl | hb
  · exact I1.fpOk (Nat.le_succ _) (I1.hok.fresh (Nat.le_succ _))
  · have e : c = s1.heap.objs.size := by simpa using hb
    subst e
    exact I1.fpOk (Nat.le_refl _) (I1.hok.fresh (Nat.le_refl _))
end L2
namespace L2
open PySem PySem.Spec PyProof.Rows
noncomputable def Its (z : Str) : It := ⟨fun i _ => i < z.cps.size, fun i H v H' => H' = H ∧ ∃ c, z.cps[i]? = some c ∧ v = .str ⟨#[c]⟩, fun i _ => z.cps.size ≤ i⟩
theorem zajh {P : Program} {w : World} {K : PySem.W.Frag} {tg : Expr} (z : Str) (it : Addr) {ty : String} {t : Tok} (hty : ty = "str_ascii_iterator" ∨ ty = "str_iterator") : Turn P w K tg (Its z) [it] it (fun i h => h.IsStrIter it ty z t i) where
  mem := by simp
  obj := fun i h st b hb => by
    have e : b = it := by simpa using hb
    subst e
    obtain ⟨o, e, c, d⟩ := st
    exact ⟨o, e, fun v z => by rw [d] at z; cases z⟩
  keep := fun i h h' st k => let ⟨o, e, c, d⟩ := st; ⟨o, k it (by simp) o e, c, d⟩
  item := by
    intro X hP hw hK hc i pins s σ H E I hf st hg
    subst hP hw hK
    obtain ⟨f0, f1, f2, f3, f4, f5⟩ := hf it (by simp)
    have W : Walks X.prog X.w X.A it [it] [it] z.cps.size (SignAt z) (fun i h => h.IsStrIter it ty z t i) := by
      rcases hty with rfl | rfl
      · exact Walks.strAscii (I.ok.hd hc) it z t
      · exact Walks.strWide (I.ok.hd hc) it z t
    refine W.item i s _ _ hg st fun v h' tk hv st' kk => ?_
    obtain ⟨c, u, e, rfl⟩ := hv
    have I1 : Inv X pins σ H { s with heap := h', toks := tk } := I.turned (fun b o hb e => kk b o (by simpa using hb) e) f0 f1 f3 f4 f5
    obtain ⟨o, eo, co, dO⟩ := id st'
    refine ⟨_, rfl, zahu (s := { s with heap := h', toks := tk }) eo co dO (by rcases hty with rfl | rfl <;> decide) ⟨.str ⟨#[c]⟩, H, I1, ⟨u, rfl⟩, ⟨rfl, c, e, rfl⟩, st', fun b hb => (hf b hb).1⟩⟩
  done := by
    intro X hP hw hK hc i pins s σ H E I hf st hg
    subst hP hw hK
    obtain ⟨f0, f1, f2, f3, f4, f5⟩ := hf it (by simp)
    have hx : z.cps[i]? = none := by
      have : z.cps.size ≤ i := hg
      simp [this]
    rcases hty with rfl | rfl
    · exact wpAny_pyNext_ascii_end (I.ok.hd hc) st hx fun h' eb => ⟨rfl, I.turned (t' := s.toks) (fun b o hb e => eb b o hb e) f0 f1 f3 f4 f5⟩
    · exact wpAny_pyNext_wide_end (I.ok.hd hc) st hx fun h' eb => ⟨rfl, I.turned (t' := s.toks) (fun b o hb e => eb b o hb e) f0 f1 f3 f4 f5⟩
  self := fun _ _ _ _ _ st h => by
    rcases hty with rfl | rfl
    · exact wpAny_pyIter_striter_ascii st h
    · exact wpAny_pyIter_striter_wide st h
noncomputable def iStr (te : TE) : TI := fun σ H R => te σ H fun x H1 => ∃ z, x = .str z ∧ R (Its z) H1
theorem zapy {X : Cx} {tg l : Expr} {tl : TE} (hl : PE X l tl) : PI X tg l (iStr tl) := by
  intro pins s σ H R I h
  refine thn (hl pins s σ H _ I h) fun v s1 ⟨x, H1, I1, r1, q1⟩ => ?_
  obtain ⟨z, e, q⟩ := q1
  subst e
  obtain ⟨t, rfl⟩ := r1
  have fin : ∀ (ty : String) (o : Obj), (ty = "str_ascii_iterator" ∨ ty = "str_iterator") → (s1.heap.push o).IsStrIter s1.heap.objs.size ty z t 0 → PIE X pins σ tg R (.ref s1.heap.objs.size) { s1 with heap := s1.heap.push o } := by
    intro ty o hty st
    refine ⟨s1.heap.objs.size, [s1.heap.objs.size], _, _, H1, rfl, I1.kept (t' := s1.toks) fun b o e => Heap.get?_push_of_some _ e, zajh z _ hty, st, fun b hb => ?_, q⟩
    have e : b = s1.heap.objs.size := by simpa using hb
    subst e
    exact I1.fpOk (Nat.le_refl _) (I1.hok.fresh (Nat.le_refl _))
  cases ha : z.cps.all (· < 128)
  · exact wpAny_pyIter_wide ha (fin "str_iterator" _ (.inr rfl) ⟨_, Heap.get?_push_size _ rfl, rfl, rfl⟩)
  · exact wpAny_pyIter_ascii ha (fin "str_ascii_iterator" _ (.inl rfl) ⟨_, Heap.get?_push_size _ rfl, rfl, rfl⟩)
noncomputable def zxe (z : Str) : List PyData := z.cps.toList.map fun c => .str ⟨#[c]⟩
noncomputable def zqv (f : EF) : IF' := fun env => (f env).bind fun r => match r.d with
  | .str z => some (zxe z, [])
  | _ => none
theorem zapz {A0 : Addr → Prop} {H1 : Hp} {z : Str} : Yl A0 H1 (Its z) (zxe z) := by
  intro A H' hA s
  have hl : (zxe z).length = z.cps.size := by unfold zxe; simp
  refine ⟨fun i d e => ?_, by rw [hl]; exact Nat.le_refl _⟩
  unfold zxe at e
  rw [List.getElem?_map] at e
  by_cases hi : i < z.cps.size
  · refine ⟨hi, fun x H'' y => ?_⟩
    obtain ⟨rfl, c, ec, rfl⟩ := y
    have : z.cps.toList[i]? = some c := by simpa using ec
    rw [this] at e
    cases e
    exact ⟨Same.refl _, zbs⟩
  · rw [List.getElem?_eq_none (by simpa using hi)] at e
    cases e
theorem zaqa {te : TE} {f : EF} (h1 : SE te f) : SI (iStr te) (zqv f) := by
  intro fx H0 env σ H h ds bs e R q
  unfold zqv at e
  obtain ⟨⟨d, fr, bs'⟩, er, e⟩ := Option.bind_eq_some_iff.mp e
  split at e
  · rename_i z hz
    cases e
    refine h1 fx H0 env σ H h _ er _ fun v H1 s hv => ?_
    have rp := hv.rp
    have hz : d = .str z := hz
    rw [hz] at rp
    exact ⟨z, zlj rp, q _ H1 s zapz⟩
  · cases e
end L2
namespace L2
open PySem PySem.Spec PyProof.Rows
noncomputable def isStar : Expr → Bool
  | .Starred .. => true
  | _ => false
theorem zab {e : Expr} {es : List Expr} {env : Env} (h : isStar e = false) : starEach (e :: es) env = (false, eval e env) :: starEach es env := by
  cases e <;> first
    | rfl
    | cases h
theorem zaji {X : Cx} {e : Expr} {es : List Expr} {te : TE} {t : TA} (ha : PE X e te) (hr : PA X es t) (hs : isStar e = false := by rfl) : PA X (e :: es) (tCons te t) := zalu ha hr (zab hs)
end L2
namespace L2
open PySem PySem.Spec PyProof.Rows
end L2
namespace L2
open PySem PySem.Spec PyProof.Rows
end L2
namespace PySem.SeqAt
open AutoSeq1 (wpAny_loadPart')
open MeetsSeq PyProof.Rows
section
variable {A : Around} {s : Shared}
end
end PySem.SeqAt
namespace L2
open PySem PySem.Spec PyProof.Rows
section
variable {X : Cx}
end
end L2
namespace L2
open PySem PySem.Spec PyProof.Rows
structure Bx (p : Prop) : Prop where
  out : p
theorem Bx.pt {X : Cx} {e : Expr} {t : TT} (h : Bx (PW X e t)) : Bx (PT X e t) := ⟨h.out.pt⟩
theorem zal : ∀ {X : L2.Cx} {i : Int} {j : Nat} {pos : PySem.Pos}, L2.Bx (L2.PE X (PySem.Expr.Constant (PySem.Const.int i) j pos) (L2.tC (L2.V.int i))) := by
  intro X i j pos
  exact ⟨@zanz X i j pos⟩
theorem zac : ∀ {X : L2.Cx}, L2.Bx (L2.PA X [] L2.tNil) := by
  intro X
  exact ⟨@zaos X⟩
theorem zaa : ∀ {X : L2.Cx} {e : PySem.Expr} {es : List PySem.Expr} {te : L2.TE} {t : L2.TA}, L2.Bx (L2.PE X e te) → L2.Bx (L2.PA X es t) → L2.isStar e = Bool.false → L2.Bx (L2.PA X (e :: es) (L2.tCons te t)) := by
  intro X e es te t ha hr hs
  exact ⟨@zaji X e es te t ha.out hr.out hs⟩
theorem zbw : ∀ {X : L2.Cx} {a b : PySem.Expr} {ta tb : L2.TE} {pos : PySem.Pos} {op : PySem.Operator} {r : L2.R2}, L2.OpR X (PySem.binaryOp op) r → L2.Bx (L2.PE X a ta) → L2.Bx (L2.PE X b tb) → L2.Bx (L2.PE X (a.BinOp op b pos) (L2.tOp r ta tb)) := by
  intro X a b ta tb pos op r ho ha hb
  exact ⟨@zarj X a b ta tb pos op r ho ha.out hb.out⟩
theorem zam : ∀ {X : L2.Cx} {st : PySem.Stmt} {t : L2.TS}, L2.Bx (L2.PS X st t) → L2.Bx (L2.PSs X [st] t) := by
  intro X st t h1
  exact ⟨@zalm X st t h1.out⟩
theorem zah : ∀ {X : L2.Cx} {st : PySem.Stmt} {rest : List PySem.Stmt} {t u : L2.TS}, L2.Bx (L2.PS X st t) → L2.Bx (L2.PSs X rest u) → L2.Bx (L2.PSs X (st :: rest) (L2.tSeq t u)) := by
  intro X st rest t u h1 h2
  exact ⟨@zahq X st rest t u h1.out h2.out⟩
theorem zay : ∀ {X : L2.Cx} {x : PySem.Str} {p pos : PySem.Pos} {e : PySem.Expr} {es : List PySem.Expr} {t : L2.TA} {ps : List PySem.Str} {k : Nat} {sp : L2.Sp}, L2.Dn X.prog X.w X.K X.mg X.base x ps k sp → L2.Room k X.A → L2.Gl X x → L2.Bx (L2.PA X (e :: es) t) → (x == PySem.Str.ofString "__debug__") = Bool.false → PySem.starEach (e :: es) X.env = (Bool.false, PySem.eval e X.env) :: PySem.starEach es X.env → ((PySem.backTo pos (PySem.starEach es X.env)).any fun (x : Bool × PySem.Sem PySem.Value) => x.fst) = Bool.false → L2.Bx (L2.PE X ((PySem.Expr.Name x p).Call (e :: es) [] pos) (L2.tCall sp [] L2.E0 t)) := by
  intro X x p pos e es t ps k sp D hr hg ha hdb he hpl
  exact ⟨@zaru X x p pos e es t ps k sp D hr hg ha.out hdb he hpl⟩
theorem zaz : ∀ {X : L2.Cx} {e : PySem.Expr} {te : L2.TE} {pos : PySem.Pos}, L2.Bx (L2.PE X e te) → L2.Bx (L2.PS X (PySem.Stmt.Return (Option.some e) pos) (L2.tRet te)) := by
  intro X e te pos he
  exact ⟨@zaoi X e te pos he.out⟩
theorem zbb : ∀ {X : L2.Cx} {pos : PySem.Pos} {i : Nat} {x : PySem.Str} {e : PySem.Expr} {te : L2.TE} {pos' : PySem.Pos}, X.N.Nodup → X.N[i]? = Option.some x → L2.Loc X.env.scope x → L2.Bx (L2.PE X e te) → PySem.swapsWith e (Option.some (PySem.Expr.Name x pos')) pos.line X.env = Pure.pure Bool.false → X.fn x = Bool.true ∨ List.lookup x X.env.scope.names = Option.some PySem.NameKind.local → L2.Bx (L2.PS X (PySem.Stmt.Assign [PySem.Expr.Name x pos'] e pos) (L2.tAsg te (L2.gName i))) := by
  intro X pos i x e te pos' hN hi hx he hs hf
  exact ⟨@zaol X pos i x e te pos' hN hi hx he.out hs hf⟩
theorem zbe : ∀ {X : L2.Cx} {x : PySem.Str} {p pos : PySem.Pos} {e : PySem.Expr} {es : List PySem.Expr} {t : L2.TA} {id : String} {r : List L2.V → L2.Hp → L2.VK → Prop}, L2.CallR X (PySem.Value.builtin id) r → L2.Gl X x → X.mg x = Option.none → PySem.bootBuiltins x = Option.some (PySem.Value.builtin id) → L2.Bx (L2.PA X (e :: es) t) → x ≠ PySem.Str.ofString "__name__" → (x == PySem.Str.ofString "__debug__") = Bool.false → PySem.starEach (e :: es) X.env = (Bool.false, PySem.eval e X.env) :: PySem.starEach es X.env → ((PySem.backTo pos (PySem.starEach es X.env)).any fun (x : Bool × PySem.Sem PySem.Value) => x.fst) = Bool.false → L2.Bx (L2.PE X ((PySem.Expr.Name x p).Call (e :: es) [] pos) (L2.tCB r t)) := by
  intro X x p pos e es t id r hc hg hm hv ha hn hdb he hpl
  exact ⟨@zahy X x p pos e es t id r hc hg hm hv ha.out hn hdb he hpl⟩
theorem zabt : ∀ {X : L2.Cx} {b : Bool} {j : Nat} {pos : PySem.Pos}, L2.Bx (L2.PE X (PySem.Expr.Constant (PySem.Const.bool b) j pos) (L2.tC (L2.V.bl b))) := by
  intro X b j pos
  exact ⟨@zarg X b j pos⟩
theorem zbx : ∀ {X : L2.Cx} {a b : PySem.Expr} {ta tb : L2.TE} {pos : PySem.Pos} {r : L2.R2}, L2.IxR X r → L2.Bx (L2.PE X a ta) → L2.Bx (L2.PE X b tb) → L2.PlainIx b → L2.Bx (L2.PE X (a.Subscript b pos) (L2.tOp r ta tb)) := by
  intro X a b ta tb pos r hr ha hb hs
  exact ⟨@zarp X a b ta tb pos r hr ha.out hb.out hs⟩
theorem zff : ∀ {X : L2.Cx} {t u : L2.TS} {pos : PySem.Pos} {c : PySem.Expr} {a b : List PySem.Stmt} {tc : L2.TT}, L2.Bx (L2.PT X c tc) → L2.Bx (L2.PSs X a t) → L2.Bx (L2.PSs X b u) → L2.Bx (L2.PS X (PySem.Stmt.If c a b pos) (L2.tIfS tc t u)) := by
  intro X t u pos c a b tc hc ha hb
  exact ⟨@zari X t u pos c a b tc hc.out ha.out hb.out⟩
theorem zch : ∀ {X : L2.Cx}, L2.Bx (L2.PSs X [] L2.tNext) := by
  intro X
  exact ⟨@zall X⟩
theorem zlx : ∀ {X : L2.Cx} {a : PySem.Expr} {pos : PySem.Pos} {tA : L2.TT}, L2.Bx (L2.PT X a tA) → L2.Bx (L2.PT X (PySem.Expr.UnaryOp PySem.UnaryOp.Not a pos) (L2.tNot tA)) := by
  intro X a pos tA ha
  exact ⟨@zaoe X a pos tA ha.out⟩
theorem zcp : ∀ {X : L2.Cx} {K : PySem.W.Frag},
  X.K = K →
    ∀ {a : PySem.Expr} {ta : L2.TE},
      L2.Bx (L2.PE X a ta) →
        (∀ (whole : PySem.Sem PySem.Value),
            PySem.isTrue a X.env whole = do
              let v ← whole
              PySem.standAt a.pos
              PySem.holding [v] (PySem.truthy v)) →
          L2.Bx (L2.PT X a fun (σ : L2.St) (H : L2.Hp) (Q : Bool → L2.Hp → Prop) => ta σ H fun (x : L2.V) (H' : L2.Hp) => ∃ (k : Bool), L2.TruV K x H' k ∧ Q k H') := by
  intro X K hK a ta ha he
  exact ⟨@zafn X K hK a ta ha.out he⟩
theorem zao : ∀ {X : L2.Cx} {pos : PySem.Pos} {i : Nat} {x : PySem.Str}, X.N.Nodup → X.N[i]? = Option.some x → L2.Loc X.env.scope x → X.fn x = Bool.true ∨ List.lookup x X.env.scope.names = Option.some PySem.NameKind.local → L2.Bx (L2.PG X (PySem.Expr.Name x pos) (L2.gName i)) := by
  intro X pos i x hN hi hx hf
  exact ⟨@zalo X pos i x hN hi hx hf⟩
theorem zdg : ∀ {X : L2.Cx} {es : List PySem.Expr} {t : L2.TA} {pos : PySem.Pos}, L2.Bx (L2.PA X es t) → L2.Bx (L2.PE X (PySem.Expr.List es pos) (L2.tLst t)) := by
  intro X es t pos h
  exact ⟨@zaou X es t pos h.out⟩
theorem zfb : ∀ {X : L2.Cx} {tg iter : PySem.Expr} {body : List PySem.Stmt} {wi : L2.TI} {g : L2.TG} {tb : L2.TS} {pos : PySem.Pos}, PySem.PassesOwn (PySem.model X.prog X.w) X.A X.env X.xe → X.calm = Bool.true → L2.Bx (L2.PI X tg iter wi) → L2.Bx (L2.PG X tg g) → L2.Bx (L2.PSs X body tb) → (∀ (x : PySem.Value), PySem.foldedSetIterable iter X.env x = Pure.pure x) → L2.Bx (L2.PS X (PySem.Stmt.For tg iter body [] pos) (L2.tFor wi g tb)) := by
  intro X tg iter body wi g tb pos hp hc hi hg hb hs
  exact ⟨@zaom X tg iter body wi g tb pos hp hc hi.out hg.out hb.out hs⟩
theorem zcr : ∀ {X : L2.Cx} {a b : PySem.Expr} {ta tb : L2.TE} {pos : PySem.Pos} {op : PySem.CmpOp} {r : L2.R2}, L2.OpR X (PySem.compareOp op) r → L2.Bx (L2.PE X a ta) → L2.Bx (L2.PE X b tb) → PySem.behindInMarks op b = Bool.false → L2.Bx (L2.PT X (a.Compare [op] [b] pos) (L2.tTest (L2.tOp r ta tb))) := by
  intro X a b ta tb pos op r ho ha hb hm
  exact ⟨@zalr X a b ta tb pos op r ho ha.out hb.out hm⟩
theorem zer : ∀ {X : L2.Cx} {x : PySem.Str} {j : Nat} {pos : PySem.Pos}, L2.Bx (L2.PE X (PySem.Expr.Constant (PySem.Const.str x) j pos) (L2.tC (L2.V.str x))) := by
  intro X x j pos
  exact ⟨@zaoa X x j pos⟩
theorem zeu : ∀ {X : L2.Cx} {e : PySem.Expr} {te : L2.TE} {pos : PySem.Pos}, L2.Bx (L2.PE X e te) → PySem.swapsWith e Option.none pos.line X.env = Pure.pure Bool.false → L2.Bx (L2.PS X (PySem.Stmt.Expr e pos) (L2.tDrop te)) := by
  intro X e te pos he hs
  exact ⟨@zaln X e te pos he.out hs⟩
theorem zed : ∀ {X : L2.Cx} {es : List PySem.Expr} {t : L2.TA} {pos : PySem.Pos} {x1 : Nat}, L2.Bx (L2.PA X es t) → L2.Bx (L2.PE X (PySem.Expr.Tuple es x1 pos) (L2.tTup t)) := by
  intro X es t pos x1 h
  exact ⟨@zaot X es t pos x1 h.out⟩
theorem zqw : ∀ {X : L2.Cx} {a : PySem.Expr} {pos : PySem.Pos} {op : PySem.BoolOp} {t : L2.TE}, L2.Bx (L2.PE X a t) → L2.Bx (L2.PE X (PySem.Expr.BoolOp op [a] pos) t) := by
  intro X a pos op t h
  exact ⟨@zaof X a pos op t h.out⟩
theorem zml : ∀ {X : L2.Cx} {a b : PySem.Expr} {ta tb : L2.TE} {pos : PySem.Pos} {op : PySem.CmpOp} {r : L2.R2}, L2.OpR X (PySem.compareOp op) r → L2.Bx (L2.PE X a ta) → L2.Bx (L2.PE X b tb) → PySem.behindInMarks op b = Bool.false → L2.Bx (L2.PE X (a.Compare [op] [b] pos) (L2.tOp r ta tb)) := by
  intro X a b ta tb pos op r ho ha hb hm
  exact ⟨@zalq X a b ta tb pos op r ho ha.out hb.out hm⟩
theorem zfg : ∀ {X : L2.Cx} {x : PySem.Str} {p pos : PySem.Pos} {e : PySem.Expr} {es : List PySem.Expr} {t : L2.TA} {T : String} {r : List L2.V → L2.Hp → L2.VK → Prop}, L2.CallR X (PySem.Value.type T) r → L2.Gl X x → X.mg x = Option.none → PySem.bootBuiltins x = Option.some (PySem.Value.type T) → L2.Bx (L2.PA X (e :: es) t) → x ≠ PySem.Str.ofString "__name__" → (x == PySem.Str.ofString "__debug__") = Bool.false → PySem.starEach (e :: es) X.env = (Bool.false, PySem.eval e X.env) :: PySem.starEach es X.env → ((PySem.backTo pos (PySem.starEach es X.env)).any fun (x : Bool × PySem.Sem PySem.Value) => x.fst) = Bool.false → L2.Bx (L2.PE X ((PySem.Expr.Name x p).Call (e :: es) [] pos) (L2.tCB r t)) := by
  intro X x p pos e es t T r hc hg hm hv ha hn hdb he hpl
  exact ⟨@zaej X x p pos e es t T r hc hg hm hv ha.out hn hdb he hpl⟩
theorem zhc : ∀ {X : L2.Cx} {x : PySem.Str} {v : L2.V} {u : PySem.Value} {pos : PySem.Pos}, L2.Gl X x → X.mg x = Option.none → PySem.bootBuiltins x = Option.some u → L2.RelV v u → x ≠ PySem.Str.ofString "__name__" → (x == PySem.Str.ofString "__debug__") = Bool.false → L2.Bx (L2.PE X (PySem.Expr.Name x pos) (L2.tC v)) := by
  intro X x v u pos hg hm hv r hn hd
  exact ⟨@zalj X x v u pos hg hm hv r hn hd⟩
theorem zzt : ∀ {X : L2.Cx} {a : PySem.Expr} {pos : PySem.Pos} {tA : L2.TT}, L2.Bx (L2.PT X a tA) → L2.Bx (L2.PW X (PySem.Expr.BoolOp PySem.BoolOp.Or [a] pos) tA) := by
  intro X a pos tA ha
  exact ⟨@zaoc X a pos tA ha.out⟩
theorem zafu : ∀ {X : L2.Cx} {a b : PySem.Expr} {pos : PySem.Pos} {tA tB' : L2.TT} {rest : List PySem.Expr}, L2.Bx (L2.PT X a tA) → L2.Bx (L2.PW X (PySem.Expr.BoolOp PySem.BoolOp.Or (b :: rest) pos) tB') → L2.Bx (L2.PW X (PySem.Expr.BoolOp PySem.BoolOp.Or (a :: b :: rest) pos) (L2.tOr tA tB')) := by
  intro X a b pos tA tB' rest ha hb
  exact ⟨@zarh X a b pos tA tB' rest ha.out hb.out⟩
theorem zpv : ∀ {X : L2.Cx} {e : PySem.Expr} {te : L2.TE}, L2.Bx (L2.PE X e te) → L2.Bx (L2.PO X (Option.some e) (L2.tPart te)) := by
  intro X e te h
  exact ⟨@zalx X e te h.out⟩
theorem zpw : ∀ {X : L2.Cx}, L2.Bx (L2.PO X Option.none L2.tNoPart) := by
  intro X
  exact ⟨@zalw X⟩
theorem zmm : ∀ {X : L2.Cx} {e : PySem.Expr} {te : L2.TE} {lo hi : Option PySem.Expr} {tl th : L2.TO} {pos p2 : PySem.Pos} {r : L2.V → Option Int → Option Int → L2.Hp → L2.VK → Prop}, L2.SlR X r → L2.Bx (L2.PE X e te) → L2.Bx (L2.PO X lo tl) → L2.Bx (L2.PO X hi th) → L2.Bx (L2.PE X (e.Subscript (PySem.Expr.Slice lo hi Option.none p2) pos) (L2.tSl r te tl th)) := by
  intro X e te lo hi tl th pos p2 r hr he hl hu
  exact ⟨@zahz X e te lo hi tl th pos p2 r hr he.out hl.out hu.out⟩
theorem zbt : ∀ {X : L2.Cx} {scope : PySem.Scope} {N' own : List PySem.Str} {fr : List Nat} {elt target iter : PySem.Expr} {ifs : List PySem.Expr} {cpos : PySem.Pos} {wi : L2.TI} {g : L2.TG} {tt : L2.TT} {te : L2.TE}, L2.CompOk X scope N' own fr → X.calm = Bool.true → L2.Bx (L2.PI X target iter wi) → (∀ (cl : List (PySem.Str × PySem.Addr)) (C : PySem.Addr) (s : PySem.Shared) (H : L2.Hp) (fp : List PySem.Addr), L2.PG (L2.cxComp X scope N' own cl C s H fp) target g ∧ L2.PF (L2.cxComp X scope N' own cl C s H fp) ifs tt ∧ L2.PE (L2.cxComp X scope N' own cl C s H fp) elt te) → (∀ (x : PySem.Value), PySem.foldedSetIterable iter X.env x = Pure.pure x) → L2.Bx (L2.PE X (elt.ListComp [{ target := target, iter := iter, ifs := ifs, is_async := 0 }] scope cpos) (L2.tComp1 wi g tt te own fr)) := by
  intro X scope N' own fr elt target iter ifs cpos wi g tt te c hc hi hb hs
  exact ⟨@zaim X scope N' own fr elt target iter ifs cpos wi g tt te c hc hi.out hb hs⟩
theorem zgu : ∀ {X : L2.Cx} {K : PySem.W.Frag}, X.K = K → ∀ {T : String} {name : PySem.Str} {id : String} {r : L2.V → List L2.V → L2.Hp → L2.VK → Prop} {o e : PySem.Expr} {es : List PySem.Expr} {to : L2.TE} {t : L2.TA} {apos cpos : PySem.Pos}, PySem.PlainAttrs T → PySem.Slot T name id → PySem.typeOf (PySem.Value.builtin id) = Pure.pure (PySem.Value.type "method_descriptor") → L2.MtR X id r → L2.Bx (L2.PE X o to) → L2.Bx (L2.PA X (e :: es) t) → PySem.attributeBase o name X.env (PySem.eval o X.env) = PySem.eval o X.env → ((((PySem.backTo cpos (PySem.starEach (e :: es) X.env)).all fun (x : Bool × PySem.Sem PySem.Value) => !x.fst) && (PySem.backToKw cpos (PySem.keywordEach [] X.env)).all fun (x : Option PySem.Str × PySem.Sem PySem.Value) => x.fst.isSome) && Decidable.decide (((e :: es).length + ([] : List Keyword).length + if ([] : List Keyword).isEmpty = Bool.true then 0 else 1) < 30)) = Bool.true → (apos.endLine == cpos.line) = Bool.true → PySem.starEach (e :: es) X.env = (Bool.false, PySem.eval e X.env) :: PySem.starEach es X.env → ((PySem.backTo cpos (PySem.starEach es X.env)).any fun (x : Bool × PySem.Sem PySem.Value) => x.fst) = Bool.false → L2.Bx (L2.PE X ((o.Attribute name apos).Call (e :: es) [] cpos) (L2.tBM K T r to t)) := by
  intro X K hK T name id r o e es to t apos cpos pa slot hty hm ho ha hbase hfew hline hs hplain
  exact ⟨@zapk X K hK T name id r o e es to t apos cpos pa slot hty hm ho.out ha.out hbase hfew hline hs hplain⟩
theorem znw : ∀ {X : L2.Cx} {a b : PySem.Expr} {ta tb : L2.TE} {pos : PySem.Pos} {rest : List PySem.Expr}, L2.Bx (L2.PE X a ta) → L2.Bx (L2.PE X (PySem.Expr.BoolOp PySem.BoolOp.And (b :: rest) pos) tb) → L2.Bx (L2.PE X (PySem.Expr.BoolOp PySem.BoolOp.And (a :: b :: rest) pos) (L2.tAndV ta tb)) := by
  intro X a b ta tb pos rest ha hb
  exact ⟨@zaog X a b ta tb pos rest ha.out hb.out⟩
theorem zajj : ∀ {X : L2.Cx} {pos : PySem.Pos}, L2.Bx (L2.PPs X pos [] [] []) := by
  intro X pos
  exact ⟨@zamf X pos⟩
theorem zafv : ∀ {X : L2.Cx} {pos : PySem.Pos} {k v : PySem.Expr} {ks : List (Option PySem.Expr)} {vs : List PySem.Expr} {tk tv : L2.TE} {trs : List (L2.TE × L2.TE)}, L2.Bx (L2.PE X k tk) → L2.Bx (L2.PE X v tv) → L2.Bx (L2.PPs X pos ks vs trs) → L2.Bx (L2.PPs X pos (Option.some k :: ks) (v :: vs) ((tk, tv) :: trs)) := by
  intro X pos k v ks vs tk tv trs hk hv hr
  exact ⟨@zaih X pos k v ks vs tk tv trs hk.out hv.out hr.out⟩
theorem zamv : ∀ {X : L2.Cx} {tg l : PySem.Expr} {tl : L2.TE}, L2.Bx (L2.PE X l tl) → L2.Bx (L2.PI X tg l (L2.iStr tl)) := by
  intro X tg l tl hl
  exact ⟨@zapy X tg l tl hl.out⟩
theorem zbn : ∀ {X : L2.Cx} {K : PySem.W.Frag}, X.K = K → ∀ {tg l : PySem.Expr} {tl : L2.TE}, L2.Bx (L2.PE X l tl) → L2.Bx (L2.PI X tg l (L2.iSeq K tl)) := by
  intro X K hK tg l tl hl
  exact ⟨@zams X K hK tg l tl hl.out⟩
theorem zhg : ∀ {X : L2.Cx} {tg a : PySem.Expr} {ta : L2.TA} {p pos : PySem.Pos}, L2.Gl X (PySem.Str.ofString "range") → X.mg (PySem.Str.ofString "range") = Option.none → L2.Bx (L2.PA X [a] ta) → PySem.starEach [a] X.env = [(Bool.false, PySem.eval a X.env)] → L2.Bx (L2.PI X tg ((PySem.Expr.Name (PySem.Str.ofString "range") p).Call [a] [] pos) (L2.iRng1 ta)) := by
  intro X tg a ta p pos hg hm ha hs
  exact ⟨@zaea X tg a ta p pos hg hm ha.out hs⟩
theorem zdh : ∀ {X : L2.Cx}, L2.Bx (L2.PF X [] L2.tAll) := by
  intro X
  exact ⟨@zape X⟩
theorem zqx : ∀ {X : L2.Cx} {pos : PySem.Pos}, L2.Bx (L2.PE X (PySem.Expr.Dict [] [] pos) L2.tDNewK) := by
  intro X pos
  exact ⟨@zaig X pos⟩
theorem zajk : ∀ {X : L2.Cx} {pos : PySem.Pos} {keys : List (Option PySem.Expr)} {values : List PySem.Expr} {trs : List (L2.TE × L2.TE)}, L2.Bx (L2.PPs X pos keys values trs) → (keys.all fun (x : Option PySem.Expr) => x.isSome) = Bool.true → keys.length = values.length → keys ≠ [] → keys.length ≤ 15 → L2.Bx (L2.PE X (PySem.Expr.Dict keys values pos) (L2.tDisp trs)) := by
  intro X pos keys values trs h hall hl h0 h15
  exact ⟨@zamg X pos keys values trs h.out hall hl h0 h15⟩
theorem zqy : ∀ {X : L2.Cx} {c : PySem.Expr} {t : L2.TT}, L2.Bx (L2.PT X c t) → L2.Bx (L2.PF X [c] t) := by
  intro X c t h
  exact ⟨@zapf X c t h.out⟩
theorem zamw : ∀ {X : L2.Cx} {a : PySem.Expr} {ta : L2.TE} {pos : PySem.Pos}, L2.Bx (L2.PE X a ta) → L2.Bx (L2.PE X (PySem.Expr.UnaryOp PySem.UnaryOp.Not a pos) (L2.tNotV ta)) := by
  intro X a ta pos ha
  exact ⟨@zaoh X a ta pos ha.out⟩
theorem zjj : ∀ {X : L2.Cx} {o i : PySem.Expr} {pos : PySem.Pos} {td ty : L2.TE}, X.A.units + 1 < PySem.cLine → L2.Bx (L2.PE X o td) → L2.Bx (L2.PE X i ty) → L2.NoSl i → L2.Bx (L2.PE X (o.Subscript i pos) (L2.tDGet td ty)) := by
  intro X o i pos td ty hu ho hi hs
  exact ⟨@zamd X o i pos td ty hu ho.out hi.out hs⟩
theorem zabu : ∀ {X : L2.Cx} {a : PySem.Expr} {pos : PySem.Pos} {tA : L2.TT}, L2.Bx (L2.PT X a tA) → L2.Bx (L2.PW X (PySem.Expr.BoolOp PySem.BoolOp.And [a] pos) tA) := by
  intro X a pos tA ha
  exact ⟨@zalk X a pos tA ha.out⟩
theorem zafw : ∀ {X : L2.Cx} {a b : PySem.Expr} {pos : PySem.Pos} {tA tB' : L2.TT} {rest : List PySem.Expr}, L2.Bx (L2.PT X a tA) → L2.Bx (L2.PW X (PySem.Expr.BoolOp PySem.BoolOp.And (b :: rest) pos) tB') → L2.Bx (L2.PW X (PySem.Expr.BoolOp PySem.BoolOp.And (a :: b :: rest) pos) (L2.tAnd tA tB')) := by
  intro X a b pos tA tB' rest ha hb
  exact ⟨@zaod X a b pos tA tB' rest ha.out hb.out⟩
theorem zafx : ∀ {X : L2.Cx} {pos : PySem.Pos} {c : PySem.Expr} {body : List PySem.Stmt} {tc : L2.TT} {tb : L2.TS}, PySem.PassesOwn (PySem.model X.prog X.w) X.A X.env X.xe → L2.Bx (L2.PT X c tc) → L2.Bx (L2.PSs X body tb) → L2.Bx (L2.PS X (PySem.Stmt.While c body [] pos) (L2.tWhile tc tb)) := by
  intro X pos c body tc tb hp hc hb
  exact ⟨@zaht X pos c body tc tb hp hc.out hb.out⟩
theorem zxf : ∀ {X : L2.Cx} {st : PySem.Stmt}, L2.Bx (L2.PS X st L2.tNever) := by
  intro X st
  exact ⟨@zahr X st⟩
theorem zvb : ∀ {X : L2.Cx} {o i value : PySem.Expr} {pos pos' : PySem.Pos} {td ty tv : L2.TE}, X.A.units + 1 < PySem.cLine → L2.Bx (L2.PE X o td) → L2.Bx (L2.PE X i ty) → L2.Bx (L2.PE X value tv) → PySem.swapsWith value (Option.some (o.Subscript i pos')) pos.line X.env = Pure.pure Bool.false → L2.Bx (L2.PS X (PySem.Stmt.Assign [o.Subscript i pos'] value pos) (L2.sDPut td ty tv)) := by
  intro X o i value pos pos' td ty tv hu ho hi hv hs
  exact ⟨@zame X o i value pos pos' td ty tv hu ho.out hi.out hv.out hs⟩
theorem zafy : ∀ {X : L2.Cx} {scope : PySem.Scope} {N' own : List PySem.Str} {fr : List Nat} {elt target iter : PySem.Expr} {ifs : List PySem.Expr} {cpos : PySem.Pos} {wi : L2.TI} {g : L2.TG} {tt : L2.TT} {te : L2.TE} {spos py : PySem.Pos} {i : Nat} {y : PySem.Str}, L2.CompOk X scope N' own fr → X.calm = Bool.true → L2.Bx (L2.PI X target iter wi) → (∀ (cl : List (PySem.Str × PySem.Addr)) (C : PySem.Addr) (s : PySem.Shared) (H : L2.Hp) (fp : List PySem.Addr), L2.PG (L2.cxComp X scope N' own cl C s H fp) target g ∧ L2.PF (L2.cxComp X scope N' own cl C s H fp) ifs tt ∧ L2.PE (L2.cxComp X scope N' own cl C s H fp) elt te) → PySem.swapsWith (elt.ListComp [{ target := target, iter := iter, ifs := ifs, is_async := 0 }] scope cpos) (Option.some (PySem.Expr.Name y py)) spos.line X.env = Pure.pure Bool.true → X.N.Nodup → X.N[i]? = Option.some y → List.lookup y X.env.scope.names = Option.some PySem.NameKind.local → (∀ (x : PySem.Value), PySem.foldedSetIterable iter X.env x = Pure.pure x) → L2.Bx (L2.PS X (PySem.Stmt.Assign [PySem.Expr.Name y py] (elt.ListComp [{ target := target, iter := iter, ifs := ifs, is_async := 0 }] scope cpos) spos) (L2.tAsgC1 wi g tt te own fr i)) := by
  intro X scope N' own fr elt target iter ifs cpos wi g tt te spos py i y c hc hi hb hsw hN hy hl hs
  exact ⟨@zain X scope N' own fr elt target iter ifs cpos wi g tt te spos py i y c hc hi.out hb hsw hN hy hl hs⟩
theorem zzu : ∀ {X : L2.Cx} {pos : PySem.Pos} {tg e : PySem.Expr} {te : L2.TE} {g : L2.TG}, L2.Bx (L2.PE X e te) → L2.Bx (L2.PG X tg g) → PySem.swapsWithSole [tg] e pos.line X.env = Pure.pure Bool.false → PySem.swappedStores [tg] e X.env = Pure.pure Option.none → List.map (fun (x : Bool × (PySem.Value → PySem.Sem Unit)) => x.snd) (PySem.assignEach [tg] X.env) = [PySem.assign tg X.env] → L2.Bx (L2.PS X (PySem.Stmt.Assign [tg] e pos) (L2.tAsg te g)) := by
  intro X pos tg e te g he hg hs hw h1
  exact ⟨@zakq X pos tg e te g he.out hg.out hs hw h1⟩
theorem zqz : ∀ {X : L2.Cx} {K : PySem.W.Frag}, X.K = K → ∀ {a b : PySem.Expr} {ta : L2.TA} {p pos : PySem.Pos} {elts : List PySem.Expr} {x1 : Nat} {tpos : PySem.Pos}, L2.Gl X (PySem.Str.ofString "zip") → X.mg (PySem.Str.ofString "zip") = Option.none → L2.Bx (L2.PA X [a, b] ta) → PySem.starEach [a, b] X.env = (Bool.false, PySem.eval a X.env) :: PySem.starEach [b] X.env → ((PySem.backTo pos (PySem.starEach [b] X.env)).any fun (x : Bool × PySem.Sem PySem.Value) => x.fst) = Bool.false → L2.Bx (L2.PI X (PySem.Expr.Tuple elts x1 tpos) ((PySem.Expr.Name (PySem.Str.ofString "zip") p).Call [a, b] [] pos) (L2.iZip K ta)) := by
  intro X K hK a b ta p pos elts x1 tpos hg hm ha hs hs2
  exact ⟨@zapw X K hK a b ta p pos elts x1 tpos hg hm ha.out hs hs2⟩
theorem zafz : ∀ {X : L2.Cx} {K : PySem.W.Frag}, X.K = K → ∀ {a : PySem.Expr} {ta : L2.TA} {p pos : PySem.Pos} {elts : List PySem.Expr} {x1 : Nat} {tpos : PySem.Pos}, L2.Gl X (PySem.Str.ofString "enumerate") → X.mg (PySem.Str.ofString "enumerate") = Option.none → L2.Bx (L2.PA X [a] ta) → PySem.starEach [a] X.env = [(Bool.false, PySem.eval a X.env)] → L2.Bx (L2.PI X (PySem.Expr.Tuple elts x1 tpos) ((PySem.Expr.Name (PySem.Str.ofString "enumerate") p).Call [a] [] pos) (L2.iEnumX K ta)) := by
  intro X K hK a ta p pos elts x1 tpos hg hm ha hs
  exact ⟨@zajg X K hK a ta p pos elts x1 tpos hg hm ha.out hs⟩
theorem zda : ∀ {X : L2.Cx}, L2.Bx (L2.PGs X [] L2.gNil) := by
  intro X
  exact ⟨@zalp X⟩
theorem zav : ∀ {X : L2.Cx} {e : PySem.Expr} {es : List PySem.Expr} {t : L2.TG} {u : L2.TGs}, L2.Bx (L2.PG X e t) → L2.Bx (L2.PGs X es u) → List.map (fun (x : Bool × (PySem.Value → PySem.Sem Unit)) => x.snd) (PySem.assignEach (e :: es) X.env) = PySem.assign e X.env :: List.map (fun (x : Bool × (PySem.Value → PySem.Sem Unit)) => x.snd) (PySem.assignEach es X.env) → L2.Bx (L2.PGs X (e :: es) (L2.gCons t u)) := by
  intro X e es t u h1 h2 hs
  exact ⟨@zahs X e es t u h1.out h2.out hs⟩
theorem zdb : ∀ {X : L2.Cx} {K : PySem.W.Frag}, X.K = K → ∀ {es : List PySem.Expr} {k : Nat} {t : L2.TGs} {n : Nat} {pos : PySem.Pos}, X.calm = Bool.true → L2.Bx (L2.PGs X es t) → (PySem.assignEach es X.env).length = n → List.findIdx? (fun (x : Bool × (PySem.Value → PySem.Sem Unit)) => x.fst) (PySem.assignEach es X.env) = Option.none → L2.Bx (L2.PG X (PySem.Expr.Tuple es k pos) (L2.gTup K n t)) := by
  intro X K hK es k t n pos hc h hn hst
  exact ⟨@zamj X K hK es k t n pos hc h.out hn hst⟩
theorem zaqb : ∀ {X : L2.Cx} {a : PySem.Expr} {ta : L2.TE} {pos : PySem.Pos} {op : PySem.UnaryOp} {r : L2.V → L2.Hp → L2.VK → Prop}, L2.UnR X (PySem.unaryOp op) r → L2.Bx (L2.PE X a ta) → L2.Bx (L2.PE X (PySem.Expr.UnaryOp op a pos) (L2.tUn r ta)) := by
  intro X a ta pos op r ho ha
  exact ⟨@zark X a ta pos op r ho ha.out⟩
theorem zaga : ∀ {X : L2.Cx} {scope : PySem.Scope} {N' own : List PySem.Str} {fr : List Nat} {elt target iter target2 iter2 : PySem.Expr} {ifs ifs2 : List PySem.Expr} {cpos : PySem.Pos} {wi wi2 : L2.TI} {g g2 : L2.TG} {tt tt2 : L2.TT} {te : L2.TE}, L2.CompOk X scope N' own fr → X.calm = Bool.true → L2.Bx (L2.PI X target iter wi) → (∀ (cl : List (PySem.Str × PySem.Addr)) (C : PySem.Addr) (s : PySem.Shared) (H : L2.Hp) (fp : List PySem.Addr), L2.PG (L2.cxComp X scope N' own cl C s H fp) target g ∧ L2.PF (L2.cxComp X scope N' own cl C s H fp) ifs tt ∧ L2.PI (L2.cxComp X scope N' own cl C s H fp) target2 iter2 wi2 ∧ L2.PG (L2.cxComp X scope N' own cl C s H fp) target2 g2 ∧ L2.PF (L2.cxComp X scope N' own cl C s H fp) ifs2 tt2 ∧ L2.PE (L2.cxComp X scope N' own cl C s H fp) elt te) → (∀ (x : PySem.Value), PySem.foldedSetIterable iter X.env x = Pure.pure x) → (∀ (env : PySem.Env) (x : PySem.Value), PySem.foldedSetIterable iter2 env x = Pure.pure x) → L2.Bx (L2.PE X (elt.ListComp [{ target := target, iter := iter, ifs := ifs, is_async := 0 }, { target := target2, iter := iter2, ifs := ifs2, is_async := 0 }] scope cpos) (L2.tComp2 wi g tt wi2 g2 tt2 te own fr)) := by
  intro X scope N' own fr elt target iter target2 iter2 ifs ifs2 cpos wi wi2 g g2 tt tt2 te c hc hi hb hs hs2
  exact ⟨@zaiy X scope N' own fr elt target iter target2 iter2 ifs ifs2 cpos wi wi2 g g2 tt tt2 te c hc hi.out hb hs hs2⟩
theorem zagb : ∀ {X : L2.Cx} {o i : PySem.Expr} {td ty : L2.TE}, X.A.units + 1 < PySem.cLine → L2.Bx (L2.PE X i ty) → L2.Bx (L2.PE X o td) → L2.Bx (L2.PC X PySem.CmpOp.In i o (L2.tDIn ty td)) := by
  intro X o i td ty hu hi ho
  exact ⟨@zapd X o i td ty hu hi.out ho.out⟩
theorem zagc : ∀ {X : L2.Cx} {a b : PySem.Expr} {pos : PySem.Pos} {op : PySem.CmpOp} {t : L2.TE}, L2.Bx (L2.PC X op a b t) → PySem.behindInMarks op b = Bool.false → L2.Bx (L2.PE X (a.Compare [op] [b] pos) t) := by
  intro X a b pos op t h h1
  exact ⟨@zaob X a b pos op t h.out h1⟩
theorem bv {X : Cx} (i : Nat) {x : Str} {pos : Pos} (hN : X.N[i]? = some x := by rfl) (hv : visB X.env.scope x = true := by rfl) (hd : (x == ("__debug__" : Str)) = false := by decide)
    (hcd : (x == ("__classdict__" : Str)) = false := by decide) : Bx (PE X (.Name x pos) (tVar i)) := ⟨zany hN (visB.of hv) hd hcd⟩
end L2
namespace L2
open PySem PySem.Spec PyProof.Rows
theorem Rps.setAt {H : Hp} {ds : List PyData} {vs : List V} (h : Rps H ds vs) {d : PyData} {v : V} (hv : Rp H d v) (n : Nat) : Rps H (ds.set n d) (vs.set n v) := by
  induction n generalizing ds vs with
  | zero =>
    cases ds with
    | nil => unfold Rps at h; subst h; exact zde
    | cons e ds => unfold Rps at h; obtain ⟨w, ws, rfl, h1, h2⟩ := h; exact zdw hv h2
  | succ n ih =>
    cases ds with
    | nil => unfold Rps at h; subst h; exact zde
    | cons e ds => unfold Rps at h; obtain ⟨w, ws, rfl, h1, h2⟩ := h; exact zdw h1 (ih h2)
end L2
namespace L2
open PySem PySem.Spec PyProof.Rows
theorem zmn {X : Cx} {i : Nat} {o k e : Expr} {tk tv : TE} {pos pos' : Pos} (ho : Bx (PE X o (tVar i))) (hk : Bx (PE X k tk)) (hv : Bx (PE X e tv))
    (ha : ∀ v, assign (.Subscript o k pos') X.env v = (do
      let ov ← holding [v] (eval o X.env)
      let iv ← holding [v, ov] (eval k X.env)
      standAt pos'
      holding [v, ov, iv] (setItem ov iv v)
      release [v, ov, iv] []))
    (hs : swapsWithSole [.Subscript o k pos'] e pos.line X.env = pure false) (hw : swappedStores [.Subscript o k pos'] e X.env = pure none) (h1 : (assignEach [.Subscript o k pos'] X.env).map (·.2) = [assign (.Subscript o k pos') X.env]) :
    Bx (PS X (.Assign [.Subscript o k pos'] e pos) (tAsg tv (gSub (tVar i) tk zaia))) := ⟨zakq hv.out (zaok ho.out hk.out zaib ha) hs hw h1⟩
end L2
namespace L2
open PySem PySem.Spec PyProof.Rows
noncomputable def SatK (fx : Addr → Prop) (H0 : Hp) (J : Nat → Prop) (σ0 : St) (D : Ends) : Out → Prop
  | .nx env => ∀ σ H, EnvOk fx H0 env σ H → (∀ j, J j → σ[j]? = σ0[j]?) → D.nx σ H
  | .bk env => ∀ σ H, EnvOk fx H0 env σ H → (∀ j, J j → σ[j]? = σ0[j]?) → D.bk σ H
  | .ct env => ∀ σ H, EnvOk fx H0 env σ H → (∀ j, J j → σ[j]? = σ0[j]?) → D.ct σ H
  | .rt d fr => ∀ v H, Same H0 H → zwz fx H0 d fr v H → D.rt v H
noncomputable def SSk (J : Nat → Prop) (ts : TS) (F : SF) : Prop := ∀ (fx : Addr → Prop) (H0 : Hp) (env : DEnv) (σ : St) (H : Hp) (D : Ends), EnvOk fx H0 env σ H → ∀ o, F env = some o → SatK fx H0 J σ D o → ts D σ H
section
variable {J : Nat → Prop}
theorem zagd {te : TE} {f : EF} {i : Nat} (h1 : SE te f) (hJ : ¬ J i) : SSk J (tAsg te (gName i)) (sSet i f) := by
  intro fx H0 env σ H D h o e q
  unfold sSet at e
  obtain ⟨r, er, rfl⟩ := Option.map_eq_some_iff.mp e
  exact h1 fx H0 env σ H h r er _ fun v H' s hv => q _ H' (h.put s hv i) fun j hj => List.getElem?_set_ne fun z => hJ (by rw [z]; exact hj)
noncomputable def SGk (J : Nat → Prop) (g : TG) (f : GT) : Prop := ∀ (fx : Addr → Prop) (H0 : Hp) (env : DEnv) (σ : St) (H : Hp) (d : PyData) (v : V), EnvOk fx H0 env σ H → Rp (Offs (fun a => fx a ∨ own env σ a) H) d v → ∀ env', f d env = some env' → ∀ Q : St → Hp → Prop,
  (∀ σ', EnvOk fx H0 env' σ' H → (∀ j, J j → σ'[j]? = σ[j]?) → Q σ' H) → g v σ H Q
theorem zmo {i : Nat} (hJ : ¬ J i) : SGk J (gName i) (gN i) := by
  intro fx H0 env σ H d v h r env' e Q q
  cases e
  exact q _ (h.setPl i r) fun j hj => List.getElem?_set_ne fun z => hJ (by rw [z]; exact hj)
end
end L2
namespace L2
open PySem PySem.Spec PyProof.Rows
section
variable {X : Cx}
end
end L2
namespace HT
open PySem PySem.Spec PyProof.Rows L2
section
variable {prog : Program} {w : World} {A : Around} {E : Value → Shared → Prop} {s : Shared}
end
end HT
namespace L2
open PySem PySem.Spec PyProof.Rows
end L2
namespace L2
open PySem PySem.Spec PyProof.Rows
end L2
namespace L2
open PySem PySem.Spec PyProof.Rows
noncomputable def plS : Sl → Sl
  | .ac d => .pl d
  | s => s
noncomputable def plE (env : DEnv) : DEnv := env.map plS
noncomputable def noA (as : List Nat) (env : DEnv) : DEnv := as.foldl (fun e i => e.set i .no) env
noncomputable def zasl (h : Nat) (as : List Nat) (f1 f2 f3 : EF) (R1 : SF) (c : TF) (ix : EF) (R2 : SF) : SF := fun env =>
  (f1 (plE env)).bind fun r1 => (f2 (plE env)).bind fun r2 => (f3 (plE env)).bind fun r3 => match r3.d with
  | .list ds => if r3.fr = true ∧ h ∉ as then (R1 ((plE env).set h (.pl (.tuple [r1.d, r2.d, .list ds])))).bind fun o => match o with
    | .nx e => if e.length = env.length ∧ h < env.length then (c e).bind fun b => if b = true then (ix e).bind fun z => (match z.d with
        | .int k => if 0 ≤ k ∧ k < 100000 ∧ k.toNat < ds.length then R2 ((noA as (plE env)).set h (.pl (.tuple [r1.d, r2.d, .list (ds.eraseIdx k.toNat)]))) else none
        | _ => none) else R2 ((noA as (plE env)).set h (.pl (.tuple [r1.d, r2.d, .list ds]))) else none
    | .rt d fr => some (.rt d fr)
    | _ => none else none
  | _ => none
noncomputable def repD : OF
  | .list ds, .int n => if 0 ≤ n ∧ n ≤ 100 ∧ ds.length ≤ 100 then some (.list (List.replicate n.toNat ds).flatten, true) else none
  | _, _ => none
theorem Rps.rep {H : Hp} {ds : List PyData} {vs : List V} (h : Rps H ds vs) : ∀ (n : Nat), Rps H (List.replicate n ds).flatten (List.replicate n vs).flatten
  | 0 => zde
  | n + 1 => by
    rw [List.replicate_succ, List.replicate_succ, List.flatten_cons, List.flatten_cons]
    exact h.append (Rps.rep h n)
theorem zala : SO rRep repD := by
  intro A H x y dx dy hA rx ry d fr e Q q
  unfold repD at e
  split at e
  · rename_i ds n
    split at e
    · rename_i hl
      cases e
      obtain ⟨a, xs, rfl, h1, r1⟩ := zey rx
      cases zdr ry
      have hlen := r1.length
      refine ⟨a, n, xs, rfl, rfl, zds h1, by omega, by omega, ?_, fun p hp => ?_⟩
      · refine zez ?_
        rw [← hlen]
        calc ds.length * n.toNat ≤ 100 * 100 := Nat.mul_le_mul hl.2.2 (by omega)
          _ ≤ 100000 := by decide
      · have r := r1.rep n.toNat
        exact q _ _ (Same.new hp) (zwt hp (zfa hA hp) r) fun _ => ⟨p, rfl, hp, zqh hp r⟩
    · cases e
  · cases e
end L2
namespace PySem
open Sem (wp)
section
variable {prog : Program} {w : World} {A : Around} {E : Value → Shared → Prop} {s : Shared}
variable {b1 b2 b3 : Bool} {z TI TO i1 i2 i3 l1 l2 l3 : Addr} {k : Nat} {xs ys zs : Array Value}
end
end PySem
namespace L2
open PySem PySem.Spec PyProof.Rows
end L2
namespace PySem
open Sem (wp)
end PySem
namespace L2
open PySem PySem.Spec PyProof.Rows
end L2
namespace L2
open PySem PySem.Spec PyProof.Rows
structure MvR (R : Addr → Prop) (H H' : Hp) : Prop where
  keep : ∀ b o, ¬ R b → H b = some o → H' b = some o
  live : ∀ b o, H b = some o → ∃ o', H' b = some o'
theorem MvR.same {R : Addr → Prop} {H H' : Hp} (s : Same H H') : MvR R H H' := ⟨fun b o _ e => s b o e, fun b o e => ⟨o, s b o e⟩⟩
theorem MvR.trans {R : Addr → Prop} {H H1 H2 : Hp} (a : MvR R H H1) (b : MvR R H1 H2) : MvR R H H2 := ⟨fun x o n e => b.keep x o n (a.keep x o n e), fun x o e => let ⟨o', e'⟩ := a.live x o e; b.live x o' e'⟩
theorem MvR.free {R : Addr → Prop} {H H' : Hp} (m : MvR R H H') {b : Addr} (h : H' b = none) : H b = none := by
  cases e : H b with
  | none => rfl
  | some o => obtain ⟨o', e'⟩ := m.live b o e; rw [h] at e'; cases e'
theorem MvR.offs {R A : Addr → Prop} {H H' : Hp} (m : MvR R H H') (h : ∀ b, R b → A b) : Same (Offs A H) (Offs A H') := fun b o e => by
  obtain ⟨n, e⟩ := Offs.of e
  rw [Offs.get n]
  exact m.keep b o (fun z => n (h b z)) e
structure Kind (T : Type) where
  at_ : Hp → V → (Addr → Prop) → T → Prop
  live : ∀ {H v R st}, at_ H v R st → ∀ b, R b → ∃ o, H b = some o
  stay : ∀ {H H' v R st}, at_ H v R st → (∀ b o, R b → H b = some o → H' b = some o) → at_ H' v R st
structure Has {T : Type} (k : Kind T) (f : Nat) (fx : Addr → Prop) (H0 : Hp) (env : DEnv) (σ : St) (H : Hp) (v : V) (R : Addr → Prop) (st : T) : Prop where
  ok : EnvOk fx H0 env σ H
  no : env[f]? = some .no
  sl : σ[f]? = some (some v)
  th : k.at_ H v R st
  off : ∀ b, R b → fx b
  low : ∀ b, R b → H0 b = none
section
variable {T : Type} {k : Kind T} {f : Nat} {fx : Addr → Prop} {H0 : Hp} {env : DEnv} {σ : St} {H H' : Hp} {v : V} {R : Addr → Prop} {st st' : T}
theorem Has.up (h : Has k f fx H0 env σ H v R st) (s : Same H H') : Has k f fx H0 env σ H' v R st := ⟨h.ok.up s, h.no, h.sl, k.stay h.th fun b o _ e => s b o e, h.off, h.low⟩
theorem Has.mv (h : Has k f fx H0 env σ H v R st) (m : MvR R H H') (t : k.at_ H' v R st') : Has k f fx H0 env σ H' v R st' := by
  have so : Same (Offs (fun a => fx a ∨ own env σ a) H) (Offs (fun a => fx a ∨ own env σ a) H') := m.offs fun b z => .inl (h.off b z)
  refine ⟨⟨h.ok.len, fun i d e => ?_, fun i d e => ?_, h.ok.inj, fun b o e => m.keep b o (fun z => by rw [h.low b z] at e; cases e) (h.ok.base b o e), fun b z => ?_⟩, h.no, h.sl, t, h.off, h.low⟩
  · obtain ⟨u, h1, h2⟩ := h.ok.pl i d e
    exact ⟨u, h1, Rp.same so d h2⟩
  · obtain ⟨a, h1, h2, h3, h4⟩ := h.ok.ac i d e
    exact ⟨a, h1, h2, h3, h4.same so fun o z => m.keep a o (fun y => h3 (h.off a y)) z⟩
  · obtain ⟨o, e⟩ := h.ok.fxs b z
    exact m.live b o e
theorem Has.val (h : Has k f fx H0 env σ H v R st) {H1 : Hp} (m : MvR R H1 H') {r : Val} {w : V} (l : ∀ b, R b → ∃ o, H b = some o) (q : ValOk (lim fx env σ r.bs) H H1 r w) : ValOk (lim fx env σ r.bs) H H' r w := by
  refine ⟨Rp.same (m.offs fun b z => .inl (h.off b z)) _ q.rp, fun e => ?_⟩
  obtain ⟨a, h1, h2, h3⟩ := q.fr e
  refine ⟨a, h1, h2, h3.same (m.offs fun b z => .inl (.inl (h.off b z))) fun o z => m.keep a o (fun y => ?_) z⟩
  obtain ⟨o', e'⟩ := l a y
  rw [h2] at e'; cases e'
end
noncomputable abbrev EFr (T : Type) := DEnv → T → Option (Val × T)
noncomputable def SEr {T : Type} (k : Kind T) (f : Nat) (te : TE) (g : EFr T) : Prop := ∀ (fx : Addr → Prop) (H0 : Hp) (env : DEnv) (σ : St) (H : Hp) (v : V) (R : Addr → Prop) (st : T), Has k f fx H0 env σ H v R st → ∀ r st', g env st = some (r, st') → ∀ Q : VK,
  (∀ w H', MvR R H H' → Has k f fx H0 env σ H' v R st' → ValOk (lim fx env σ r.bs) H H' r w → Q w H') → te σ H Q
noncomputable abbrev AFr (T : Type) := DEnv → T → Option (List Val × T)
noncomputable def SAr {T : Type} (k : Kind T) (f : Nat) (ta : TA) (g : AFr T) : Prop := ∀ (fx : Addr → Prop) (H0 : Hp) (env : DEnv) (σ : St) (H : Hp) (v : V) (R : Addr → Prop) (st : T), Has k f fx H0 env σ H v R st → ∀ rs st', g env st = some (rs, st') → ∀ Q : List V → Hp → Prop,
  (∀ ws H', MvR R H H' → Has k f fx H0 env σ H' v R st' → Paired (fun r w => ValOk (lim fx env σ r.bs) H H' r w) rs ws → Q ws H') → ta σ H Q
noncomputable abbrev TFr (T : Type) := DEnv → T → Option (Bool × T)
noncomputable def STr {T : Type} (k : Kind T) (f : Nat) (tt : TT) (g : TFr T) : Prop := ∀ (fx : Addr → Prop) (H0 : Hp) (env : DEnv) (σ : St) (H : Hp) (v : V) (R : Addr → Prop) (st : T), Has k f fx H0 env σ H v R st → ∀ b st', g env st = some (b, st') → ∀ Q : Bool → Hp → Prop,
  (∀ H', MvR R H H' → Has k f fx H0 env σ H' v R st' → Q b H') → tt σ H Q
section
variable {T : Type} {k : Kind T} {f : Nat}
noncomputable def zaq (g : EF) : EFr T := fun env st => (g env).map fun r => (r, st)
theorem zan {te : TE} {g : EF} (h : SE te g) : SEr k f te (zaq g) := by
  intro fx H0 env σ H v R st hh r st' e Q q
  obtain ⟨r', er, e⟩ := Option.map_eq_some_iff.mp e
  cases e
  exact h fx H0 env σ H hh.ok r er Q fun w H' s hv => q w H' (MvR.same s) (hh.up s) hv
noncomputable def rNil : AFr T := fun _ st => some ([], st)
theorem zcj : SAr k f tNil rNil := by
  intro fx H0 env σ H v R st hh rs st' e Q q
  cases e
  exact q [] H (MvR.same (Same.refl _)) hh .nil
noncomputable def zbq (a : EFr T) (g : AFr T) : AFr T := fun env st => (a env st).bind fun x => (g env x.2).bind fun y => some (x.1 :: y.1, y.2)
theorem zbr {te : TE} {ta : TA} {a : EFr T} {g : AFr T} (h1 : SEr k f te a) (h2 : SAr k f ta g) : SAr k f (tCons te ta) (zbq a g) := by
  intro fx H0 env σ H v R st hh rs st' e Q q
  unfold zbq at e
  obtain ⟨⟨x, s1⟩, ex, e⟩ := Option.bind_eq_some_iff.mp e
  obtain ⟨⟨ys, s2⟩, ey, e⟩ := Option.bind_eq_some_iff.mp e
  cases e
  exact h1 fx H0 env σ H v R st hh x s1 ex _ fun w H1 m1 k1 v1 => h2 fx H0 env σ H1 v R s1 k1 ys s2 ey _ fun ws H2 m2 k2 v2 => q (w :: ws) H2 (m1.trans m2) k2
    (.cons (hh.val m2 (k.live hh.th) v1) (Paired.mapP v2 fun _ _ z => ⟨z.rp, fun e => let ⟨a, g1, g2, g3⟩ := z.fr e; ⟨a, g1, m1.free g2, g3⟩⟩))
noncomputable def rOp (w : OF) (a b : EFr T) : EFr T := fun env st => (a env st).bind fun x => (b env x.2).bind fun y => (w x.1.d y.1.d).bind fun z => some (⟨z.1, z.2, bsOf z.1 (x.1.bs ++ y.1.bs)⟩, y.2)
theorem zamx {H : Hp} {Ho : Hp} {a : Addr} {d : PyData} (h : zgs Ho H a d) : zkf d = false := by cases d <;> first | rfl | exact h.elim
theorem zdl {r : R2} {w : OF} {ta tb : TE} {fa fb : EFr T} (ho : SO r w) (ha : SEr k f ta fa) (hb : SEr k f tb fb) : SEr k f (tOp r ta tb) (rOp w fa fb) := by
  intro fx H0 env σ H v R st hh rr st' hr Q q
  unfold rOp at hr
  obtain ⟨⟨x, s1⟩, ex, hr⟩ := Option.bind_eq_some_iff.mp hr
  obtain ⟨⟨y, s2⟩, ey, hr⟩ := Option.bind_eq_some_iff.mp hr
  obtain ⟨⟨d, fr⟩, ez, hr⟩ := Option.bind_eq_some_iff.mp hr
  cases hr
  refine ha fx H0 env σ H v R st hh x s1 ex _ fun u H1 m1 k1 v1 => hb fx H0 env σ H1 v R s1 k1 y s2 ey _ fun u2 H2 m2 k2 v2 => ?_
  have l1 : ∀ b, lim fx env σ (x.bs ++ y.bs) b → lim fx env σ x.bs b := zlv fun i hi => List.mem_append_left _ hi
  have l2 : ∀ b, lim fx env σ (x.bs ++ y.bs) b → lim fx env σ y.bs b := zlv fun i hi => List.mem_append_right _ hi
  have v1' := hh.val m2 (k.live hh.th) v1
  refine ho (lim fx env σ (x.bs ++ y.bs)) H2 u u2 x.d y.d (k2.ok.lims _) (v1'.later (Same.refl _) (Same.refl _) l1).rp (v2.later (Same.refl _) (Same.refl _) l2).rp d fr ez _ fun z H3 s3 rp fr3 => q z H3 ((m1.trans m2).trans (MvR.same s3)) (k2.up s3) ⟨znm rp, fun e => ?_⟩
  obtain ⟨a, g1, g2, g3⟩ := fr3 e
  refine ⟨a, g1, (m1.trans m2).free g2, ?_⟩
  show zgs (Offs (fun b => lim fx env σ (bsOf d (x.bs ++ y.bs)) b ∨ b = a) H3) H3 a d
  rw [show bsOf d (x.bs ++ y.bs) = x.bs ++ y.bs by unfold bsOf; rw [if_neg (by rw [zamx g3]; decide)]]
  exact g3
noncomputable def rCB (g : GF) (a : AFr T) : EFr T := fun env st => (a env st).bind fun x => (g (zio x.1)).bind fun z => some (⟨z.1, z.2, bsOf z.1 (bss x.1)⟩, x.2)
theorem zalb {r : List V → Hp → VK → Prop} {g : GF} {ta : TA} {a : AFr T} (hc : SC r g) (ha : SAr k f ta a) : SEr k f (tCB r ta) (rCB g a) := by
  intro fx H0 env σ H v R st hh rr st' hr Q q
  unfold rCB at hr
  obtain ⟨⟨rs, s1⟩, er, hr⟩ := Option.bind_eq_some_iff.mp hr
  obtain ⟨⟨d, fr⟩, ez, hr⟩ := Option.bind_eq_some_iff.mp hr
  cases hr
  refine ha fx H0 env σ H v R st hh rs s1 er _ fun vs H1 m1 k1 v1 => ?_
  refine hc (lim fx env σ (bss rs)) H1 vs (zio rs) (k1.ok.lims _) (zie (fun i hi => hi) v1) d fr ez _ fun w H3 s3 rp fr3 => q w H3 (m1.trans (MvR.same s3)) (k1.up s3) ⟨znm rp, fun e => ?_⟩
  obtain ⟨a, g1, g2, g3⟩ := fr3 e
  refine ⟨a, g1, m1.free g2, ?_⟩
  show zgs (Offs (fun b => lim fx env σ (bsOf d (bss rs)) b ∨ b = a) H3) H3 a d
  rw [show bsOf d (bss rs) = bss rs by unfold bsOf; rw [if_neg (by rw [zamx g3]; decide)]]
  exact g3
noncomputable def rTup (a : AFr T) : EFr T := fun env st => (a env st).bind fun x => if x.1.length ≤ 100000 then some (⟨.tuple (zio x.1), false, bss x.1⟩, x.2) else none
theorem zamy {ta : TA} {a : AFr T} (ha : SAr k f ta a) : SEr k f (tTup ta) (rTup a) := by
  intro fx H0 env σ H v R st hh rr st' hr Q q
  unfold rTup at hr
  obtain ⟨⟨rs, s1⟩, er, hr⟩ := Option.bind_eq_some_iff.mp hr
  split at hr
  · rename_i hl
    cases hr
    refine ha fx H0 env σ H v R st hh rs s1 er _ fun vs H1 m1 k1 v1 => ?_
    have r := zie (fun i hi => hi) v1
    have hA := k1.ok.lims (bss rs)
    exact ⟨zez (by rw [← r.length, zkh]; exact hl), fun p hp => q _ _ (m1.trans (MvR.same (Same.new hp))) (k1.up (Same.new hp)) ⟨zno hp (zfa hA hp) r, fun z => by cases z⟩⟩
  · cases hr
end
end L2
namespace L2
open PySem PySem.Spec PyProof.Rows
end L2
namespace L2
open PySem PySem.Spec PyProof.Rows
section
variable {J : Nat → Prop} {f : Nat}
end
section
variable {J : Nat → Prop}
end
end L2
namespace L2
open PySem PySem.Spec PyProof.Rows
section
variable {T : Type} {k : Kind T} {f : Nat}
noncomputable def znx (c : TF) : TFr T := fun env st => (c env).map fun b => (b, st)
theorem zmp {tt : TT} {c : TF} (h : ST tt c) : STr k f tt (znx c) := by
  intro fx H0 env σ H v R st hh b st' e Q q
  obtain ⟨b', er, e⟩ := Option.map_eq_some_iff.mp e
  cases e
  exact h fx H0 env σ H hh.ok b er Q fun H' s => q H' (MvR.same s) (hh.up s)
noncomputable def qAnd (a b : TFr T) : TFr T := fun env st => (a env st).bind fun x => if x.1 = true then b env x.2 else some (false, x.2)
theorem zamz {t u : TT} {a b : TFr T} (h : STr k f t a) (h2 : STr k f u b) : STr k f (tAnd t u) (qAnd a b) := by
  intro fx H0 env σ H v R st hh b' st' e Q q
  unfold qAnd at e
  obtain ⟨⟨c, s1⟩, er, e⟩ := Option.bind_eq_some_iff.mp e
  refine h fx H0 env σ H v R st hh c s1 er _ fun H' m k1 => ?_
  cases c with
  | true => exact iteT (h2 fx H0 env σ H' v R s1 k1 b' st' e _ fun H'' m' k2 => q H'' (m.trans m') k2)
  | false => cases e; exact iteF (q H' m k1)
noncomputable def qB (g : EFr T) : TFr T := fun env st => (g env st).bind fun x => match x.1.d with
  | .bool b => some (b, x.2)
  | _ => none
theorem zana {te : TE} {g : EFr T} (h : SEr k f te g) : STr k f (tTest te) (qB g) := by
  intro fx H0 env σ H v R st hh b st' e Q q
  unfold qB at e
  obtain ⟨⟨r, s1⟩, er, e⟩ := Option.bind_eq_some_iff.mp e
  obtain ⟨d, fr, bs⟩ := r
  cases d with
  | bool b' =>
    cases e
    exact h fx H0 env σ H v R st hh _ _ er _ fun w H' m k1 hv => ⟨_, zke hv.rp, q H' m k1⟩
  | _ => cases e
end
inductive OutR (T : Type) where
  | nx (env : DEnv) (st : T)
  | bk (env : DEnv) (st : T)
  | ct (env : DEnv) (st : T)
  | rt (d : PyData) (fr : Bool) (st : T)
noncomputable abbrev SFr (T : Type) := DEnv → T → Option (OutR T)
noncomputable def SatR {T : Type} (k : Kind T) (f : Nat) (fx : Addr → Prop) (H0 : Hp) (D : Ends) (v : V) (R : Addr → Prop) : OutR T → Prop
  | .nx env st => ∀ σ H, Has k f fx H0 env σ H v R st → D.nx σ H
  | .bk env st => ∀ σ H, Has k f fx H0 env σ H v R st → D.bk σ H
  | .ct env st => ∀ σ H, Has k f fx H0 env σ H v R st → D.ct σ H
  | .rt d fr st => ∀ w H, Same H0 H → (∀ b, fx b → ∃ o, H b = some o) → k.at_ H v R st → zwz fx H0 d fr w H → (fr = true → ∀ a, w = .ref a → ¬ R a) → D.rt w H
noncomputable def SSr {T : Type} (k : Kind T) (f : Nat) (ts : TS) (F : SFr T) : Prop := ∀ (fx : Addr → Prop) (H0 : Hp) (env : DEnv) (σ : St) (H : Hp) (v : V) (R : Addr → Prop) (st : T) (D : Ends), Has k f fx H0 env σ H v R st → ∀ o, F env st = some o → SatR k f fx H0 D v R o → ts D σ H
section
variable {T : Type} {k : Kind T} {f : Nat} {fx : Addr → Prop} {H0 : Hp} {env : DEnv} {σ : St} {H H' : Hp} {v : V} {R : Addr → Prop} {st st' : T}
theorem Has.notOwn (h : Has k f fx H0 env σ H v R st) {b : Addr} (hb : R b) : ¬ own env σ b := fun ⟨i, d, h1, h2⟩ => by
  obtain ⟨a, g1, g2, g3, g4⟩ := h.ok.ac i d h1
  rw [h2] at g1
  cases g1
  exact g3 (h.off _ hb)
noncomputable abbrev flr (env : DEnv) (σ : St) (R : Addr → Prop) (H : Hp) : Hp := Offs (fun b => own env σ b ∨ R b) H
theorem Has.rebase (h : Has k f fx H0 env σ H v R st) : Has k f fx (flr env σ R H) env σ H v R st := by
  refine ⟨⟨h.ok.len, h.ok.pl, fun i d e => ?_, h.ok.inj, Offs.same _ _, h.ok.fxs⟩, h.no, h.sl, h.th, h.off, fun b hb => Offs.out (.inr hb)⟩
  obtain ⟨a, h1, h2, h3, h4⟩ := h.ok.ac i d e
  exact ⟨a, h1, Offs.out (.inl ⟨i, d, e, h1⟩), h3, h4⟩
theorem Has.floor (h : Has k f fx H0 env σ H v R st) : Same H0 (flr env σ R H) := fun b o e => by
  show Offs (fun b => own env σ b ∨ R b) H b = some o
  rw [Offs.get]
  · exact h.ok.base b o e
  · rintro (⟨i, d, h1, h2⟩ | z)
    · obtain ⟨a, g1, g2, g3, g4⟩ := h.ok.ac i d h1
      rw [h2] at g1
      cases g1
      rw [g2] at e; cases e
    · rw [h.low b z] at e; cases e
theorem Has.unbase {F : Hp} (h : Has k f fx F env σ H v R st) (s : Same H0 F) : Has k f fx H0 env σ H v R st := ⟨h.ok.unbase s, h.no, h.sl, h.th, h.off, fun b hb => s.free (h.low b hb)⟩
theorem Has.seen {env' : DEnv} {σ' : St} (h : Has k f fx H0 env σ H v R st) (h' : Has k f fx (flr env σ R H) env' σ' H' v R st') : Same (Offs (fun b => fx b ∨ own env σ b) H) (Offs (fun b => fx b ∨ own env' σ' b) H') := fun b o e => by
  obtain ⟨n, e⟩ := Offs.of e
  have hF : flr env σ R H b = some o := by
    show Offs (fun b => own env σ b ∨ R b) H b = some o
    rw [Offs.get]
    · exact e
    · rintro (z | z)
      · exact n (.inr z)
      · exact n (.inl (h.off b z))
  rw [Offs.get]
  · exact h'.ok.base b o hF
  · rintro (z | ⟨i, d, h1, h2⟩)
    · exact n (.inl z)
    · obtain ⟨a, g1, g2, g3, g4⟩ := h'.ok.ac i d h1
      rw [h2] at g1
      cases g1
      rw [g2] at hF; cases hF
theorem zanb {env : DEnv} {i j : Nat} (h : env[j]? = some .no) : (frz1 env i)[j]? = some .no := by
  unfold frz1
  split
  · rename_i d e
    rw [List.getElem?_set_ne fun z => by subst z; rw [h] at e; cases e]
    exact h
  · exact h
theorem zra : ∀ (bs : List Nat) {env : DEnv} {j : Nat}, env[j]? = some .no → (frzs env bs)[j]? = some .no
  | [], _, _, h => h
  | i :: bs, _, _, h => zra bs (zanb h)
theorem zanc {r : Val} {i : Nat} (h : env[f]? = some .no) (hi : i ≠ f) : (putV env i r)[f]? = some .no := by
  unfold putV
  rw [List.getElem?_set_ne hi]
  exact zra _ h
theorem Has.put (hh : Has k f fx H0 env σ H v R st) (m : MvR R H H') (k1 : Has k f fx H0 env σ H' v R st') {r : Val} {w : V} (hv : ValOk (lim fx env σ r.bs) H H' r w) {i : Nat} (hi : i ≠ f) : Has k f fx H0 (putV env i r) (σ.set i (some w)) H' v R st' := by
  classical
  let H1 : Hp := fun b => if R b then H b else H' b
  have hR : ∀ b, R b → H1 b = H b := fun b z => if_pos z
  have hN : ∀ b, ¬ R b → H1 b = H' b := fun b z => if_neg z
  have s1 : Same H H1 := fun b o e => by
    by_cases z : R b
    · rw [hR b z]; exact e
    · rw [hN b z]; exact m.keep b o z e
  have nl : ∀ b, ¬ lim fx env σ r.bs b → ¬ R b := fun b n z => n (.inl (hh.off b z))
  have v1 : ValOk (lim fx env σ r.bs) H H1 r w := by
    refine ⟨Rp.same (fun b o e => ?_) _ hv.rp, fun e => ?_⟩
    · obtain ⟨n, e⟩ := Offs.of e
      rw [Offs.get n, hN b (nl b n)]; exact e
    · obtain ⟨a, g1, g2, g3⟩ := hv.fr e
      have na : ¬ R a := fun z => by obtain ⟨o, eo⟩ := k.live hh.th a z; rw [g2] at eo; cases eo
      refine ⟨a, g1, g2, g3.same (fun b o e => ?_) fun o e => by rw [hN a na]; exact e⟩
      obtain ⟨n, e⟩ := Offs.of e
      rw [Offs.get n, hN b (nl b fun z => n (.inl z))]; exact e
  have ok1 := hh.ok.put s1 v1 i
  have sl : (σ.set i (some w))[f]? = some (some v) := by rw [List.getElem?_set_ne hi]; exact hh.sl
  have h1 : Has k f fx H0 (putV env i r) (σ.set i (some w)) H1 v R st := ⟨ok1, zanc hh.no hi, sl, k.stay hh.th fun b o z e => by rw [hR b z]; exact e, hh.off, hh.low⟩
  refine h1.mv ⟨fun b o z e => by rw [hN b z] at e; exact e, fun b o e => ?_⟩ k1.th
  by_cases z : R b
  · exact k.live k1.th b z
  · rw [hN b z] at e; exact ⟨o, e⟩
end
end L2
namespace L2
open PySem PySem.Spec PyProof.Rows
section
variable {T : Type} {k : Kind T} {f : Nat}
noncomputable def rS (f : Nat) (F : SF) : SFr T := fun env st => (F env).bind fun o => match o with
  | .nx e => (match e[f]? with | some .no => some (.nx e st) | _ => none)
  | .bk e => (match e[f]? with | some .no => some (.bk e st) | _ => none)
  | .ct e => (match e[f]? with | some .no => some (.ct e st) | _ => none)
  | .rt d fr => some (.rt d fr st)
theorem zxg {ts : TS} {F : SF} (h : SSk (fun j => j = f) ts F) : SSr k f ts (rS f F) := by
  intro fx H0 env σ H v R st D hh o e q
  unfold rS at e
  obtain ⟨o1, e1, e⟩ := Option.bind_eq_some_iff.mp e
  have fl := hh.ok.floor
  have st' : ∀ {env' : DEnv} {σ' : St} {H' : Hp}, EnvOk fx (Offs (own env σ) H) env' σ' H' → (∀ j, j = f → σ'[j]? = σ[j]?) → env'[f]? = some .no → Has k f fx H0 env' σ' H' v R st := fun {env' σ' H'} h' kp hn => ⟨h'.unbase fl, hn, (kp f rfl).trans hh.sl, k.stay hh.th fun b o hb eb => h'.base b o (by rw [Offs.get (hh.notOwn hb)]; exact eb), hh.off, hh.low⟩
  refine h fx _ env σ H _ hh.ok.rebase o1 e1 ?_
  cases o1 with
  | nx e2 =>
    dsimp only at e
    split at e
    · rename_i hn; cases e; exact fun σ' H' h' kp => q σ' H' (st' h' kp hn)
    · cases e
  | bk e2 =>
    dsimp only at e
    split at e
    · rename_i hn; cases e; exact fun σ' H' h' kp => q σ' H' (st' h' kp hn)
    · cases e
  | ct e2 =>
    dsimp only at e
    split at e
    · rename_i hn; cases e; exact fun σ' H' h' kp => q σ' H' (st' h' kp hn)
    · cases e
  | rt d fr =>
    cases e
    intro w H' s' rt
    have kp : ∀ b o, R b → H b = some o → H' b = some o := fun b o hb eb => s' b o (by rw [Offs.get (hh.notOwn hb)]; exact eb)
    have lv : ∀ b, fx b → ∃ o, H' b = some o := fun b hb => by
      obtain ⟨o, eo⟩ := hh.ok.fxs b hb
      have no : ¬ own env σ b := fun ⟨i, d, h1, h2⟩ => by
        obtain ⟨a, g1, g2, g3, g4⟩ := hh.ok.ac i d h1
        rw [h2] at g1
        cases g1
        exact g3 hb
      exact ⟨o, s' b o (by rw [Offs.get no]; exact eo)⟩
    refine q w H' (fl.trans s') lv (k.stay hh.th kp) (rt.unbase fl) fun hfr a ew hR => ?_
    obtain ⟨a', g1, g2, _⟩ := rt.2 hfr
    rw [ew] at g1
    cases g1
    obtain ⟨o, eo⟩ := k.live hh.th a hR
    rw [Offs.get (hh.notOwn hR), eo] at g2; cases g2
noncomputable def rSeq (a b : SFr T) : SFr T := fun env st => (a env st).bind fun o => match o with
  | .nx e s => b e s
  | o => some o
theorem zbh {t u : TS} {a b : SFr T} (h1 : SSr k f t a) (h2 : SSr k f u b) : SSr k f (tSeq t u) (rSeq a b) := by
  intro fx H0 env σ H v R st D hh o e q
  unfold rSeq at e
  obtain ⟨o1, e1, e⟩ := Option.bind_eq_some_iff.mp e
  refine h1 fx H0 env σ H v R st _ hh o1 e1 ?_
  cases o1 with
  | nx e2 s2 => exact fun σ' H' h' => h2 fx H0 e2 σ' H' v R s2 D h' o e q
  | bk e2 s2 => cases e; exact q
  | ct e2 s2 => cases e; exact q
  | rt d fr s2 => cases e; exact q
noncomputable def rSet (i : Nat) (g : EFr T) : SFr T := fun env st => (g env st).map fun x => .nx (putV env i x.1) x.2
theorem zck {te : TE} {g : EFr T} {i : Nat} (h1 : SEr k f te g) (hi : i ≠ f) : SSr k f (tAsg te (gName i)) (rSet i g) := by
  intro fx H0 env σ H v R st D hh o e q
  obtain ⟨⟨r, s1⟩, er, rfl⟩ := Option.map_eq_some_iff.mp e
  exact h1 fx H0 env σ H v R st hh r s1 er _ fun w H' m k1 hv => q _ H' (hh.put m k1 hv hi)
noncomputable def rIf (c : TFr T) (a b : SFr T) : SFr T := fun env st => (c env st).bind fun x => if x.1 = true then a env x.2 else b env x.2
theorem zrb {tc : TT} {t u : TS} {c : TFr T} {a b : SFr T} (hc : STr k f tc c) (h1 : SSr k f t a) (h2 : SSr k f u b) : SSr k f (tIfS tc t u) (rIf c a b) := by
  intro fx H0 env σ H v R st D hh o e q
  unfold rIf at e
  obtain ⟨⟨b', s1⟩, eb, e⟩ := Option.bind_eq_some_iff.mp e
  refine hc fx H0 env σ H v R st hh b' s1 eb _ fun H' m k1 => ?_
  cases b' with
  | true => exact iteT (h1 fx H0 env σ H' v R s1 D k1 o e q)
  | false => exact iteF (h2 fx H0 env σ H' v R s1 D k1 o e q)
noncomputable def rNx : SFr T := fun env st => some (.nx env st)
theorem zly : SSr k f tNext rNx := by
  intro fx H0 env σ H v R st D hh o e q
  cases e
  exact q σ H hh
noncomputable def rRet (g : EFr T) : SFr T := fun env st => (g env st).map fun x => .rt x.1.d x.1.fr x.2
theorem zvc {te : TE} {g : EFr T} (h1 : SEr k f te g) : SSr k f (tRet te) (rRet g) := by
  intro fx H0 env σ H v R st D hh o e q
  obtain ⟨⟨r, s1⟩, er, rfl⟩ := Option.map_eq_some_iff.mp e
  refine h1 fx H0 env σ H v R st hh r s1 er _ fun w H' m k1 hv => q w H' k1.ok.base k1.ok.fxs k1.th ⟨Rp.same (Offs.sub fun b z => .inl z) _ hv.rp, fun e => ?_⟩ fun hfr a ew hR => ?_
  · obtain ⟨a, g1, g2, g3⟩ := hv.fr e
    exact ⟨a, g1, hh.ok.base.free g2, g3.same (Offs.sub fun b y => y.imp .inl id) fun o z => z⟩
  · obtain ⟨a', g1, g2, _⟩ := hv.fr hfr
    rw [ew] at g1
    cases g1
    obtain ⟨o, eo⟩ := k.live hh.th a hR
    rw [g2] at eo; cases eo
noncomputable def rApp (i : Nat) (g : EFr T) : SFr T := fun env st => match env[i]? with
  | some (.ac (.list ds)) => (g env st).bind fun x => if ds.length < 100000 ∧ i ∉ x.1.bs then some (.nx ((frzs env x.1.bs).set i (.ac (.list (ds ++ [x.1.d])))) x.2) else none
  | _ => none
theorem zny {K : PySem.W.Frag} {i : Nat} {te : TE} {g : EFr T} (h1 : SEr k f te g) : SSr k f (tDrop (tBM K "list" zzf (tVar i) (tCons te tNil))) (rApp i g) := by
  intro fx H0 env σ H v R st D hh o e q
  unfold rApp at e
  split at e
  · rename_i ds ei
    obtain ⟨⟨r, s1⟩, er, e⟩ := Option.bind_eq_some_iff.mp e
    dsimp only at e
    split at e
    · rename_i hl
      cases e
      have hif : i ≠ f := fun z => by rw [z, hh.no] at ei; cases ei
      obtain ⟨a, g1, g2, g3, g4⟩ := hh.ok.ac i _ ei
      obtain ⟨xs0, hx0, _⟩ := g4
      refine ⟨_, g1, .inl ⟨rfl, _, SqL.of hx0⟩, h1 fx H0 env σ H v R st hh r s1 er _ fun w H' m k1 hv => ?_⟩
      have h' := k1.ok.frzs r.bs
      have ei' := zhb hl.2 ei
      obtain ⟨a', z1, _, z3, z4⟩ := h'.ac i _ ei'
      rw [g1] at z1
      cases z1
      obtain ⟨xs, hx', rx'⟩ := z4
      refine ⟨a, xs, w, rfl, rfl, hx', znn (by rw [← rx'.length]; exact hl.1), ?_⟩
      refine q σ _ ⟨h'.mut ei' g1 ⟨_, zaw, rx'.append (zdw (Rp.same (Offs.sub zej) _ hv.rp) zde)⟩, ?_, hh.sl, k.stay k1.th fun b o hb eb => ?_, hh.off, hh.low⟩
      · rw [List.getElem?_set_ne hif]; exact zra _ hh.no
      · rw [zbc fun z => g3 (by rw [← z]; exact hh.off b hb)]; exact eb
    · cases e
  · cases e
noncomputable abbrev IFr (T : Type) := DEnv → T → Option (List PyData × List Nat × T)
noncomputable def SIr (k : Kind T) (f : Nat) (wi : TI) (g : IFr T) : Prop := ∀ (fx : Addr → Prop) (H0 : Hp) (env : DEnv) (σ : St) (H : Hp) (v : V) (R : Addr → Prop) (st : T), Has k f fx H0 env σ H v R st → ∀ ds bs st', g env st = some (ds, bs, st') → ∀ Rk : It → Hp → Prop,
  (∀ J H1, MvR R H H1 → Has k f fx H0 env σ H1 v R st' → Yl (fun b => fx b ∨ own (frzs env bs) σ b) H1 J ds → Rk J H1) → wi σ H Rk
noncomputable def rIP (g : IF') : IFr T := fun env st => (g env).map fun z => (z.1, z.2, st)
theorem zabv {wi : TI} {g : IF'} (h : SI wi g) : SIr k f wi (rIP g) := by
  intro fx H0 env σ H v R st hh ds bs st' e Rk q
  obtain ⟨⟨d1, b1⟩, er, e⟩ := Option.map_eq_some_iff.mp e
  cases e
  exact h fx H0 env σ H hh.ok _ _ er Rk fun J H1 s y => q J H1 (MvR.same s) (hh.up s) y
noncomputable def zvd (g : GT) (body : SFr T) : List PyData → DEnv → T → Option (OutR T)
  | [], env, st => some (.nx env st)
  | d :: ds, env, st => (g d env).bind fun e1 => (body e1 st).bind fun o => match o with
    | .nx e2 s2 => zvd g body ds e2 s2
    | .ct e2 s2 => zvd g body ds e2 s2
    | .bk e2 s2 => some (.nx e2 s2)
    | .rt d fr s2 => some (.rt d fr s2)
noncomputable def rFor (it : IFr T) (g : GT) (body : SFr T) : SFr T := fun env st => (it env st).bind fun z => zvd g body z.1 (frzs env z.2.1) z.2.2
noncomputable def GTno (f : Nat) (g : GT) : Prop := ∀ d env env', g d env = some env' → env[f]? = some .no → env'[f]? = some .no
theorem zmq {i : Nat} (h : i ≠ f) : GTno f (gN i) := fun d env env' e hn => by
  cases e
  rw [List.getElem?_set_ne h]; exact hn
theorem zrc {wi : TI} {g : TG} {tb : TS} {it : IFr T} {gf : GT} {body : SFr T} (h1 : SIr k f wi it) (h2 : SGk (fun j => j = f) g gf) (h2n : GTno f gf) (h3 : SSr k f tb body) : SSr k f (tFor wi g tb) (rFor it gf body) := by
  intro fx H0 env σ H v R st D hh o e q
  unfold rFor at e
  obtain ⟨⟨ds, bs, s0⟩, er, e⟩ := Option.bind_eq_some_iff.mp e
  refine h1 fx H0 env σ H v R st hh ds bs s0 er _ fun J H1 m0 k0 yl => ?_
  have hE : Has k f fx H0 (frzs env bs) σ H1 v R s0 := ⟨k0.ok.frzs bs, zra _ k0.no, k0.sl, k0.th, k0.off, k0.low⟩
  have fl := hE.floor
  refine ⟨fun i n σ' H' => n = ds.length - i ∧ i ≤ ds.length ∧ ∃ env' st', zvd gf body (ds.drop i) env' st' = some o ∧ Has k f fx (flr (frzs env bs) σ R H1) env' σ' H' v R st', ⟨ds.length, rfl, Nat.zero_le _, _, _, e, hE.rebase⟩, ?_⟩
  rintro i n σ' H' ⟨rfl, hi, env', st', e', h'⟩
  obtain ⟨yi, ys⟩ := yl _ H' h'.ok.all (hE.seen h')
  by_cases hlt : i < ds.length
  · obtain ⟨yg, yy⟩ := yi i ds[i] (List.getElem?_eq_getElem hlt)
    refine .inr ⟨yg, fun σ'' H'' => i + 1 ≤ ds.length ∧ ∃ env'' st'', zvd gf body (ds.drop (i + 1)) env'' st'' = some o ∧ Has k f fx (flr (frzs env bs) σ R H1) env'' σ'' H'' v R st'', ?_, ?_⟩
    · rintro σ'' H'' ⟨hle, env'', st'', e'', h''⟩
      exact ⟨ds.length - (i + 1), by omega, rfl, hle, env'', st'', e'', h''⟩
    · intro x H'' hy
      obtain ⟨sy, ry⟩ := yy x H'' hy
      rw [List.drop_eq_getElem_cons hlt] at e'
      obtain ⟨e1, ee1, e'⟩ := Option.bind_eq_some_iff.mp e'
      obtain ⟨o1, eo1, e'⟩ := Option.bind_eq_some_iff.mp e'
      have hu := h'.up sy
      refine h2 fx _ env' σ' H'' _ x hu.ok ry e1 ee1 _ fun σ2 h2' k2 => h3 fx _ e1 σ2 H'' v R st' _ ⟨h2', h2n _ _ _ ee1 hu.no, (k2 f rfl).trans hu.sl, hu.th, hu.off, hu.low⟩ o1 eo1 ?_
      cases o1 with
      | nx e2 s2 => exact fun σ3 H3 hq => ⟨hlt, e2, s2, e', hq⟩
      | ct e2 s2 => exact fun σ3 H3 hq => ⟨hlt, e2, s2, e', hq⟩
      | bk e2 s2 => cases e'; exact fun σ3 H3 hq => q σ3 H3 (hq.unbase fl)
      | rt d fr s2 => cases e'; exact fun w H3 sh l t rt nr => q w H3 (fl.trans sh) l t (rt.unbase fl) nr
  · have hi' : i = ds.length := by omega
    subst hi'
    rw [List.drop_length] at e'
    cases e'
    exact .inl ⟨ys, q σ' H' (h'.unbase fl)⟩
end
end L2
namespace L2
open PySem PySem.Spec PyProof.Rows
noncomputable abbrev GR (T : Type) := List PyData → T → Option (PyData × Bool × T)
noncomputable def spR {T : Type} (k : Kind T) (n : Nat) (g : GR T) : Sp := fun vs H Q _ => ∃ (fx : Addr → Prop) (v : V) (vs' : List V) (ds : List PyData) (R : Addr → Prop) (st : T) (d : PyData) (fr : Bool) (st' : T), vs = v :: vs' ∧ ds.length + 1 = n ∧ (∀ b, fx b → ∃ o, H b = some o) ∧ (∀ b, R b → fx b) ∧ k.at_ H v R st ∧ Rps (Offs fx H) ds vs' ∧ g ds st = some (d, fr, st') ∧
  ∀ w H', MvR R H H' → k.at_ H' v R st' → zwz fx H d fr w H' → Q w H'
theorem zve {T : Type} {k : Kind T} {n : Nat} {g : GR T} {vs : List V} {H : Hp} {Q : VK} {E : XK} (h : spR k n g vs H Q E) : vs.length = n := by
  obtain ⟨fx, v, vs', ds, R, st, d, fr, st', rfl, hn, _, _, _, r, _⟩ := h
  rw [List.length_cons, ← r.length]; exact hn
section
variable {T : Type} {k : Kind T} {f : Nat}
noncomputable def zbo (n : Nat) (g : GR T) (a : AFr T) : EFr T := fun env st => (a env st).bind fun x => if x.1.length + 1 = n then (g (zio x.1) x.2).bind fun z => some (⟨z.1, z.2.1, bsOf z.1 (bss x.1)⟩, z.2.2) else none
theorem zcd {n : Nat} {g : GR T} {ta : TA} {a : AFr T} (ha : SAr k f ta a) : SEr k f (tCall (spR k n g) [] E0 (tCons (tVar f) ta)) (zbo n g a) := by
  intro fx H0 env σ H v R st hh rr st' hr Q q
  unfold zbo at hr
  obtain ⟨⟨rs, s1⟩, er, hr⟩ := Option.bind_eq_some_iff.mp hr
  split at hr
  · rename_i hn
    obtain ⟨⟨d, fr, s2⟩, ez, hr⟩ := Option.bind_eq_some_iff.mp hr
    cases hr
    refine ⟨v, hh.sl, ha fx H0 env σ H v R st hh rs s1 er _ fun vs H1 m1 k1 v1 => ?_⟩
    show spR k n g ((v :: vs) ++ []) H1 Q E0
    rw [List.append_nil]
    refine ⟨lim fx env σ (bss rs), v, vs, zio rs, R, s1, d, fr, _, rfl, by rw [zkh]; exact hn, k1.ok.lims _, fun b hb => .inl (hh.off b hb), k1.th, zie (fun i hi => hi) v1, ez, fun w H3 m3 t3 ⟨rp, fr3⟩ => q w H3 (m1.trans m3) (k1.mv m3 t3) ⟨znm rp, fun e => ?_⟩⟩
    obtain ⟨a, g1, g2, g3⟩ := fr3 e
    refine ⟨a, g1, m1.free g2, ?_⟩
    show zgs (Offs (fun b => lim fx env σ (bsOf d (bss rs)) b ∨ b = a) H3) H3 a d
    rw [show bsOf d (bss rs) = bss rs by unfold bsOf; rw [if_neg (by rw [zamx g3]; decide)]]
    exact g3
  · cases hr
noncomputable def zrd (n : Nat) (ds : List PyData) : DEnv := .no :: zjp (n - 1) ds
noncomputable def fnR (n : Nat) (F : SFr T) : GR T := fun ds st => match F (zrd n ds) st with
  | some (.rt d fr s) => some (d, fr, s)
  | some (.nx _ s) => some (.none, false, s)
  | _ => none
theorem zxh {fx : Addr → Prop} {H : Hp} {N : List Str} {v : V} {ds : List PyData} {vs : List V} {R : Addr → Prop} {st : T} (hN : 0 < N.length) (hf : ∀ b, fx b → ∃ o, H b = some o) (hR : ∀ b, R b → fx b) (t : k.at_ H v R st) (r : Rps (Offs fx H) ds vs) :
    Has k 0 fx (Offs R H) (zrd N.length ds) (zhs N (v :: vs)) H v R st := by
  obtain ⟨x, N', rfl⟩ : ∃ x N', N = x :: N' := by
    cases N with
    | nil => cases hN
    | cons x N' => exact ⟨x, N', rfl⟩
  have e0 := zqq (N := N') hf r
  have es : zhs (x :: N') (v :: vs) = some v :: zhs N' vs := by
    unfold zhs
    rw [List.map_cons, List.cons_append]
    congr 3
    simp
  have no : ∀ (i : Nat) (d : PyData), (zrd (x :: N').length ds)[i]? ≠ some (Sl.ac d) := fun i d e => by
    cases i with
    | zero => cases e
    | succ i =>
      have e : (zjp N'.length ds)[i]? = some (Sl.ac d) := e
      rcases zqp e with ⟨d', _, z⟩ | z <;> cases z
  have ow : ∀ b, ¬ own (zrd (x :: N').length ds) (zhs (x :: N') (v :: vs)) b := fun b ⟨i, d, h1, _⟩ => no i d h1
  rw [es] at ow ⊢
  refine ⟨⟨?_, fun i d e => ?_, fun i d e => absurd e (no i d), fun i j d e a h1 => absurd h1 (no i d), Offs.same _ _, hf⟩, rfl, rfl, t, hR, fun b hb => Offs.out hb⟩
  · show (zjp N'.length ds).length + 1 = (zhs N' vs).length + 1
    rw [e0.len]
  · cases i with
    | zero => cases e
    | succ i =>
      obtain ⟨u, h1, h2⟩ := e0.pl i d e
      exact ⟨u, h1, Rp.same (Offs.sub fun b z => z.elim .inl fun y => absurd y (ow b)) _ h2⟩
theorem fn_r {N : List Str} {n : Nat} {F : SFr T} {t : TS} (hN : 0 < N.length) (hs : SSr k 0 t F) {vs : List V} {H : Hp} {Q : VK} {E : XK} (h : spR k n (fnR N.length F) vs H Q E) : t { nx := fun _ H' => Q .non H', rt := Q } (zhs N vs) H := by
  obtain ⟨fx, v, vs', ds, R, st, d, fr, st', rfl, hn, hf, hR, ht, r, g, q⟩ := h
  have hh := zxh (N := N) (k := k) hN hf hR ht r
  have mv : ∀ {H' : Hp}, Same (Offs R H) H' → (∀ b, fx b → ∃ o, H' b = some o) → MvR R H H' := fun {H'} s l => ⟨fun b o nb e => s b o (by rw [Offs.get nb]; exact e), fun b o e => by
    by_cases z : R b
    · exact l b (hR b z)
    · exact ⟨o, s b o (by rw [Offs.get z]; exact e)⟩⟩
  unfold fnR at g
  split at g
  · rename_i d' fr' s' eo
    cases g
    refine hs fx _ _ _ H v R st _ hh _ eo fun w H' s l t rt nr => q w H' (mv s l) t ⟨rt.1, fun e => ?_⟩
    obtain ⟨a, g1, g2, g3⟩ := rt.2 e
    refine ⟨a, g1, ?_, g3⟩
    rw [Offs.get (nr e a g1)] at g2
    exact g2
  · rename_i e' s' eo
    cases g
    exact hs fx _ _ _ H v R st _ hh _ eo fun σ H' h' => q .non H' (mv h'.ok.base h'.ok.fxs) h'.th ⟨zta, fun z => by cases z⟩
  · cases g
noncomputable def zfz (a : AFr T) : IFr T := fun env st => (a env st).bind fun x => match x.1 with
  | [⟨.int j, _, _⟩] => if -(2 ^ 62) ≤ j ∧ j < 2 ^ 62 then some (zos 0 j.toNat, [], x.2) else none
  | _ => none
theorem znz {ta : TA} {a : AFr T} (h1 : SAr k f ta a) : SIr k f (iRng1 ta) (zfz a) := by
  intro fx H0 env σ H v R st hh ds bs st' e Rk q
  unfold zfz at e
  obtain ⟨⟨rs, s1⟩, er, e⟩ := Option.bind_eq_some_iff.mp e
  dsimp only at e
  split at e
  · split at e
    · rename_i hj
      cases e
      refine h1 fx H0 env σ H v R st hh _ _ er _ fun vs H1 m k1 hv => ?_
      cases hv with
      | cons hv t =>
        cases t
        cases zdr hv.rp
        exact ⟨_, rfl, hj.1, hj.2, q _ H1 m k1 zabo⟩
    · cases e
  · cases e
end
end L2
namespace L2
open PySem PySem.Spec PyProof.Rows
end L2
namespace L2
open PySem PySem.Spec PyProof.Rows
section
variable {f : Nat}
end
end L2
namespace L2
open PySem PySem.Spec PyProof.Rows
section
variable {J : Nat → Prop} {f : Nat}
noncomputable def SGks (J : Nat → Prop) (g : TGs) (f : GTs) : Prop := ∀ (fx : Addr → Prop) (H0 : Hp) (env : DEnv) (σ : St) (H : Hp) (ds : List PyData) (vs : List V), EnvOk fx H0 env σ H → Rps (Offs (fun a => fx a ∨ own env σ a) H) ds vs → ∀ env', f ds env = some env' → ∀ Q : St → Hp → Prop,
  (∀ σ', EnvOk fx H0 env' σ' H → (∀ j, J j → σ'[j]? = σ[j]?) → Q σ' H) → g vs σ H Q
theorem zajl : SGks J gNil zea := by
  intro fx H0 env σ H ds vs h r env' e Q q
  cases ds with
  | nil => cases e; unfold Rps at r; exact ⟨r, q _ h fun _ _ => rfl⟩
  | cons _ _ => cases e
theorem zxi {i : Nat} {t : TGs} {g : GTs} (hJ : ¬ J i) (h1 : SGks J t g) : SGks J (gCons (gName i) t) (zau i g) := by
  intro fx H0 env σ H ds vs h r env' e Q q
  cases ds with
  | nil => cases e
  | cons d ds =>
    unfold Rps at r
    obtain ⟨v, ws, rfl, r1, r2⟩ := r
    refine ⟨v, ws, rfl, h1 fx H0 (env.set i (.pl d)) _ H ds ws (h.setPl i r1) (Rps.same (Offs.sub fun b z => z.imp (fun y => y) (zzq b)) _ r2) env' e Q fun σ' k1 k2 => q σ' k1 fun j hj => (k2 j hj).trans (List.getElem?_set_ne fun z => hJ (by rw [z]; exact hj))⟩
theorem zand {K : PySem.W.Frag} {n : Nat} {t : TGs} {g : GTs} (h1 : SGks J t g) : SGk J (gTup K n t) (gT n g) := by
  intro fx H0 env σ H d v h r env' e Q q
  unfold gT at e
  cases d with
  | tuple ds =>
    have e : (if ds.length = n then g ds env else none) = some env' := e
    split at e
    · rename_i hn
      obtain ⟨a, xs, rfl, ha, rs⟩ := zdv r
      exact ⟨a, xs, rfl, SqT.of (zds ha), by rw [← rs.length]; exact hn, h1 fx H0 env σ H ds xs h rs env' e Q q⟩
    · cases e
  | _ => cases e
end
end L2
namespace L2
open PySem PySem.Spec PyProof.Rows
section
variable {own : List Str} {fr : List Nat} {f k : Nat} {env : DEnv}
end
end L2
namespace L2
open PySem PySem.Spec PyProof.Rows
section
variable {T : Type} {k : Kind T} {f : Nat}
noncomputable def zki (g : GT) (t : TF) (e : EFr T) (env : DEnv) : List PyData → T → Option (List PyData × T)
  | [], st => some ([], st)
  | d :: ds, st => (g d env).bind fun e1 => (t e1).bind fun b => if b = true then (e e1 st).bind fun x => (zki g t e env ds x.2).map fun y => (x.1.d :: y.1, y.2) else zki g t e env ds st
noncomputable def zage (own : List Str) (fr : List Nat) (it : IFr T) (g : GT) (t : TF) (e : EFr T) : EFr T := fun env st => (it env st).bind fun z => if z.1.length < 100000 then
  (zki g t e (envB own fr env) z.1 z.2.2).map fun y => (⟨.list y.1, true, if zfe y.1 = true then [] else z.2.1 ++ capA fr env⟩, y.2) else none
theorem zane {own : List Str} {fr : List Nat} {env : DEnv} {kk : Nat} (hk : fr[kk]? = some f) (hn : env[f]? = some .no) : (envB own fr env)[own.length + kk]? = some .no := by
  unfold envB
  rw [List.getElem?_append_right (by simp)]
  simp only [List.length_map, Nat.add_sub_cancel_left, List.getElem?_map, hk, Option.map_some]
  rw [List.getD_eq_getElem?_getD, hn]; rfl
theorem zajm {own : List Str} {fr : List Nat} {kk : Nat} {wi : TI} {g : TG} {tt : TT} {te : TE} {it : IFr T} {gf : GT} {t : TF} {e : EFr T} (hk : fr[kk]? = some f) (h1 : SIr k f wi it) (h2 : SGk (fun j => own.length ≤ j) g gf) (hx : GX own.length gf) (h3 : ST tt t) (h4 : SEr k (own.length + kk) te e) :
    SEr k f (tComp1 wi g tt te own fr) (zage own fr it gf t e) := by
  intro fx H0 env σ H v R st hh rr st' hr Q q
  unfold zage at hr
  obtain ⟨⟨ds, bs, s0⟩, ei, hr⟩ := Option.bind_eq_some_iff.mp hr
  split at hr
  · rename_i hlen
    have hlen : ds.length < 100000 := hlen
    obtain ⟨⟨rs, sE⟩, ers, hr⟩ := Option.map_eq_some_iff.mp hr
    cases hr
    refine h1 fx H0 env σ H v R st hh ds bs s0 ei _ fun J H1 m0 k0 yl => fun p hp => ?_
    have pR : ¬ R p := fun z => by obtain ⟨o, eo⟩ := k.live k0.th p z; rw [hp] at eo; cases eo
    have hB := zqr k0.ok (Same.refl H1) hp own fr bs
    generalize hA : (fun b => lim fx env σ (bs ++ capA fr env) b) = A
    have hA' : ∀ b, lim fx env σ (bs ++ capA fr env) b ↔ A b := fun b => by rw [← hA]
    have eA : (fun b => lim fx env σ (bs ++ capA fr env) b ∨ b = p) = fun b => A b ∨ b = p := by rw [← hA]
    rw [eA] at hB
    have RA : ∀ b, R b → A b ∨ b = p := fun b z => .inl ((hA' b).mp (.inl (hh.off b z)))
    have hB : Has k (own.length + kk) (fun b => A b ∨ b = p) (Offs R H1) (envB own fr env) (tau own fr σ) (upd H1 p (.lst [])) v R s0 := ⟨hB.unbase (Offs.same _ _), zane hk hh.no, zzr hk hh.sl, k.stay k0.th fun b o z eo => by rw [zbc fun y => pR (by rw [← y]; exact z)]; exact eo, RA, fun b z => Offs.out z⟩
    have nA : ¬ A p := fun z => by
      obtain ⟨o, eo⟩ := k0.ok.lims _ p ((hA' p).mpr z)
      rw [hp] at eo; cases eo
    have seen : ∀ {σ' : St} {H' : Hp} {s' : T}, Has k (own.length + kk) (fun b => A b ∨ b = p) (Offs R H1) (envB own fr env) σ' H' v R s' → Same (Offs (fun b => fx b ∨ L2.own (frzs env bs) σ b) H1) (Offs (fun b => A b ∨ b = p) H') := fun {σ' H' s'} hE b o eb => by
      obtain ⟨n, eb⟩ := Offs.of eb
      have hb : H' b = some o := hE.ok.base b o (by rw [Offs.get fun z => n (.inl (hh.off b z))]; exact eb)
      rw [Offs.get]
      · exact hb
      · rintro (z | z)
        · rcases (hA' b).mpr z with z | ⟨i, d, z1, z2, z3⟩
          · exact n (.inl z)
          · exact n (.inr ⟨i, d, zhb (fun y => z1 (List.mem_append_left _ y)) z2, z3⟩)
        · rw [z, hp] at eb; cases eb
    refine ⟨fun i m σ' H' => m = ds.length - i ∧ i ≤ ds.length ∧ ∃ vs done rest s', H' p = some (.lst vs) ∧ Rps (Offs (fun b => A b ∨ b = p) H') done vs ∧ done.length ≤ i ∧ zki gf t e (envB own fr env) (ds.drop i) s' = some (rest, sE) ∧ done ++ rest = rs ∧ Has k (own.length + kk) (fun b => A b ∨ b = p) (Offs R H1) (envB own fr env) σ' H' v R s',
      ⟨ds.length, rfl, Nat.zero_le _, [], [], rs, s0, zaw, zde, Nat.zero_le _, ers, rfl, hB⟩, ?_⟩
    rintro i m σ' H' ⟨rfl, hi, vs, done, rest, s', ep, rd, dl, ec, edr, hE⟩
    obtain ⟨yi, ys⟩ := yl _ H' hE.ok.fxs (seen hE)
    by_cases hlt : i < ds.length
    · obtain ⟨yg, yy⟩ := yi i ds[i] (List.getElem?_eq_getElem hlt)
      refine .inr ⟨yg, fun σ'' H'' => i + 1 ≤ ds.length ∧ ∃ vs done rest s'', H'' p = some (.lst vs) ∧ Rps (Offs (fun b => A b ∨ b = p) H'') done vs ∧ done.length ≤ i + 1 ∧ zki gf t e (envB own fr env) (ds.drop (i + 1)) s'' = some (rest, sE) ∧ done ++ rest = rs ∧ Has k (own.length + kk) (fun b => A b ∨ b = p) (Offs R H1) (envB own fr env) σ'' H'' v R s'', ?_, ?_⟩
      · rintro σ'' H'' ⟨hle, hq⟩
        exact ⟨ds.length - (i + 1), by omega, rfl, hle, hq⟩
      · intro x H'' hy
        obtain ⟨sy, ry⟩ := yy x H'' hy
        rw [List.drop_eq_getElem_cons hlt] at ec
        obtain ⟨e1, ee1, ec⟩ := Option.bind_eq_some_iff.mp ec
        obtain ⟨b, eb, ec⟩ := Option.bind_eq_some_iff.mp ec
        have ry' : Rp (Offs (fun a => (A a ∨ a = p) ∨ L2.own (envB own fr env) σ' a) H'') ds[i] x := Rp.same (Offs.sub fun b z => z.elim (fun y => y) fun ⟨j, d', z, _⟩ => absurd z zhw) _ ry
        have hU := hE.up sy
        obtain ⟨gl, gk⟩ := hx _ _ _ ee1
        refine h2 _ (Offs R H1) (envB own fr env) σ' H'' _ x hU.ok ry' e1 ee1 _ fun σ2 hE2 k2 => ?_
        refine h3 _ (Offs R H1) e1 σ2 H'' hE2 b eb _ fun H3 s3 => ?_
        have hE3 : Has k (own.length + kk) (fun b => A b ∨ b = p) (Offs R H1) e1 σ2 H3 v R s' := ⟨hE2.up s3, by rw [gk _ (by omega)]; exact hU.no, (k2 _ (by omega)).trans hU.sl, (hU.up s3).th, hU.off, hU.low⟩
        have back : ∀ {H4 : Hp} {s4 : T}, Has k (own.length + kk) (fun b => A b ∨ b = p) (Offs R H1) e1 σ2 H4 v R s4 → Has k (own.length + kk) (fun b => A b ∨ b = p) (Offs R H1) (envB own fr env) σ2 H4 v R s4 := fun {H4 s4} hq => ⟨hq.ok.weaken gl.symm (fun j d' ej => by
          by_cases hj : own.length ≤ j
          · rw [gk j hj]; exact ej
          · obtain ⟨_, k, rfl, _⟩ := zpu ej; omega) fun j d' => zhw, hU.no, hq.sl, hq.th, hq.off, hq.low⟩
        cases b with
        | false =>
          have ec : zki gf t e (envB own fr env) (ds.drop (i + 1)) s' = some (rest, sE) := ec
          exact iteF ⟨hlt, vs, done, rest, s', s3 _ _ (sy _ _ ep), Rps.same (Offs.grow (sy.trans s3)) _ rd, Nat.le_succ_of_le dl, ec, edr, back hE3⟩
        | true =>
          have ec : ((e e1 s').bind fun x => (zki gf t e (envB own fr env) (ds.drop (i + 1)) x.2).map fun y => (x.1.d :: y.1, y.2)) = some (rest, sE) := ec
          obtain ⟨⟨r, s4⟩, er, ec⟩ := Option.bind_eq_some_iff.mp ec
          obtain ⟨⟨rest', sE'⟩, er', ec⟩ := Option.map_eq_some_iff.mp ec
          cases ec
          refine iteT (h4 _ (Offs R H1) e1 σ2 H3 v R s' hE3 r s4 er _ fun w H4 m4 k4 hv => ?_)
          have t3 := sy.trans s3
          have ep4 : H4 p = some (.lst vs) := m4.keep p _ pR (t3 _ _ ep)
          have so : Same (Offs (fun b => A b ∨ b = p) H') (Offs (fun b => A b ∨ b = p) H4) := fun b o eb => by
            obtain ⟨n, eb⟩ := Offs.of eb
            rw [Offs.get n]
            exact m4.keep b o (fun z => n (RA b z)) (t3 _ _ eb)
          have k5 := back k4
          refine ⟨vs, ep4, znn (by rw [← rd.length]; omega), hlt, vs ++ [w], done ++ [r.d], rest', s4, zaw, ?_, by rw [List.length_append]; simp; omega, er', by rw [← edr]; simp, ⟨k5.ok.updFx (.inr rfl) (by rw [Offs.get pR]; exact hp), k5.no, k5.sl, k.stay k5.th fun b o z eo => by rw [zbc fun y => pR (by rw [← y]; exact z)]; exact eo, k5.off, k5.low⟩⟩
          rw [Offs.upd (.inr rfl)]
          exact (Rps.same so _ rd).append (zdw (Rp.same (Offs.sub fun b z => .inl z) _ hv.rp) zde)
    · have hi' : i = ds.length := by omega
      subst hi'
      rw [List.drop_length] at ec
      cases ec
      rw [List.append_nil] at edr
      subst edr
      have m1 : MvR R H1 H' := ⟨fun b o n eb => hE.ok.base b o (by rw [Offs.get n]; exact eb), fun b o eb => by
        by_cases z : R b
        · exact k.live hE.th b z
        · exact ⟨o, hE.ok.base b o (by rw [Offs.get z]; exact eb)⟩⟩
      refine .inl ⟨ys, q _ H' (m0.trans m1) (k0.mv m1 hE.th) ⟨?_, fun _ => ⟨p, rfl, m0.free hp, ?_⟩⟩⟩
      · show Rp (Offs (lim fx env σ (if zfe done = true then [] else bs ++ capA fr env)) H') (.list done) (.ref p)
        have nl : ∀ cs, ¬ lim fx env σ cs p := fun cs z => by
          obtain ⟨o, eo⟩ := k0.ok.lims _ p z
          rw [hp] at eo; cases eo
        refine zfd (by rw [Offs.get (nl _)]; exact ep) ?_
        split
        · rename_i f; exact zir f rd
        · exact Rps.same (Offs.sub fun b z => .inl ((hA' b).mp z)) _ rd
      · show zgs (Offs (fun b => lim fx env σ (if zfe done = true then [] else bs ++ capA fr env) b ∨ b = p) H') H' p (.list done)
        refine ⟨vs, ep, ?_⟩
        split
        · rename_i f; exact zir f rd
        · exact Rps.same (Offs.sub fun b z => z.elim (fun y => .inl ((hA' b).mp y)) .inr) _ rd
  · cases hr
end
end L2
namespace L2
open PySem PySem.Spec PyProof.Rows
structure Pen where
  cells : List Int
  acc : Int
  seed : Int
  cnt : Int
noncomputable def zajn (H : Hp) (v : V) (R : Addr → Prop) (st : Pen) : Prop := ∃ p q, v = .ref p ∧ p ≠ q ∧ H p = some (.lst [.ref q, .int st.acc, .int st.seed, .int st.cnt]) ∧ H q = some (.lst (st.cells.map .int)) ∧ ∀ b, R b ↔ b = p ∨ b = q
noncomputable def penK : Kind Pen where
  at_ := zajn
  live := fun {H v R st} ⟨p, q, _, _, hp, hq, hR⟩ b hb => by
    rcases (hR b).mp hb with rfl | rfl
    · exact ⟨_, hp⟩
    · exact ⟨_, hq⟩
  stay := fun {H H' v R st} ⟨p, q, e, ne, hp, hq, hR⟩ k => ⟨p, q, e, ne, k p _ ((hR p).mpr (.inl rfl)) hp, k q _ ((hR q).mpr (.inr rfl)) hq, hR⟩
noncomputable def Pen.get (st : Pen) : Nat → Option Int
  | 1 => some st.acc
  | 2 => some st.seed
  | 3 => some st.cnt
  | _ => none
noncomputable def Pen.set (st : Pen) : Nat → Int → Option Pen
  | 1, x => some { st with acc := x }
  | 2, x => some { st with seed := x }
  | 3, x => some { st with cnt := x }
  | _, _ => none
section
variable {f : Nat}
noncomputable def rGet (i : Nat) : EFr Pen := fun _ st => (st.get i).map fun x => (⟨.int x, false, []⟩, st)
theorem zjk {K : PySem.W.Frag} {i : Nat} : SEr penK f (tOp (rIxU K) (tVar f) (tC (.int (i : Int)))) (rGet i) := by
  intro fx H0 env σ H v R st hh r st' e Q q
  obtain ⟨x, ex, e⟩ := Option.map_eq_some_iff.mp e
  cases e
  obtain ⟨p, q', rfl, ne, hp, hq, hR⟩ := hh.th
  refine ⟨.ref p, hh.sl, [.ref q', .int st.acc, .int st.seed, .int st.cnt], .int x, .inl (SqL.of hp), ?_, q _ H (MvR.same (Same.refl _)) hh ⟨zag, fun z => by cases z⟩⟩
  unfold Pen.get at ex
  split at ex <;> cases ex <;> rfl
noncomputable def rPut (i : Nat) (g : EFr Pen) : SFr Pen := fun env st => (g env st).bind fun x => match x.1.d with
  | .int y => (x.2.set i y).map fun s => .nx env s
  | _ => none
theorem zagf {fx : Addr → Prop} {H0 : Hp} {env : DEnv} {σ : St} {H : Hp} {v : V} {R : Addr → Prop} {st : Pen} (hh : Has penK f fx H0 env σ H v R st) {p b : Addr} {o : HO} {st' : Pen} (hb : R b) (t : zajn (upd H b o) v R st') : Has penK f fx H0 env σ (upd H b o) v R st' :=
  hh.mv ⟨fun c u n e => by rw [zbc fun z => n (by rw [z]; exact hb)]; exact e, fun c u e => by
    by_cases z : c = b
    · rw [z]; exact ⟨_, zaw⟩
    · exact ⟨u, by rw [zbc z]; exact e⟩⟩ t
theorem zvf {i : Nat} {te : TE} {g : EFr Pen} (h1 : SEr penK f te g) : SSr penK f (tAsg te (gSub (tVar f) (tC (.int (i : Int))) zaia)) (rPut i g) := by
  intro fx H0 env σ H v R st D hh o e q
  unfold rPut at e
  obtain ⟨⟨⟨d, fr, bs⟩, s1⟩, er, e⟩ := Option.bind_eq_some_iff.mp e
  cases d with
  | int y =>
    obtain ⟨s2, es, rfl⟩ := Option.map_eq_some_iff.mp e
    refine h1 fx H0 env σ H v R st hh _ s1 er _ fun w H1 m1 k1 hv => ?_
    cases zdr hv.rp
    obtain ⟨p, q', rfl, ne, hp, hq, hR⟩ := k1.th
    have es : s1.set i y = some s2 := es
    have fin : ∀ j, ixN 4 (i : Int) = some j → zajn (upd H1 p (.lst ([.ref q', .int s1.acc, .int s1.seed, .int s1.cnt].set j (.int y)))) (.ref p) R s2 := fun j hj => by
      refine ⟨p, q', rfl, ne, ?_, ?_, hR⟩
      · rw [zaw]
        unfold Pen.set at es
        split at es
        · cases es; cases hj; rfl
        · cases es; cases hj; rfl
        · cases es; cases hj; rfl
        · cases es
      · rw [zbc ne.symm]
        unfold Pen.set at es
        split at es <;> cases es <;> exact hq
    obtain ⟨j, hj⟩ : ∃ j, ixN 4 (i : Int) = some j := by
      unfold Pen.set at es
      split at es
      · exact ⟨1, rfl⟩
      · exact ⟨2, rfl⟩
      · exact ⟨3, rfl⟩
      · cases es
    exact ⟨_, k1.sl, p, _, _, j, rfl, rfl, hp, hj, q _ _ (zagf (p := p) k1 ((hR p).mpr (.inl rfl)) (fin j hj))⟩
  | _ => cases e
noncomputable def zagg : EFr Pen := fun _ st => match st.cells with
  | [] => none
  | c :: cs => some (⟨.int c, false, []⟩, { st with cells := cs })
theorem zajo {K : PySem.W.Frag} : SEr penK f (tBM K "list" zakt (tOp (rIxU K) (tVar f) (tC (.int 0))) (tCons (tC (.int 0)) tNil)) zagg := by
  intro fx H0 env σ H v R st hh r st' e Q q
  unfold zagg at e
  split at e
  · cases e
  · rename_i c cs ec
    cases e
    obtain ⟨p, q', rfl, ne, hp, hq, hR⟩ := hh.th
    rw [ec] at hq
    have ht : zajn (upd H q' (.lst (cs.map .int))) (.ref p) R { st with cells := cs } := ⟨p, q', rfl, ne, by rw [zbc ne]; exact hp, zaw, hR⟩
    have k1 := zagf (p := p) hh ((hR q').mpr (.inr rfl)) ht
    refine ⟨.ref p, hh.sl, [.ref q', .int st.acc, .int st.seed, .int st.cnt], .ref q', .inl (SqL.of hp), rfl, .inl ⟨rfl, _, SqL.of hq⟩, q', (c :: cs).map .int, 0, 0, .int c, rfl, rfl, hq, by decide, by decide, ?_, rfl, q _ _ ⟨fun b o n e => by rw [zbc fun z => n (by rw [z]; exact (hR q').mpr (.inr rfl))]; exact e, fun b o e => ?_⟩ k1 ⟨zag, fun z => by cases z⟩⟩
    · show seqIndex? 0 ((c :: cs).map V.int).length = some 0
      rw [List.length_map, List.length_cons]
      unfold seqIndex?
      simp
    · by_cases z : b = q'
      · rw [z]; exact ⟨_, zaw⟩
      · exact ⟨o, by rw [zbc z]; exact e⟩
noncomputable def ztd : TFr Pen := fun _ st => if st.cells.length < 100000 then some (!st.cells.isEmpty, st) else none
theorem zagh : ∀ (cs : List Int), PyData.canLayAll0 (cs.map PyData.int) = true ∧ PyData.depthAll (cs.map PyData.int) = 0
  | [] => ⟨by simp [PyData.canLayAll0], by simp [PyData.depthAll]⟩
  | c :: cs => by
    obtain ⟨h1, h2⟩ := zagh cs
    rw [List.map_cons]
    unfold PyData.canLayAll0 PyData.depthAll
    rw [h1, h2]
    exact ⟨by simp [PyData.canLay0], by simp [PyData.depth]⟩
theorem zpx {H : Hp} : ∀ (cs : List Int), Rps H (cs.map .int) (cs.map .int)
  | [] => zde
  | c :: cs => zdw zag (zpx cs)
theorem zajp (cs : List Int) : neD (.list (cs.map .int)) (.list []) = some (.bool (!cs.isEmpty), false) := by
  obtain ⟨h1, h2⟩ := zagh cs
  have s1 : SeqAt.shaped (.list (cs.map .int)) = true := by
    unfold SeqAt.shaped PyData.canLay0 PyData.depth
    rw [h1, h2]; rfl
  have s2 : SeqAt.shaped (.list []) = true := by decide +kernel
  unfold neD
  rw [if_pos (by unfold eqOk; rw [s1, s2]; simp)]
  cases cs with
  | nil => rfl
  | cons c cs => simp [PyData.eqv, PyData.eqvAll]
theorem zagi {K : PySem.W.Frag} : STr penK f (tTest (tOp (fun x y H Q => rNe x y H Q ∨ rEqD K true x y H Q) (tOp (rIxU K) (tVar f) (tC (.int 0))) (tLst tNil))) ztd := by
  intro fx H0 env σ H v R st hh b st' e Q q
  unfold ztd at e
  split at e
  · cases e
    obtain ⟨p, q', rfl, ne, hp, hq, hR⟩ := id hh.th
    refine ⟨.ref p, hh.sl, [.ref q', .int st.acc, .int st.seed, .int st.cnt], .ref q', .inl (SqL.of hp), rfl, by show 0 ≤ _; exact zez (by decide), fun n hn => ?_⟩
    have sn : Same H (upd H n (.lst [])) := Same.new hn
    have of : ∀ b, Offs (fun _ => False) (upd H n (.lst [])) b = upd H n (.lst []) b := fun b => Offs.get fun z => z
    refine zzm (K := K) (fun _ => False) (upd H n (.lst [])) (.ref q') (.ref n) (.list (st.cells.map .int)) (.list []) (fun b z => z.elim) (zfd (by rw [of]; exact sn _ _ hq) (zpx _)) (zfd (by rw [of]; exact zaw) zde) _ _ (zajp _) _ fun w H' s' rp _ => ⟨_, zke rp, q H' (MvR.same (sn.trans s')) (hh.up (sn.trans s'))⟩
  · cases e
end
section
variable {T : Type} {k : Kind T} {f : Nat}
noncomputable def zjr (c : TFr T) (body : SFr T) : Nat → SFr T
  | 0, _, _ => none
  | n + 1, env, st => (c env st).bind fun x => if x.1 = true then (body env x.2).bind fun o => match o with
    | .nx e2 s2 => zjr c body n e2 s2
    | .ct e2 s2 => zjr c body n e2 s2
    | .bk e2 s2 => some (.nx e2 s2)
    | .rt d fr s2 => some (.rt d fr s2)
    else some (.nx env x.2)
theorem zagj {tc : TT} {tb : TS} {c : TFr T} {body : SFr T} (n : Nat) (h1 : STr k f tc c) (h2 : SSr k f tb body) : SSr k f (tWhile tc tb) (zjr c body n) := by
  intro fx H0 env σ H v R st D hh o e q
  refine ⟨fun m σ' H' => ∃ env' st', zjr c body m env' st' = some o ∧ Has k f fx H0 env' σ' H' v R st', ⟨n, env, st, e, hh⟩, ?_⟩
  rintro m σ' H' ⟨env', st', e', h'⟩
  cases m with
  | zero => cases e'
  | succ m =>
    obtain ⟨⟨b, s1⟩, eb, e'⟩ := Option.bind_eq_some_iff.mp e'
    refine h1 fx H0 env' σ' H' v R st' h' b s1 eb _ fun H1 m1 k1 => ?_
    cases b with
    | false => cases e'; exact iteF (q σ' H1 k1)
    | true =>
      have e' : ((body env' s1).bind fun o => match o with
        | .nx e2 s2 => zjr c body m e2 s2
        | .ct e2 s2 => zjr c body m e2 s2
        | .bk e2 s2 => some (.nx e2 s2)
        | .rt d fr s2 => some (.rt d fr s2)) = some o := e'
      obtain ⟨o1, eo1, e'⟩ := Option.bind_eq_some_iff.mp e'
      refine iteT ⟨fun σ'' H'' => ∃ env'' st'', zjr c body m env'' st'' = some o ∧ Has k f fx H0 env'' σ'' H'' v R st'', fun σ'' H'' hq => ⟨m, Nat.lt_succ_self _, hq⟩, ?_⟩
      refine h2 fx H0 env' σ' H1 v R s1 _ k1 o1 eo1 ?_
      cases o1 with
      | nx e2 s2 => exact fun σ3 H3 hq => ⟨e2, s2, e', hq⟩
      | ct e2 s2 => exact fun σ3 H3 hq => ⟨e2, s2, e', hq⟩
      | bk e2 s2 => cases e'; exact fun σ3 H3 hq => q σ3 H3 hq
      | rt d fr s2 => cases e'; exact q
end
end L2
namespace L2
open PySem PySem.Spec PyProof.Rows
theorem zajq (t b : Addr) (items items2 : Array Value) (n n2 : Nat) (dd dd2 : Option Addr) (sl sl2 : Array (Option Value)) (hc0 : items.isEmpty = true) :
    Meets (Builtin.«tuple.__add__» ⟨[.ref t, .ref b], []⟩) (fun _ R s => s.heap.get? t = some { cls := .type "tuple", dict := dd, data := .seq items n, slots := sl } ∧ s.heap.get? b = some { cls := .type "tuple", dict := dd2, data := .seq items2 n2, slots := sl2 } ∧ R (.ok (.ret (.ref b))) s) :=
  .of_wp fun prog w A R s h => by
    obtain ⟨hp, g, d, tk, os⟩ := s; obtain ⟨hl, hb, h⟩ := h
    have f2 := sub_tuple_tuple
    wp_walk using wpAny_loadPart' hl, wpAny_loadPart' hb
    exact ⟨_, rfl, h⟩
noncomputable def zaqc (K : PySem.W.Frag) : R2 := fun x y H Q => zair K x y H Q ∨ ∃ a b ys, x = .ref a ∧ y = .ref b ∧ SqT K H a [] ∧ SqT K H b ys ∧ Q y H
theorem zagk {X : Cx} {K : PySem.W.Frag} (hK : X.K = K) : OpR X (binaryOp .Add) (zaqc K) := by
  subst hK
  intro pins s σ H x y v u Q I rx ry h
  rcases h with h | ⟨a, b, ys, rfl, rfl, ha, hb, q⟩
  · exact zafb pins s σ H x y v u Q I rx ry h
  · cases rx
    cases ry
    obtain ⟨its, r1, p1, _⟩ := I.tuple ha
    obtain ⟨its2, r2, p2, _⟩ := I.tuple hb
    cases r1
    obtain ⟨⟨cls, dd, data, sl⟩, ho, hc, n, hd⟩ := id p1
    obtain ⟨⟨cls2, dd2, data2, sl2⟩, ho2, hc2, n2, hd2⟩ := id p2
    simp only at hc hd hc2 hd2
    subst hc hd hc2 hd2
    exact concat_meets ⟨_, ho, rfl⟩ ⟨_, ho2, rfl⟩ noFill_tuple_add seq_tuple_add PySem.F.slot_tuple_add PySem.F.entry_tuple_add (PySem.F.args_tuple_add_2 _ _)
      (zajq a b _ its2.toArray n n2 dd dd2 sl sl2 (by rfl)) ⟨ho, ho2, ⟨.ref b, H, I, rfl, q⟩⟩
noncomputable def addE : OF
  | .tuple [], .tuple ys => some (.tuple ys, false)
  | x, y => addD x y
theorem zagl {K : PySem.W.Frag} : SO (zaqc K) addE := by
  intro A H x y dx dy hA rx ry d fr e Q q
  unfold addE at e
  split at e
  · cases e
    obtain ⟨a, xs, rfl, ha, r⟩ := zdv rx
    obtain ⟨b, ys', rfl, hb, r'⟩ := zdv ry
    have : xs = [] := by unfold Rps at r; exact r
    subst this
    exact .inr ⟨a, b, _, rfl, rfl, SqT.of (zds ha), SqT.of (zds hb), q _ H (Same.refl _) ry fun z => by cases z⟩
  · exact .inl (zht A H x y dx dy hA rx ry d fr e Q q)
section
variable {K : PySem.W.Frag} {ns : List Int} {J : Nat → Prop} {f : Nat}
end
end L2
namespace L2
open PySem PySem.Spec PyProof.Rows
noncomputable def zaqd (K : PySem.W.Frag) (H : Hp) (v : V) (R : Addr → Prop) (ns : List Int) : Prop := ∃ a, v = .ref a ∧ (∀ b, R b → b = a ∧ ∃ o, H b = some o) ∧ SqL K H a (ns.map .int) ∧ (R a ∨ ∀ H', SqL K H' a (ns.map .int))
noncomputable def scrK (K : PySem.W.Frag) : Kind (List Int) where
  at_ := zaqd K
  live := fun {H v R st} ⟨a, _, h, _⟩ b hb => (h b hb).2
  stay := fun {H H' v R st} ⟨a, e, h, q, r⟩ k => ⟨a, e, fun b hb => ⟨(h b hb).1, let ⟨o, eo⟩ := (h b hb).2; ⟨o, k b o hb eo⟩⟩, by
    rcases r with r | r
    · rcases q with (q | ⟨o, q⟩) | q
      · exact .inl (.inl (k a _ r q))
      · exact .inl (.inr ⟨o, k a _ r q⟩)
      · exact .inr q
    · exact r H', r⟩
theorem zaqe {K : PySem.W.Frag} {H : Hp} {a : Addr} {ns : List Int} (h : SqL K H a (ns.map .int)) : ∃ R : Addr → Prop, (∀ b, R b → ∃ o, H b = some o) ∧ zaqd K H (.ref a) R ns := by
  rcases h with (h | ⟨o, h⟩) | h
  · have l : ∀ b, b = a → ∃ o, H b = some o := fun b hb => ⟨_, hb ▸ h⟩
    exact ⟨fun b => b = a, l, a, rfl, fun b hb => ⟨hb, l b hb⟩, .inl (.inl h), .inl rfl⟩
  · have l : ∀ b, b = a → ∃ o, H b = some o := fun b hb => ⟨_, hb ▸ h⟩
    exact ⟨fun b => b = a, l, a, rfl, fun b hb => ⟨hb, l b hb⟩, .inl (.inr ⟨o, h⟩), .inl rfl⟩
  · exact ⟨fun _ => False, fun b hb => hb.elim, a, rfl, fun b hb => hb.elim, .inr h, .inr fun _ => .inr h⟩
theorem zanf (ns : List Int) : cutV (ns.map V.int) none (some 63) = (ns.take 63).map .int := by
  unfold cutV
  have e1 : HT.sIx (ns.map V.int).length 0 none = 0 := rfl
  rw [e1, show (63 : Int) = ((63 : Nat) : Int) from rfl, HT.sIx_nat]
  rw [List.drop_zero, Nat.sub_zero, List.map_take, List.length_map]
  by_cases h : 63 ≤ ns.length
  · rw [Nat.min_eq_left h]
  · rw [Nat.min_eq_right (by omega), List.take_of_length_le (by simp), List.take_of_length_le (by simp; omega)]
section
variable {K : PySem.W.Frag} {f : Nat}
noncomputable def rScr : EFr (List Int) := fun _ ns => some (⟨.list ((ns.take 63).map .int), true, []⟩, ns)
theorem zagm : SEr (scrK K) f (tSl (rSlU K) (tVar f) tNoPart (tPart (tC (.int 63)))) rScr := by
  intro fx H0 env σ H v R ns hh r st' e Q q
  cases e
  obtain ⟨a, rfl, h1, h2, h3⟩ := id hh.th
  refine ⟨.ref a, hh.sl, 63, rfl, a, ns.map .int, rfl, h2, fun p hp => ?_⟩
  rw [zanf]
  have sn : Same H (upd H p (.lst ((ns.take 63).map .int))) := Same.new hp
  have np : ¬ lim fx env σ [] p := fun z => by obtain ⟨o, eo⟩ := hh.ok.lims [] p z; rw [hp] at eo; cases eo
  refine q _ _ (MvR.same sn) (hh.up sn) ⟨zfd (by rw [Offs.get np]; exact zaw) (zpx _), fun _ => ⟨p, rfl, hp, _, zaw, zpx _⟩⟩
end
section
variable {T : Type} {k : Kind T} {f : Nat}
noncomputable def zagn (a : AFr T) : IFr T := fun env st => (a env st).bind fun x => match x.1 with
  | [r] => (zgo r.d).map fun ds => (zxa ds, r.bs, x.2)
  | _ => none
theorem zajr {K : PySem.W.Frag} {ta : TA} {a : AFr T} (h1 : SAr k f ta a) : SIr k f (iEnumX K ta) (zagn a) := by
  intro fx H0 env σ H v R st hh ds bs st' e Rk q
  unfold zagn at e
  obtain ⟨⟨rs, s1⟩, er, e⟩ := Option.bind_eq_some_iff.mp e
  dsimp only at e
  split at e
  · rename_i r
    obtain ⟨d1, ed1, e⟩ := Option.map_eq_some_iff.mp e
    cases e
    refine h1 fx H0 env σ H v R st hh _ _ er _ fun vs H1 m k1 hv => ?_
    cases hv with
    | cons hv t =>
      cases t
      obtain ⟨b, a, xs, rfl, r1, e1⟩ := zafs (K := K) (Rp.same (Offs.sub (zej (bs := r.bs))) _ hv.rp) ed1
      refine ⟨b, a, rfl, ⟨xs, e1 _ H1 (Same.refl _)⟩, q _ H1 m k1 ?_⟩
      intro A H' hA ss
      have q1 := e1 A H' ss
      have r1' := Rps.same ss _ r1
      have hl : (zxa d1).length = d1.length := by unfold zxa; simp
      refine ⟨fun i d e => ?_, ⟨xs, q1, by rw [hl, r1.length]; exact Nat.le_refl _⟩⟩
      unfold zxa at e
      rw [List.getElem?_map, List.getElem?_zipIdx] at e
      cases e0 : d1[i]? with
      | none => rw [e0] at e; cases e
      | some d0 =>
        rw [e0] at e
        obtain ⟨v, hv, rv⟩ := r1'.get2 e0
        have e : PyData.tuple [.int ((0 + i : Nat) : Int), d0] = d := Option.some.inj e
        rw [Nat.zero_add] at e
        subst e
        refine ⟨⟨xs, v, q1, hv⟩, fun x H'' y => ?_⟩
        obtain ⟨p, y', rfl, hp, rfl, y⟩ := y
        have := y xs q1
        rw [hv] at this
        cases this
        exact ⟨Same.new hp, zno hp (zfa hA hp) (zdw zag (zdw rv zde))⟩
  · cases e
end
noncomputable def zade (K : PySem.W.Frag) (sd : List Int → Option Int) : Sp := fun vs H Q _ => ∃ (a : Addr) (ns : List Int) (s : Int), vs = [.ref a] ∧ SqL K H a (ns.map .int) ∧ sd ns = some s ∧ ∀ p q H', p ≠ q → H' p = some (.lst [.ref q, .int 0, .int s, .int 0]) → H' q = some (.lst ((ns.take 63).map .int)) → Q (.ref p) H'
theorem zago {K : PySem.W.Frag} {sd : List Int → Option Int} {vs : List V} {H : Hp} {Q : VK} {E : XK} (h : zade K sd vs H Q E) : vs.length = 1 := by
  obtain ⟨a, ns, s, rfl, _⟩ := h
  rfl
noncomputable def zajs (F : SFr (List Int)) (n : Nat) (g : EF) : List Int → Option Int := fun ns => match F (.no :: List.replicate n .no) ns with
  | some (.nx env st) => if st = ns then (g env).bind fun r => match r.d with
    | .int s => some s
    | _ => none else none
  | _ => none
theorem zre {H : Hp} : ∀ {cs : List Int} {xs : List V}, Rps H (cs.map .int) xs → xs = cs.map .int
  | [], xs, h => by unfold Rps at h; exact h
  | c :: cs, xs, h => by
    rw [List.map_cons] at h
    unfold Rps at h
    obtain ⟨v, vs, rfl, h1, h2⟩ := h
    rw [zdr h1, zre h2]; rfl
theorem zaqf {K : PySem.W.Frag} {N : List Str} {n : Nat} {F : SFr (List Int)} {g : EF} {t1 : TS} {te : TE} {r : List V → Hp → VK → Prop} (hN : N.length = n + 1) (hs : SSr (scrK K) 0 t1 F) (hg : SE te g) (hl : SC r zuv) {vs : List V} {H : Hp} {Q : VK} {E : XK} (h : zade K (zajs F n g) vs H Q E) :
    tSeq t1 (tRet (tLst (tCons (tCB r (tCons (tSl (rSlU K) (tVar 0) tNoPart (tPart (tC (.int 63)))) tNil)) (tCons (tC (.int 0)) (tCons te (tCons (tC (.int 0)) tNil)))))) { nx := fun _ H' => Q .non H', rt := Q } (zhs N vs) H := by
  obtain ⟨a, ns, s, rfl, hS, es, q⟩ := h
  obtain ⟨R, hR, hsc⟩ := zaqe hS
  have hh := zxh (N := N) (k := scrK K) (ds := []) (vs := []) (fx := R) (by omega) hR (fun b z => z) hsc zde
  have e0 : zrd N.length [] = .no :: List.replicate n .no := by
    unfold zrd zjp
    rw [hN]; rfl
  rw [e0] at hh
  unfold zajs at es
  split at es
  · rename_i env st2 eo
    split at es
    · rename_i est
      subst est
      obtain ⟨⟨d, fr, bs⟩, er, es⟩ := Option.bind_eq_some_iff.mp es
      cases d with
      | int s' =>
        cases es
        refine hs R _ _ _ H (.ref a) R st2 _ hh _ eo fun σ1 H1 h1 => ?_
        refine zalb hl (zbr (zagm (K := K) (f := 0)) zcj) R _ env σ1 H1 (.ref a) R st2 h1 ⟨.list ((st2.take 63).map .int), true, []⟩ st2 rfl _ fun w1 H2 m2 h2 v2 => ?_
        obtain ⟨q1, rfl, _, xs, hx, rx⟩ := v2.fr rfl
        have ex := zre rx
        subst ex
        refine hg R _ env σ1 H2 h2.ok _ er _ fun w3 H3 s3 v3 => ?_
        cases zdr v3.rp
        refine ⟨by show 4 ≤ _; exact zez (by decide), fun p hp => q p q1 _ (fun z => by rw [z, s3 _ _ hx] at hp; cases hp) zaw ?_⟩
        rw [zbc fun z => by rw [← z, s3 _ _ hx] at hp; cases hp]
        exact s3 _ _ hx
      | _ => cases es
    · cases es
  · cases es
theorem zajt {K : PySem.W.Frag} {N : List Str} {n : Nat} {sd : List Int → Option Int} {F : SFr Pen} {t : TS} {ns : List Int} {s : Int} {a : Addr} {H : Hp} {D : Ends} {st' : Pen} (hN : N.length = n + 2) (hs : SSr penK 1 t F) (hS : SqL K H a (ns.map .int)) (es : sd ns = some s)
    (ef : F (List.replicate (n + 2) .no) ⟨ns.take 63, 0, s, 0⟩ = some (.rt (.bool true) false st')) (q : ∀ H', D.rt (.bl true) H') :
    tSeq (tAsg (tCall (zade K sd) [] E0 (tCons (tVar 0) tNil)) (gName 1)) t D (zhs N [.ref a]) H := by
  have st : zhs N [.ref a] = some (.ref a) :: List.replicate (n + 1) none := by
    unfold zhs
    rw [hN]; rfl
  rw [st]
  refine ⟨.ref a, rfl, ?_⟩
  have key : zade K sd [.ref a] H (fun x H1 => t D ((some (V.ref a) :: List.replicate (n + 1) none).set 1 (some x)) H1) E0 := ?_
  exact key
  refine ⟨a, ns, s, rfl, hS, es, fun p q1 H' ne hp hq => ?_⟩
  have e1 : (some (V.ref a) :: List.replicate (n + 1) none).set 1 (some (.ref p)) = some (.ref a) :: some (.ref p) :: List.replicate n none := by
    rw [List.replicate_succ]; rfl
  dsimp only
  rw [e1]
  have noE : ∀ (i : Nat) (x : Sl), (List.replicate (n + 2) Sl.no)[i]? = some x → x = .no := fun i x e => by
    obtain ⟨h1, h2⟩ := List.getElem?_eq_some_iff.mp e
    rw [List.getElem_replicate] at h2
    exact h2.symm
  refine hs (fun b => b = p ∨ b = q1) (fun _ => none) _ _ H' (.ref p) (fun b => b = p ∨ b = q1) _ D ⟨⟨?_, fun i d e => ?_, fun i d e => ?_, fun i j d e a' z => ?_, fun b o z => (nomatch z), fun b z => ?_⟩, ?_, rfl, ⟨p, q1, rfl, ne, hp, hq, fun b => Iff.rfl⟩, fun b z => z, fun b z => rfl⟩ _ ef fun w H2 _ _ _ rt _ => ?_
  · simp
  · cases noE i _ e
  · cases noE i _ e
  · cases noE i _ z
  · rcases z with z | z
    · exact ⟨_, z ▸ hp⟩
    · exact ⟨_, z ▸ hq⟩
  · rw [List.getElem?_replicate]; simp
  · rw [zke rt.1]; exact q H2
end L2
namespace L2
open PySem PySem.Spec PyProof.Rows
noncomputable abbrev zmr (xs : List Str) : Str := Builtin.Str.glued "" xs
noncomputable def zaqg : V → List V → Hp → VK → Prop := fun x vs H Q => ∃ a xs, x = .str "" ∧ vs = [.ref a] ∧ H a = some (.lst (xs.map .str)) ∧ xs.foldl (fun n z => n + z.length + 0) 0 ≤ 100000 ∧ (zmr xs).length ≤ 100000 ∧ Q (.str (zmr xs)) H
theorem zxj : ∀ {xs : List Str} {us : List Value}, Vals (xs.map V.str) us → ∃ l : List (Str × Tok), us = strValues l ∧ l.map (·.1) = xs
  | [], us, h => by cases h; exact ⟨[], rfl, rfl⟩
  | x :: xs, us, h => by
    cases h with
    | cons r h =>
      obtain ⟨t, rfl⟩ := r
      obtain ⟨l, rfl, rfl⟩ := zxj h
      exact ⟨(x, t) :: l, rfl, rfl⟩
theorem zang {X : Cx} : MtR X "str.join" zaqg := by
  intro pins s σ H x vs v us Q I rx rv h
  obtain ⟨a, xs, rfl, rfl, hH, hn, hg, q⟩ := h
  obtain ⟨t, rfl⟩ := rx
  obtain ⟨u, rfl, ru⟩ := rv.one
  cases ru
  obtain ⟨_, its, n, r, hl, e⟩ := I.lstM hH
  obtain ⟨l, rfl, hx⟩ := zxj r
  have big : (100000 : Nat) ≤ sizeLine := by rw [sizeLine_eq]; omega
  have ht : Builtin.Str.tooLong ((l.map (·.1)).toArray.foldl (· + ·.length + ("" : Str).length) 0) = false := by
    unfold Builtin.Str.tooLong
    rw [hx, List.foldl_toArray']
    refine decide_eq_false ?_
    have : xs.foldl (fun n z => n + z.length + ("" : Str).length) 0 ≤ 100000 := hn
    omega
    simp
  refine call_meets F.slot_str_join (typeIs_str s _ _) F.entry_str_join (F.args_str_join_2 _ _) (meets_str_join_list "" t a l ht) ⟨⟨_, e, rfl, n, rfl⟩, ?_⟩
  have fin : ∀ (tk tk' : Nat), EP X pins σ Q (.str (zmr xs) tk) { s with toks := tk' } := fun tk tk' => ⟨.str _, H, I.tok _, ⟨_, rfl⟩, q⟩
  cases l with
  | nil => cases hx; exact ⟨Nat.le_trans hg big, fin _ _⟩
  | cons p l =>
    cases l with
    | nil =>
      cases hx
      have e1 : zmr [p.1] = p.1 := by unfold zmr Builtin.Str.glued; rfl
      show EP X pins σ Q (.str p.1 p.2) s
      have := fin p.2 s.toks
      rw [show [p].map (·.1) = [p.1] from rfl, e1] at this
      exact this
    | cons p2 l => subst hx; exact ⟨Nat.le_trans hg big, fin _ _⟩
noncomputable def zxk : PyData → Option PyData
  | .list ds => (unT ds).bind fun xs => if xs.foldl (fun n z => n + z.length + 0) 0 ≤ 100000 ∧ (zmr xs).length ≤ 100000 then some (.str (zmr xs)) else none
  | _ => none
where unT : List PyData → Option (List Str)
  | [] => some []
  | .str x :: r => (unT r).map fun xs => x :: xs
  | _ :: _ => none
theorem zabw : ∀ {ds : List PyData} {xs : List Str}, zxk.unT ds = some xs → ds = xs.map .str
  | [], xs, h => by cases h; rfl
  | d :: r, xs, h => by
    cases d with
    | str x =>
      obtain ⟨ys, hy, rfl⟩ := Option.map_eq_some_iff.mp h
      rw [zabw hy]; rfl
    | _ => cases h
theorem zrf {H : Hp} : ∀ {cs : List Str} {xs : List V}, Rps H (cs.map .str) xs → xs = cs.map .str
  | [], xs, h => by unfold Rps at h; exact h
  | c :: cs, xs, h => by
    rw [List.map_cons] at h
    unfold Rps at h
    obtain ⟨v, vs, rfl, h1, h2⟩ := h
    rw [zlj h1, zrf h2]; rfl
section
variable {T : Type} {k : Kind T} {f : Nat}
noncomputable def zxl (g : EFr T) : EFr T := fun env st => (g env st).bind fun x => (zxk x.1.d).map fun d => (⟨d, false, []⟩, x.2)
theorem zaju {K : PySem.W.Frag} {te : TE} {g : EFr T} (h1 : SEr k f te g) : SEr k f (tBM K "str" zaqg (tC (.str "")) (tCons te tNil)) (zxl g) := by
  intro fx H0 env σ H v R st hh r st' e Q q
  unfold zxl at e
  obtain ⟨⟨x, s1⟩, ex, e⟩ := Option.bind_eq_some_iff.mp e
  obtain ⟨d, ed, e⟩ := Option.map_eq_some_iff.mp e
  cases e
  refine ⟨rfl, h1 fx H0 env σ H v R st hh x s1 ex _ fun w H1 m1 k1 hv => ?_⟩
  obtain ⟨xd, xf, xb⟩ := x
  cases xd with
  | list ds =>
    have ed : ((zxk.unT ds).bind fun xs => if xs.foldl (fun n z => n + z.length + 0) 0 ≤ 100000 ∧ (zmr xs).length ≤ 100000 then some (PyData.str (zmr xs)) else none) = some d := ed
    obtain ⟨xs, eu, ed⟩ := Option.bind_eq_some_iff.mp ed
    split at ed
    · rename_i hl
      cases ed
      have := zabw eu
      subst this
      obtain ⟨a, ys, rfl, ha, ry⟩ := zey hv.rp
      have := zrf ry
      subst this
      exact ⟨a, xs, rfl, rfl, (Offs.of ha).2, hl.1, hl.2, q _ H1 m1 k1 ⟨zbs, fun z => by cases z⟩⟩
    · cases ed
  | _ => cases ed
end
end L2
namespace L2
open PySem PySem.Spec PyProof.Rows
theorem zvg {J : Nat → Prop} {i : Nat} : SSk J (tRet (tVar i)) (zns i) := fun fx H0 env σ H D h o e q => znt fx H0 env σ H D h o e (by
  unfold zns at e
  split at e
  · cases e; exact q
  · cases e; exact q
  · cases e)
theorem zajv {f m : Nat} {g : GTs} (h : ∀ ds env env', g ds env = some env' → env[f]? = some .no → env'[f]? = some .no) : GTno f (gT m g) := fun d env env' e hn => by
  unfold gT at e
  cases d with
  | tuple ds =>
    have e : (if ds.length = m then g ds env else none) = some env' := e
    split at e
    · exact h ds env env' e hn
    · cases e
  | _ => cases e
theorem zajw {f : Nat} : ∀ ds env env', zea ds env = some env' → env[f]? = some Sl.no → env'[f]? = some .no := fun ds env env' e hn => by
  cases ds with
  | nil => cases e; exact hn
  | cons _ _ => cases e
theorem zxm {f i : Nat} {g : GTs} (hi : i ≠ f) (h : ∀ ds env env', g ds env = some env' → env[f]? = some .no → env'[f]? = some .no) : ∀ ds env env', zau i g ds env = some env' → env[f]? = some Sl.no → env'[f]? = some .no := fun ds env env' e hn => by
  cases ds with
  | nil => cases e
  | cons d ds => exact h ds _ env' e (by rw [List.getElem?_set_ne hi]; exact hn)
section
variable {T : Type} {k : Kind T} {f : Nat}
noncomputable def zadf (i : Nat) (gk gv : EFr T) : SFr T := fun env st => match env[i]? with
  | some (.ac (.list ds)) => (gv env st).bind fun x => (gk env x.2).bind fun y => (match y.1.d with
    | .int z => (ixN ds.length z).bind fun j => if i ∉ x.1.bs then some (.nx ((frzs env x.1.bs).set i (.ac (.list (ds.set j x.1.d)))) y.2) else none
    | _ => none)
  | _ => none
theorem zajx {i : Nat} {tk tv : TE} {gk gv : EFr T} (h1 : SEr k f tk gk) (h2 : SEr k f tv gv) : SSr k f (tAsg tv (gSub (tVar i) tk zaia)) (zadf i gk gv) := by
  intro fx H0 env σ H v R st D hh o e q
  unfold zadf at e
  split at e
  · rename_i ds ei
    obtain ⟨⟨r, s1⟩, er, e⟩ := Option.bind_eq_some_iff.mp e
    obtain ⟨⟨⟨kd, kf, kb⟩, s2⟩, ek, e⟩ := Option.bind_eq_some_iff.mp e
    cases kd with
    | int z =>
      obtain ⟨j, ej, e⟩ := Option.bind_eq_some_iff.mp e
      split at e
      · rename_i hl
        cases e
        have hif : i ≠ f := fun z => by rw [z, hh.no] at ei; cases ei
        obtain ⟨a, g1, g2, g3, g4⟩ := hh.ok.ac i _ ei
        refine h2 fx H0 env σ H v R st hh r s1 er _ fun w H1 m1 k1 hv => ⟨_, g1, h1 fx H0 env σ H1 v R s1 k1 _ s2 ek _ fun u H2 m2 k2 hk => ?_⟩
        cases zdr hk.rp
        have hv2 := hh.val m2 (k.live hh.th) hv
        have h' := k2.ok.frzs r.bs
        have ei' := zhb hl ei
        obtain ⟨a', z1, _, z3, z4⟩ := h'.ac i _ ei'
        rw [g1] at z1
        cases z1
        obtain ⟨xs, hx', rx'⟩ := z4
        refine ⟨a, xs, z, j, rfl, rfl, hx', by rw [← rx'.length]; exact ej, ?_⟩
        refine q σ _ ⟨h'.mut ei' g1 ⟨_, zaw, rx'.setAt (Rp.same (Offs.sub zej) _ hv2.rp) j⟩, ?_, hh.sl, k.stay k2.th fun b o hb eb => ?_, hh.off, hh.low⟩
        · rw [List.getElem?_set_ne hif]; exact zra _ hh.no
        · rw [zbc fun z => g3 (by rw [← z]; exact hh.off b hb)]; exact eb
      · cases e
    | _ => cases e
  · cases e
end
end L2
namespace L2
open PySem PySem.Spec PyProof.Rows
section
variable {X : Cx}
noncomputable def zalc (wi : TI) (g : TG) (tt : TT) (wi2 : TI) (g2 : TG) (tt2 : TT) (te : TE) (own : List Str) (fr : List Nat) (i : Nat) : TS := zamh wi g tt (fun p => zabp wi2 g2 tt2 (zzh p te)) own fr i
theorem zajy {scope : Scope} {N' own : List Str} {fr : List Nat} {elt target iter target2 iter2 : Expr} {ifs ifs2 : List Expr} {cpos spos py : Pos} {i : Nat} {y : Str} {wi wi2 : TI} {g g2 : TG} {tt tt2 : TT} {te : TE} (c : CompOk X scope N' own fr) (hc : X.calm = true) (hi : PI X target iter wi)
    (hb : ∀ (cl : List (Str × Addr)) (C : Addr) (s : Shared) (H : Hp) (fp : List Addr), PG (cxComp X scope N' own cl C s H fp) target g ∧ PF (cxComp X scope N' own cl C s H fp) ifs tt ∧ PI (cxComp X scope N' own cl C s H fp) target2 iter2 wi2 ∧ PG (cxComp X scope N' own cl C s H fp) target2 g2 ∧ PF (cxComp X scope N' own cl C s H fp) ifs2 tt2 ∧ PE (cxComp X scope N' own cl C s H fp) elt te)
    (hsw : swapsWith (.ListComp elt [⟨target, iter, ifs, 0⟩, ⟨target2, iter2, ifs2, 0⟩] scope cpos) (some (.Name y py)) spos.line X.env = pure true)
    (hN : X.N.Nodup) (hy : X.N[i]? = some y) (hl : X.env.scope.names.lookup y = some .local)
    (hs : ∀ x, foldedSetIterable iter X.env x = pure x := by intro _; rfl) (hs2 : ∀ env x, foldedSetIterable iter2 env x = pure x := by intro _ _; rfl) :
    PS X (.Assign [.Name y py] (.ListComp elt [⟨target, iter, ifs, 0⟩, ⟨target2, iter2, ifs2, 0⟩] scope cpos) spos) (zalc wi g tt wi2 g2 tt2 te own fr i) :=
  zabj (emit := fun acc env => do
      let x ← eval iter2 env
      standAt iter2.pos
      let x ← foldedSetIterable iter2 env x
      let _ ← runOwn (.compStart (.ListComp elt [⟨target, iter, ifs, 0⟩, ⟨target2, iter2, ifs2, 0⟩] scope cpos) 1 (← holding [x] (pyIter x)) acc env) env) c hc (fun it acc env => by
      rw [zapu]
      refine bind_congr fun _ => bind_congr fun r => ?_
      cases r with
      | none => rfl
      | some v =>
        refine bind_congr fun _ => bind_congr fun _ => bind_congr fun ok => ?_
        cases ok with
        | false => rfl
        | true => simp only [if_true, bind_assoc, pure_bind]) hi
    (fun cl C s H fp p => let ⟨h1, h2, h3, h4, h5, h6⟩ := hb cl C s H fp; ⟨h1, h2, zabq (X := cxComp X scope N' own cl C s H fp) rfl hc h3 h4 h5 h6 (fun x => hs2 _ x)⟩) hsw hN hy hl hs
theorem zagp {scope : Scope} {N' own : List Str} {fr : List Nat} {elt target iter target2 iter2 : Expr} {ifs ifs2 : List Expr} {cpos spos py : Pos} {i : Nat} {y : Str} {wi wi2 : TI} {g g2 : TG} {tt tt2 : TT} {te : TE} (c : CompOk X scope N' own fr) (hc : X.calm = true) (hi : Bx (PI X target iter wi))
    (hb : ∀ (cl : List (Str × Addr)) (C : Addr) (s : Shared) (H : Hp) (fp : List Addr), PG (cxComp X scope N' own cl C s H fp) target g ∧ PF (cxComp X scope N' own cl C s H fp) ifs tt ∧ PI (cxComp X scope N' own cl C s H fp) target2 iter2 wi2 ∧ PG (cxComp X scope N' own cl C s H fp) target2 g2 ∧ PF (cxComp X scope N' own cl C s H fp) ifs2 tt2 ∧ PE (cxComp X scope N' own cl C s H fp) elt te)
    (hsw : swapsWith (.ListComp elt [⟨target, iter, ifs, 0⟩, ⟨target2, iter2, ifs2, 0⟩] scope cpos) (some (.Name y py)) spos.line X.env = pure true)
    (hN : X.N.Nodup) (hy : X.N[i]? = some y) (hl : X.env.scope.names.lookup y = some .local)
    (hs : ∀ x, foldedSetIterable iter X.env x = pure x) (hs2 : ∀ env x, foldedSetIterable iter2 env x = pure x) :
    Bx (PS X (.Assign [.Name y py] (.ListComp elt [⟨target, iter, ifs, 0⟩, ⟨target2, iter2, ifs2, 0⟩] scope cpos) spos) (zalc wi g tt wi2 g2 tt2 te own fr i)) :=
  ⟨zajy c hc hi.out hb hsw hN hy hl hs hs2⟩
end
end L2
namespace L2
open PySem PySem.Spec PyProof.Rows
noncomputable def zaqh (i j : Int) : Prop := 0 ≤ j ∧ j ≤ 1000 ∧ i.natAbs < 2 ^ 1000
theorem zrg {X : Cx} : OpR X (binaryOp .Pow) (rI zaqh fun i j => .int (i ^ j.toNat)) := opI fun i j _ _ _ _ _ hc q => pow_int hc.1 (by
  have hb : Builtin.Int.intBits i ≤ 1000 := intBits_le hc.2.2
  have h0 : (0 : Int) ≤ j := hc.1
  have hj : j ≤ 1000 := hc.2.1
  have h1 : (Builtin.Int.intBits i : Int) * j ≤ 1000 * j := Int.mul_le_mul_of_nonneg_right (by omega) h0
  omega) q
noncomputable def powB : OF := intD (fun i j => decide (0 ≤ j ∧ j ≤ 1000) && decide (i.natAbs < 2 ^ 1000)) fun i j => .int (i ^ j.toNat)
theorem zrh : SO (rI zaqh fun i j => .int (i ^ j.toNat)) powB := zafe (fun i j h => by
  rw [Bool.and_eq_true] at h
  exact ⟨(of_decide_eq_true h.1).1, (of_decide_eq_true h.1).2, of_decide_eq_true h.2⟩) fun _ _ _ => zag
section
variable {T : Type}
theorem zba {a b : SFr T} {env e1 : DEnv} {st s1 : T} {o : Option (OutR T)} (h : a env st = some (.nx e1 s1)) (k : b e1 s1 = o) : rSeq a b env st = o := by unfold rSeq; rw [h]; exact k
theorem zanh {a b : SFr T} {env : DEnv} {st s1 : T} {d : PyData} {fr : Bool} (h : a env st = some (.rt d fr s1)) : rSeq a b env st = some (.rt d fr s1) := by unfold rSeq; rw [h]; rfl
theorem zdx {i : Nat} {g : EFr T} {env : DEnv} {st s1 : T} {r : Val} (h : g env st = some (r, s1)) : rSet i g env st = some (.nx (putV env i r) s1) := by unfold rSet; rw [h]; rfl
theorem zzv {g : EFr T} {env : DEnv} {st s1 : T} {d : PyData} {fr : Bool} {bs : List Nat} (h : g env st = some (⟨d, fr, bs⟩, s1)) : rRet g env st = some (.rt d fr s1) := by unfold rRet; rw [h]; rfl
theorem zadg {c : TFr T} {a b : SFr T} {env : DEnv} {st s1 : T} {o : Option (OutR T)} (h : c env st = some (true, s1)) (k : a env s1 = o) : rIf c a b env st = o := by unfold rIf; rw [h]; exact k
theorem zzw {c : TFr T} {a b : SFr T} {env : DEnv} {st s1 : T} {o : Option (OutR T)} (h : c env st = some (false, s1)) (k : b env s1 = o) : rIf c a b env st = o := by unfold rIf; rw [h]; exact k
theorem zcn {g : EF} {env : DEnv} {st : T} {r : Val} (h : g env = some r) : zaq g env st = some (r, st) := by unfold zaq; rw [h]; rfl
theorem zif {c : TF} {env : DEnv} {st : T} {b : Bool} (h : c env = some b) : znx c env st = some (b, st) := by unfold znx; rw [h]; rfl
theorem zdt {w : OF} {a b : EFr T} {env : DEnv} {st s1 s2 : T} {x y : Val} {d : PyData} {fr : Bool} (h1 : a env st = some (x, s1)) (h2 : b env s1 = some (y, s2)) (h3 : w x.d y.d = some (d, fr)) : rOp w a b env st = some (⟨d, fr, bsOf d (x.bs ++ y.bs)⟩, s2) := by unfold rOp; rw [h1]; show ((b env s1).bind _) = _; rw [h2]; show ((w x.d y.d).bind _) = _; rw [h3]; rfl
theorem zev {a : EFr T} {g : AFr T} {env : DEnv} {st s1 s2 : T} {x : Val} {xs : List Val} (h1 : a env st = some (x, s1)) (h2 : g env s1 = some (xs, s2)) : zbq a g env st = some (x :: xs, s2) := by unfold zbq; rw [h1]; show ((g env s1).bind _) = _; rw [h2]; rfl
theorem zkj {n : Nat} {g : GR T} {a : AFr T} {env : DEnv} {st s1 s2 : T} {rs : List Val} {d : PyData} {fr : Bool} (h : a env st = some (rs, s1)) (hn : rs.length + 1 = n) (k : g (zio rs) s1 = some (d, fr, s2)) : zbo n g a env st = some (⟨d, fr, bsOf d (bss rs)⟩, s2) := by unfold zbo; rw [h]; show (if rs.length + 1 = n then _ else _) = _; rw [if_pos hn, k]; rfl
theorem zxn {n : Nat} {F : SFr T} {ds : List PyData} {env : DEnv} {st s1 : T} {d : PyData} {fr : Bool} (h : zrd n ds = env) (e : F env st = some (.rt d fr s1)) : fnR n F ds st = some (d, fr, s1) := by unfold fnR; rw [h, e]
theorem zri {it : IFr T} {g : GT} {body : SFr T} {env : DEnv} {st s1 : T} {ds : List PyData} {bs : List Nat} {o : Option (OutR T)} (h : it env st = some (ds, bs, s1)) (k : zvd g body ds (frzs env bs) s1 = o) : rFor it g body env st = o := by unfold rFor; rw [h]; exact k
theorem zte {α : Type} {enc : α → PyData} {g : GT} {body : SFr T} (I : List α → DEnv → T → Prop) (all : List α) : ∀ (l pre : List α) (env : DEnv) (st : T), pre ++ l = all → I pre env st →
    (∀ pre x post env st, pre ++ x :: post = all → I pre env st → ∃ e1 e2 s2, g (enc x) env = some e1 ∧ body e1 st = some (.nx e2 s2) ∧ I (pre ++ [x]) e2 s2) → ∃ e' s', zvd g body (l.map enc) env st = some (.nx e' s') ∧ I all e' s'
  | [], pre, env, st, hp, h0, _ => ⟨env, st, rfl, by rw [← hp, List.append_nil]; exact h0⟩
  | x :: l, pre, env, st, hp, h0, hs => by
    obtain ⟨e1, e2, s2, h1, h2, h3⟩ := hs pre x l env st hp h0
    obtain ⟨e', s', h4, h5⟩ := zte I all l (pre ++ [x]) e2 s2 (by rw [List.append_assoc]; exact hp) h3 hs
    refine ⟨e', s', ?_, h5⟩
    rw [List.map_cons]
    unfold zvd
    rw [h1]
    show ((body e1 st).bind _) = _
    rw [h2]
    exact h4
theorem zkk {α : Type} {enc : α → PyData} {g : GT} {body : SFr T} {l : List α} {env : DEnv} {st : T} (I : List α → DEnv → T → Prop) (h0 : I [] env st)
    (hs : ∀ pre x post env st, pre ++ x :: post = l → I pre env st → ∃ e1 e2 s2, g (enc x) env = some e1 ∧ body e1 st = some (.nx e2 s2) ∧ I (pre ++ [x]) e2 s2) : ∃ e' s', zvd g body (l.map enc) env st = some (.nx e' s') ∧ I l e' s' :=
  zte I l l [] env st rfl h0 hs
end
end L2
namespace L2
open PySem PySem.Spec PyProof.Rows
noncomputable def sExt (i : Nat) (f : EF) : SF := fun env => match env[i]? with
  | some (.ac (.list ds)) => (f env).bind fun r => match r.d, r.fr with
    | .list es, true => if ds.length + es.length ≤ 100000 ∧ i ∉ r.bs then some (.nx ((frzs env r.bs).set i (.ac (.list (ds ++ es))))) else none
    | _, _ => none
  | _ => none
theorem zaqi {K : PySem.W.Frag} {i : Nat} {te : TE} {f : EF} (h1 : SE te f) : SS (tDrop (tBM K "list" zaem (tVar i) (tCons te tNil))) (sExt i f) := by
  intro fx H0 env σ H D h o e q
  unfold sExt at e
  split at e
  · rename_i ds ei
    obtain ⟨⟨d, fr, bs⟩, er, e⟩ := Option.bind_eq_some_iff.mp e
    dsimp only at e
    split at e
    · rename_i es
      split at e
      · rename_i hl
        cases e
        obtain ⟨a, g1, g2, g3, g4⟩ := h.ac i _ ei
        obtain ⟨xs, hx, rx⟩ := g4
        refine ⟨_, g1, .inl ⟨rfl, _, SqL.of hx⟩, h1 fx H0 env σ H h _ er _ fun v H' s hv => ?_⟩
        obtain ⟨b, rfl, hb, zs, hz, rz⟩ := hv.fr rfl
        have h' := (h.up s).frzs bs
        have ei' := zhb hl.2 ei
        have hx' := s _ _ hx
        have rx' : Rps (Offs (fun b => fx b ∨ own (frzs env bs) σ b) H') ds xs := by
          obtain ⟨a', z1, _, _, z4⟩ := h'.ac i _ ei'
          rw [g1] at z1
          cases z1
          obtain ⟨ys, y1, y2⟩ := z4
          rw [hx'] at y1
          cases y1
          exact y2
        have rz' : Rps (Offs (fun b => fx b ∨ own (frzs env bs) σ b) H') es zs := Rps.same (Offs.sub fun c z => .inl (zej c z)) _ rz
        refine ⟨a, b, xs, zs, rfl, rfl, hx', hz, zez (by rw [← rx.length, ← rz.length]; exact hl.1), ?_⟩
        exact q σ _ (h'.mut ei' g1 ⟨_, zaw, rx'.append rz'⟩)
      · cases e
    · cases e
  · cases e
theorem zaqj {i : Nat} {f : EF} {env : DEnv} {ds es : List PyData} {bs : List Nat} (he : env[i]? = some (.ac (.list ds))) (hf : f env = some ⟨.list es, true, bs⟩) (hl : ds.length + es.length ≤ 100000) (hb : i ∉ bs) : sExt i f env = some (.nx ((frzs env bs).set i (.ac (.list (ds ++ es))))) := by
  unfold sExt
  rw [he]
  show ((f env).bind _) = _
  rw [hf]
  show (if _ ∧ _ then _ else _) = _
  rw [if_pos ⟨hl, hb⟩]
end L2
namespace L2
open PySem PySem.Spec PyProof.Rows
end L2
namespace PySem
open Sem (wp)
section
variable {prog : Program} {w : World} {A : Around} {E : Value → Shared → Prop} {h : Heap} {g : Array GenState} {d : Drawn} {t : Nat} {os : OsState}
variable {nm q : Str} {C N : Addr} {bs bm : List Value} {sn : List Str} {sub : List Value} {ab : Bool} {col : Option Bool} {dd : Option Addr} {k0 k1 k2 k3 k5 : Option Value}
end
end PySem
namespace PySem
open Sem (wp)
open Builtin Builtin.ObjectAttr
section
variable {prog : Program} {w : World} {A : Around} {E : Value → Shared → Prop} {h : Heap} {g : Array GenState} {d : Drawn} {t : Nat} {os : OsState}
variable {nm q : Str} {C N x : Addr} {bs bm : List Value} {sn : List Str} {sub : List Value} {ab : Bool} {col : Option Bool} {dd : Option Addr} {k0 k1 k2 k3 k5 : Option Value} {newId : String} {name : Str} {v : Value}
end
end PySem
namespace PySem
open Sem (wp)
section
variable {M : Model} {A : Around} {E : Value → Shared → Prop} {s : Shared} {base : Heap} {env : Env} {outer : List Env} {L e : Addr} {oe : Obj} {vs : Array Value}
end
end PySem
namespace L2
open PySem PySem.Spec PyProof.Rows
section
variable {X : Cx} {pins : List (Addr × Obj)} {σ : St} {H1 : Hp} {s : Shared} {e C dx : Addr} {E : Value → Shared → Prop}
end
end L2
namespace L2
open PySem PySem.Spec PyProof.Rows
section
variable {X : Cx} {pins : List (Addr × Obj)} {σ : St} {H : Hp} {s : Shared} {C f : Addr} {k : Nat} {fd : FuncData}
end
end L2
namespace L2
open PySem PySem.Spec PyProof.Rows
section
variable {X : Cx} {pins : List (Addr × Obj)} {σ : St} {H : Hp} {s : Shared} {C f : Addr} {k : Nat} {fd : FuncData}
end
end L2
namespace L2
open PySem PySem.Spec PyProof.Rows
section
variable {X : Cx} {pins : List (Addr × Obj)} {σ : St} {H : Hp} {s : Shared} {C f : Addr} {k : Nat} {fd : FuncData}
end
end L2
namespace L2
open PySem PySem.Spec PyProof.Rows
section
variable {cl : Str → Addr}
end
end L2
namespace L2
open PySem PySem.Spec PyProof.Rows
section
variable {X : Cx} {pins : List (Addr × Obj)} {σ : St} {H : Hp} {s : Shared}
end
end L2
namespace L2
open PySem PySem.Spec PyProof.Rows
section
variable {X : Cx} {pins : List (Addr × Obj)} {σ : St} {H : Hp} {s : Shared}
end
end L2
namespace L2
open PySem PySem.Spec PyProof.Rows
section
variable {X : Cx} {pins : List (Addr × Obj)} {σ : St} {H1 : Hp} {s1 : Shared}
end
end L2
namespace PySem
open Sem (wp)
open Builtin Builtin.ObjectAttr
section
variable {prog : Program} {w : World} {A : Around} {E : Value → Shared → Prop} {h : Heap} {g : Array GenState} {d : Drawn} {t : Nat} {os : OsState}
variable {nm q : Str} {C N x : Addr} {bs bm : List Value} {sn : List Str} {sub : List Value} {ab : Bool} {col : Option Bool} {dd : Option Addr} {k0 k1 k2 k3 k5 : Option Value} {newId : String} {o : Obj}
end
end PySem
namespace L2
open PySem PySem.Spec PyProof.Rows
section
variable {X : Cx} {C f : Addr}
end
end L2
namespace L2
open PySem PySem.Spec PyProof.Rows
end L2
namespace L2
open PySem PySem.Spec PyProof.Rows
section
variable {K : PySem.W.Frag} {ns : List Int} {J : Nat → Prop}
end
end L2
namespace L2
open PySem PySem.Spec PyProof.Rows
end L2
namespace L2
open PySem PySem.Spec PyProof.Rows
section
variable {X : Cx}
end
end L2
namespace L2
open PySem PySem.Spec PyProof.Rows
end L2
namespace L2
open PySem PySem.Spec PyProof.Rows
section
variable {j : Nat} {C : Addr} {d : PyData}
end
end L2
namespace L2
open PySem PySem.Spec PyProof.Rows
end L2
namespace L2
open PySem PySem.Spec PyProof.Rows
section
variable {X : Cx}
end
end L2
namespace L2
open PySem PySem.Spec PyProof.Rows
section
variable {K : PySem.W.Frag} {C c : Addr}
end
end L2
namespace L2
open PySem PySem.Spec PyProof.Rows
section
variable {K : PySem.W.Frag} {C c B : Addr} {a b : Str}
end
section
variable {X : Cx}
end
end L2
namespace L2
open PySem PySem.Spec PyProof.Rows
end L2
namespace L2
open PySem PySem.Spec PyProof.Rows
section
variable {X : Cx}
end
section
variable {j : Nat} {C : Addr} {d : PyData}
end
end L2
namespace L2
open PySem PySem.Spec PyProof.Rows
end L2
namespace L2
open PySem PySem.Spec PyProof.Rows
end L2
namespace L2
open PySem PySem.Spec PyProof.Rows
end L2
namespace L2
open PySem PySem.Spec PyProof.Rows
end L2
namespace Bc
open PySem L2
noncomputable def zis : SF := (sRet (zdq ["name", "elders"] [] (zas (eVar 0)) (gT 2 (zau 0 (zau 1 zea))) zca (eVar 0)))
noncomputable def zhh : GF := fnD 1 zis
noncomputable def zfr : SF := (sSeq (sSet 2 (zbd 1 zhh (zad (eVar 0) aNil)))
    (sFor (zas (eVar 1)) (gN 3)
    (sIf (zcy (eOp (inD true) (eVar 3) (eVar 2))) zabm sNil)))
noncomputable def zfs : GF := fnD 4 zfr
noncomputable def ztf : SF := (sSeq (sSet 1 zaiu)
    (sSeq (sFor (zas (eVar 0)) (gT 2 (zau 2 (zau 3 zea)))
    (sSeq (sSet 4 (eD1 (eVar 2) (eC (.bool true))))
    (sSeq (sFor (zas (eVar 3)) (gN 5)
    (sUpd 4 (zcz 1 (eVar 5))))
    (sPut 1 (eVar 2) (eVar 4)))))
    (zns 1)))
noncomputable def zfh : GF := fnD 6 ztf
end Bc
namespace Bc
open PySem L2
theorem zeh {α : Type} {enc out : α → PyData} {g : GT} {t : TF} {e : EF} {env : DEnv} (p : α → Bool) : ∀ {l : List α}, (∀ x ∈ l, ∃ e1, g (enc x) env = some e1 ∧ t e1 = some (p x) ∧ (p x = true → ∃ r, e e1 = some r ∧ r.d = out x)) →
    zdk g t e env (l.map enc) = some ((l.filter p).map out)
  | [], _ => rfl
  | x :: l, h => by
    obtain ⟨e1, h1, h2, h3⟩ := h x List.mem_cons_self
    have ih := zeh (l := l) p fun y hy => h y (List.mem_cons_of_mem _ hy)
    rw [List.map_cons]
    unfold zdk
    rw [h1, Option.bind_some, h2, Option.bind_some]
    cases hp : p x with
    | false =>
      rw [if_neg Bool.false_ne_true, ih, List.filter_cons, hp]; rfl
    | true =>
      obtain ⟨r, h4, h5⟩ := h3 hp
      rw [if_pos rfl, h4, Option.bind_some, ih, List.filter_cons, hp]
      simp [h5]
theorem zcf {α : Type} {enc out : α → PyData} {g : GT} {t : TF} {e : EF} {env : DEnv} {l : List α} (h : ∀ x ∈ l, ∃ e1, g (enc x) env = some e1 ∧ t e1 = some true ∧ ∃ r, e e1 = some r ∧ r.d = out x) : zdk g t e env (l.map enc) = some (l.map out) := by
  have q := zeh (enc := enc) (out := out) (g := g) (t := t) (e := e) (env := env) (fun _ => true) (l := l) fun x hx => let ⟨e1, h1, h2, h3⟩ := h x hx; ⟨e1, h1, h2, fun _ => h3⟩
  rw [q]
  congr 2
  exact List.filter_eq_self.mpr fun _ _ => rfl
theorem zabx {α : Type} {enc : α → PyData} {g : GT} {body : SF} (I : List α → DEnv → Prop) (all : List α) : ∀ (l pre : List α) (env : DEnv), pre ++ l = all → I pre env →
    (∀ pre x post env, pre ++ x :: post = all → I pre env → ∃ e1 e2, g (enc x) env = some e1 ∧ (body e1 = some (.nx e2) ∨ body e1 = some (.ct e2)) ∧ I (pre ++ [x]) e2) → ∃ env', forL g body (l.map enc) env = some (.nx env') ∧ I all env'
  | [], pre, env, hall, h0, hs => by
    rw [List.append_nil] at hall
    subst hall
    exact ⟨env, rfl, h0⟩
  | x :: l, pre, env, hall, h0, hs => by
    obtain ⟨e1, e2, h1, h2, h3⟩ := hs pre x l env hall h0
    obtain ⟨env', h4, h5⟩ := zabx I all l (pre ++ [x]) e2 (by rw [← hall]; simp) h3 hs
    refine ⟨env', ?_, h5⟩
    rw [List.map_cons]
    unfold forL
    rw [h1, Option.bind_some]
    rcases h2 with h2 | h2 <;> rw [h2, Option.bind_some] <;> exact h4
theorem zft {α : Type} {enc : α → PyData} {g : GT} {body : SF} {l : List α} {env : DEnv} (I : List α → DEnv → Prop) (h0 : I [] env) (hs : ∀ pre x post env, pre ++ x :: post = l → I pre env → ∃ e1 e2, g (enc x) env = some e1 ∧ (body e1 = some (.nx e2) ∨ body e1 = some (.ct e2)) ∧ I (pre ++ [x]) e2) :
    ∃ env', forL g body (l.map enc) env = some (.nx env') ∧ I l env' := zabx I l l [] env rfl h0 hs
theorem zbv {f g : SF} {env e1 : DEnv} {o : Option Out} (h : f env = some (.nx e1)) (k : g e1 = o) : sSeq f g env = o := by unfold sSeq; rw [h]; exact k
theorem zxo {f g : SF} {env : DEnv} {d : PyData} {fr : Bool} (h : f env = some (.rt d fr)) : sSeq f g env = some (.rt d fr) := by unfold sSeq; rw [h]; rfl
theorem zhd {f : EF} {g : GT} {b : SF} {env : DEnv} {ds : List PyData} {fr : Bool} {bs : List Nat} {o : Option Out} (h : f env = some ⟨.list ds, fr, bs⟩) (k : forL g b ds (frzs env bs) = o) : sFor (zas f) g b env = o := by
  unfold sFor zas; rw [h]; exact k
theorem zaqk {f : IF'} {g : GT} {b : SF} {env : DEnv} {ds : List PyData} {bs : List Nat} {o : Option Out} (h : f env = some (ds, bs)) (k : forL g b ds (frzs env bs) = o) : sFor f g b env = o := by
  unfold sFor; rw [h]; exact k
theorem if_t {c : TF} {f g : SF} {env : DEnv} {o : Option Out} (h : c env = some true) (k : f env = o) : sIf c f g env = o := by unfold sIf; rw [h]; exact k
theorem if_f {c : TF} {f g : SF} {env : DEnv} {o : Option Out} (h : c env = some false) (k : g env = o) : sIf c f g env = o := by unfold sIf; rw [h]; exact k
theorem ztg {i : Nat} {f : EF} {env : DEnv} {r : Val} (h : f env = some r) : sSet i f env = some (.nx (putV env i r)) := by unfold sSet; rw [h]; rfl
theorem zagq {f : EF} {env : DEnv} {r : Val} (h : f env = some r) : zada f env = some (.nx env) := by unfold zada; rw [h]; rfl
theorem zfu {f : EF} {env : DEnv} {d : PyData} {fr : Bool} {bs : List Nat} (h : f env = some ⟨d, fr, bs⟩) : sRet f env = some (.rt d fr) := by unfold sRet; rw [h]; rfl
theorem zbm {n : Nat} {g : GF} {f : AF} {env : DEnv} {rs : List Val} {d : PyData} {fr : Bool} (h : f env = some rs) (hn : rs.length = n) (k : g (zio rs) = some (d, fr)) : zbd n g f env = some ⟨d, fr, bsOf d (bss rs)⟩ := by
  unfold zbd; rw [h, Option.bind_some, if_pos hn, k]; rfl
theorem zdy {own : List Str} {fr : List Nat} {fi : IF'} {g : GT} {t : TF} {e : EF} {env : DEnv} {ds : List PyData} {bs : List Nat} {rs : List PyData} (h : fi env = some (ds, bs)) (hl : ds.length < 100000) (k : zdk g t e (envB own fr env) ds = some rs) :
    zdq own fr fi g t e env = some ⟨.list rs, true, if zfe rs = true then [] else bs ++ capA fr env⟩ := by
  unfold zdq; rw [h, Option.bind_some, if_pos hl, k]; rfl
theorem zhx {n : Nat} {f : SF} {ds : List PyData} {env : DEnv} {d : PyData} {fr : Bool} (h : zjp n ds = env) (e : f env = some (.rt d fr)) : fnD n f ds = some (d, fr) := by
  unfold fnD; rw [h, e]
theorem zarz {n : Nat} {f : SF} {ds : List PyData} {env env' : DEnv} (h : zjp n ds = env) (e : f env = some (.nx env')) : fnD n f ds = some (.none, false) := by
  unfold fnD; rw [h, e]
theorem zrj (n : Int) : neD (.int n) (.int n) = some (.bool false, false) := by
  have e : PyData.eqv (.int n) (.int n) = true := by unfold PyData.eqv; exact beq_self_eq_true n
  show some (PyData.bool (!PyData.eqv (.int n) (.int n)), false) = _
  rw [e]; rfl
end Bc
namespace Bc
open PySem L2
noncomputable def zak (xs : List Str) : PyData := .list (xs.map .str)
noncomputable def rowD (p : Str × List Str) : PyData := .tuple [.str p.1, zak p.2]
noncomputable def webD (W : Web) : PyData := .list (W.map rowD)
theorem zoa (xs : List Str) : zfe (xs.map .str) = true := by
  unfold zfe
  rw [List.all_map]
  exact List.all_eq_true.mpr fun _ _ => rfl
theorem zajz (xs : List Str) (x : Str) : ((xs.map PyData.str).any fun e => PyData.eqv e (.str x)) = decide (x ∈ xs) := by
  rw [List.any_map, Bool.eq_iff_iff, List.any_eq_true, decide_eq_true_iff]
  constructor
  · rintro ⟨y, hy, h⟩
    have : y = x := by simpa [PyData.eqv] using h
    rw [← this]; exact hy
  · exact fun h => ⟨x, h, by simp [PyData.eqv]⟩
theorem zagr (b : Bool) (xs : List Str) (x : Str) : inD b (.str x) (zak xs) = some (.bool (if b then !decide (x ∈ xs) else decide (x ∈ xs)), false) := by
  unfold inD zak
  simp only [zgo]
  rw [if_pos ⟨rfl, zoa xs⟩, zajz]
theorem zth {W : Web} (hl : W.length < 100000) : zhh [webD W] = some (zak (nm W), true) := by
  have c : zdk (gT 2 (zau 0 (zau 1 zea))) zca (eVar 0) [.no, .no] (W.map rowD) = some (W.map fun p => PyData.str p.1) := zcf fun p _ => ⟨[.pl (.str p.1), .pl (zak p.2)], rfl, rfl, ⟨.str p.1, false, []⟩, rfl, rfl⟩
  have e : zis [.pl (webD W)] = some (.rt (zak (nm W)) true) := by
    unfold zis sRet zdq zas
    simp only [eVar, List.getElem?_cons_zero, Option.bind_some, webD, zgo, Option.map_some, List.length_map]
    rw [if_pos hl]
    show Option.map _ (Option.map _ (zdk _ _ _ [.no, .no] _)) = _
    rw [c]
    unfold zak nm
    simp
  show (match zis [.pl (webD W)] with | some (.rt d fr) => some (d, fr) | some (.nx _) => some (.none, false) | _ => none) = _
  rw [e]
theorem zvh {W : Web} (hl : W.length < 100000) {ns : List Str} (h : ∀ n ∈ ns, n ∈ nm W) : zfs [webD W, zak ns] = some (.none, false) := by
  have l : ∃ env', forL (gN 3) (sIf (zcy (eOp (inD true) (eVar 3) (eVar 2))) zabm sNil) (ns.map .str) [.pl (webD W), .pl (zak ns), .ac (zak (nm W)), .no] = some (.nx env') ∧ True := by
    refine zft (fun _ env => ∃ s, env = [.pl (webD W), .pl (zak ns), .ac (zak (nm W)), s]) ⟨_, rfl⟩ ?_ |>.imp fun _ q => ⟨q.1, trivial⟩
    rintro pre x post env hx ⟨s, rfl⟩
    have hm := h x (by rw [← hx]; simp)
    refine ⟨_, [.pl (webD W), .pl (zak ns), .ac (zak (nm W)), .pl (.str x)], rfl, .inl ?_, _, rfl⟩
    simp [sIf, zcy, eOp, eVar, sNil, zagr, hm, bsOf, zkf]
  obtain ⟨env', l, _⟩ := l
  have e : zfr [.pl (webD W), .pl (zak ns), .no, .no] = some (.nx env') := by
    unfold zfr sSeq sSet zbd sFor zas
    simp only [zad, aNil, eVar, List.getElem?_cons_zero, List.getElem?_cons_succ, Option.bind_some, Option.map_some, zio, List.map_cons, List.map_nil, List.length_cons, List.length_nil, zth hl, if_true]
    simp [putV, frzs, bsOf, zak, zkf, bss, slOf, zgo]
    exact l
  show (match zfr [.pl (webD W), .pl (zak ns), .no, .no] with | some (.rt d fr) => some (d, fr) | some (.nx _) => some (.none, false) | _ => none) = _
  rw [e]
end Bc
namespace Bc
open PySem L2
noncomputable def insS (ks : List Str) (k : Str) : List Str := if k ∈ ks then ks else ks ++ [k]
noncomputable def upL (acc : List (Str × List Str)) (e : Str) : List Str := (acc.lookup e).getD []
noncomputable def zkl (acc : List (Str × List Str)) (p : Str × List Str) : List (Str × List Str) := acc ++ [(p.1, p.2.foldl (fun ks e => (upL acc e).foldl insS ks) [p.1])]
noncomputable def ups (W : Web) : List (Str × List Str) := W.foldl zkl []
noncomputable def up (W : Web) (n : Str) : List Str := upL (ups W) n
theorem zjl (W : Web) (p : Str × List Str) : ups (W ++ [p]) = zkl (ups W) p := by unfold ups; rw [List.foldl_append]; rfl
theorem zaka {ks : List Str} {k x : Str} : x ∈ insS ks k ↔ x ∈ ks ∨ x = k := by
  unfold insS
  split
  · rename_i h
    exact ⟨.inl, fun z => z.elim id fun e => e ▸ h⟩
  · simp
theorem zms {x : Str} : ∀ {ms ks : List Str}, x ∈ ms.foldl insS ks ↔ x ∈ ks ∨ x ∈ ms
  | [], ks => by simp
  | m :: ms, ks => by
    rw [List.foldl_cons, zms, zaka]
    simp [or_assoc]
theorem zani {ks : List Str} {k : Str} (h : ks.Nodup) : (insS ks k).Nodup := by
  unfold insS
  split
  · exact h
  · rename_i hk; exact nd_snoc h hk
theorem zvi : ∀ {ms ks : List Str}, ks.Nodup → (ms.foldl insS ks).Nodup
  | [], _, h => h
  | _ :: ms, _, h => zvi (ms := ms) (zani h)
theorem zvj {acc : List (Str × List Str)} {x : Str} : ∀ {es ks : List Str}, x ∈ es.foldl (fun ks e => (upL acc e).foldl insS ks) ks ↔ x ∈ ks ∨ ∃ e ∈ es, x ∈ upL acc e
  | [], ks => by simp
  | e :: es, ks => by
    rw [List.foldl_cons, zvj, zms]
    simp [or_assoc]
theorem zaby {acc : List (Str × List Str)} : ∀ {es ks : List Str}, ks.Nodup → (es.foldl (fun ks e => (upL acc e).foldl insS ks) ks).Nodup
  | [], _, h => h
  | _ :: es, _, h => zaby (es := es) (zvi h)
theorem zek {l : List (Str × List Str)} {n : Str} {p : Str × List Str} : (l ++ [p]).lookup n = (l.lookup n).or (if n == p.1 then some p.2 else none) := by
  induction l with
  | nil =>
    obtain ⟨a, b⟩ := p
    show List.lookup n [(a, b)] = _
    rw [List.lookup_cons]
    cases n == a <;> rfl
  | cons q l ih =>
    obtain ⟨a, b⟩ := q
    rw [List.cons_append, List.lookup_cons, List.lookup_cons]
    cases n == a with
    | true => rfl
    | false => exact ih
theorem zvk {α : Type} {P : List α → Prop} (h0 : P []) (hs : ∀ l x, P l → P (l ++ [x])) : ∀ l, P l := by
  intro l
  have : ∀ n (l : List α), l.length = n → P l := by
    intro n
    induction n with
    | zero => intro l e; rw [List.length_eq_zero_iff.mp e]; exact h0
    | succ n ih =>
      intro l e
      have hne : l ≠ [] := fun z => by rw [z] at e; cases e
      rw [← List.dropLast_concat_getLast hne]
      exact hs _ _ (ih _ (by rw [List.length_dropLast, e]; rfl))
  exact this _ l rfl
theorem zew : ∀ (W : Web), (ups W).map (·.1) = nm W := by
  refine zvk rfl fun W p ih => ?_
  rw [zjl]
  unfold zkl nm
  rw [List.map_append, List.map_append, ih]
  rfl
theorem zob (W : Web) (p : Str × List Str) : nm (W ++ [p]) = nm W ++ [p.1] := by unfold nm; rw [List.map_append]; rfl
theorem zit {W : Web} {p : Str × List Str} (h : WebOk (W ++ [p])) : WebOk W ∧ p.1 ∉ nm W ∧ (∀ e ∈ p.2, e ∈ nm W) ∧ p.2.length ≤ 4 := by
  have hp : (W ++ [p])[W.length]? = some p := by simp
  refine ⟨⟨?_, fun i n es e => ?_, fun q hq => h.few q (List.mem_append_left _ hq), ?_⟩, ?_, fun e he => ?_, h.few p (by simp)⟩
  · have := h.nd; rw [zob] at this; exact (List.nodup_append.mp this).1
  · have hi : i < W.length := (List.getElem?_eq_some_iff.mp e).1
    have q := h.el i n es (by rw [List.getElem?_append_left hi]; exact e)
    rw [List.take_append_of_le_length (by omega)] at q
    exact q
  · have := h.len; simp at this; omega
  · have := h.nd
    rw [zob] at this
    intro hm
    exact (List.nodup_append.mp this).2.2 p.1 hm p.1 (by simp) rfl
  · have q := h.el W.length p.1 p.2 hp e he
    rw [List.take_append_of_le_length (Nat.le_refl _), List.take_length] at q
    exact q
theorem zhy {l : List (Str × List Str)} {n : Str} (h : n ∈ l.map (·.1)) : ∃ ks, l.lookup n = some ks ∧ (n, ks) ∈ l := by
  induction l with
  | nil => simp at h
  | cons q l ih =>
    obtain ⟨a, b⟩ := q
    rw [List.lookup_cons]
    cases e : n == a with
    | true => rw [eq_of_beq e]; exact ⟨b, rfl, List.mem_cons_self⟩
    | false =>
      have hn : n ≠ a := beq_eq_false_iff_ne.mp e
      rcases List.mem_cons.mp h with z | z
      · exact absurd z hn
      · obtain ⟨ks, h1, h2⟩ := ih z
        exact ⟨ks, h1, List.mem_cons_of_mem _ h2⟩
theorem zanj {W : Web} {p : Str × List Str} {m : Str} (h : m ∈ nm W) : up (W ++ [p]) m = up W m := by
  unfold up upL
  rw [zjl]
  unfold zkl
  obtain ⟨ks, e, _⟩ := zhy (l := ups W) (n := m) (by rw [zew]; exact h)
  rw [zek, e]
  rfl
theorem zlz {l : List (Str × List Str)} {n : Str} (h : n ∉ l.map (·.1)) : l.lookup n = none := by
  induction l with
  | nil => rfl
  | cons q l ih =>
    obtain ⟨a, b⟩ := q
    rw [List.lookup_cons]
    have h1 : n ≠ a := fun z => h (by simp [z])
    rw [beq_eq_false_iff_ne.mpr h1]
    exact ih fun z => h (List.mem_cons_of_mem _ z)
theorem zaql {W : Web} {p : Str × List Str} (h : p.1 ∉ nm W) : up (W ++ [p]) p.1 = p.2.foldl (fun ks e => (upL (ups W) e).foldl insS ks) [p.1] := by
  unfold up upL
  rw [zjl]
  unfold zkl
  rw [zek, zlz (by rw [zew]; exact h)]
  simp [upL]
theorem zabz : ∀ {W : Web}, WebOk W → ∀ {n x : Str}, x ∈ up W n → x ∈ nm W := by
  intro W
  refine zvk (P := fun W => WebOk W → ∀ {n x : Str}, x ∈ up W n → x ∈ nm W) (fun _ n x h => by simp [up, ups, upL] at h) (fun W p ih h n x hx => ?_) W
  obtain ⟨hW, hp, hel, _⟩ := zit h
  rw [zob]
  by_cases hn : n ∈ nm W
  · rw [zanj hn] at hx
    exact List.mem_append_left _ (ih hW hx)
  · by_cases e : n = p.1
    · rw [e, zaql hp, zvj] at hx
      rcases hx with hx | ⟨e', _, hx⟩
      · exact List.mem_append_right _ (by simpa using hx)
      · exact List.mem_append_left _ (ih hW hx)
    · unfold up upL at hx
      rw [zjl] at hx
      unfold zkl at hx
      rw [zek, zlz (by rw [zew]; exact hn), beq_eq_false_iff_ne.mpr e] at hx
      simp at hx
theorem zaqm : ∀ {W : Web} {n : Str}, (up W n).Nodup := by
  intro W
  refine zvk (P := fun W => ∀ {n : Str}, (up W n).Nodup) (fun {n} => by simp [up, ups, upL]) (fun W p ih n => ?_) W
  unfold up upL
  rw [zjl]
  unfold zkl
  rw [zek]
  cases e : (ups W).lookup n with
  | some ks =>
    have q := ih (n := n)
    unfold up upL at q
    rw [e] at q
    exact q
  | none =>
    show ((if n == p.1 then some _ else none).getD []).Nodup
    split
    · exact zaby (by simp)
    · exact List.nodup_nil
theorem zags {W : Web} (h : WebOk W) (n : Str) : (up W n).length ≤ 12 := by
  have := zim _ (nm W) (zaqm (W := W) (n := n)) fun x hx => zabz h hx
  have := zqe h
  omega
noncomputable def dS (f : List Str → PyData) (l : List (Str × List Str)) : List (PyData × PyData) := l.map fun p => (.str p.1, f p.2)
theorem zoc (f : List Str → PyData) (n : Str) : ∀ l : List (Str × List Str), zlg (dS f l) (Sum.inr n) = (l.lookup n).map f
  | [] => rfl
  | (a, b) :: l => by
    have ih := zoc f n l
    show (if keyD (.str a) = some (Sum.inr n) then some (f b) else zlg (dS f l) (Sum.inr n)) = _
    rw [List.lookup_cons]
    by_cases e : a = n
    · subst e; rw [if_pos (show keyD (.str a) = some (Sum.inr a) from rfl), beq_self_eq_true]; rfl
    · rw [if_neg (show ¬ keyD (.str a) = some (Sum.inr n) from fun z => e (Sum.inr.inj (Option.some.inj z))), beq_eq_false_iff_ne.mpr (Ne.symm e)]
      exact ih
theorem zagt (f : List Str → PyData) {l : List (Str × List Str)} {n : Str} {ks : List Str} (h : n ∉ l.map (·.1)) : znp (dS f l) (.str n) (f ks) = dS f (l ++ [(n, ks)]) := by
  unfold znp dS
  rw [if_neg, List.map_append]
  · rfl
  · intro z
    rw [List.any_map, List.any_eq_true] at z
    obtain ⟨p, hp, e⟩ := z
    have e := of_decide_eq_true e
    exact h (List.mem_map.mpr ⟨p, hp, Sum.inr.inj (Option.some.inj e)⟩)
noncomputable def zid (ks : List Str) : List (PyData × PyData) := ks.map fun k => (.str k, .bool true)
noncomputable def zbk (ks : List Str) : PyData := .dict (zid ks)
theorem zxp (x : Str) : ∀ ks : List Str, zzn (zid ks) (Sum.inr x) = decide (x ∈ ks)
  | [] => by simp [zid, zzn, zlg]
  | k :: ks => by
    have ih := zxp x ks
    unfold zzn at ih ⊢
    show (if keyD (.str k) = some (Sum.inr x) then some (PyData.bool true) else zlg (zid ks) (Sum.inr x)).isSome = _
    by_cases e : k = x
    · subst e; rw [if_pos (show keyD (.str k) = some (Sum.inr k) from rfl)]; simp
    · rw [if_neg (show ¬ keyD (.str k) = some (Sum.inr x) from fun z => e (Sum.inr.inj (Option.some.inj z))), ih]
      have : ¬ x = k := fun z => e z.symm
      simp [this]
theorem zagu (ks : List Str) (k : Str) : znp (zid ks) (.str k) (.bool true) = zid (insS ks k) := by
  have ha : ((zid ks).any fun kv => decide (keyD kv.1 = keyD (.str k))) = decide (k ∈ ks) := by
    unfold zid
    rw [List.any_map, Bool.eq_iff_iff, List.any_eq_true, decide_eq_true_iff]
    constructor
    · rintro ⟨y, hy, h⟩
      have h := of_decide_eq_true h
      have : y = k := Sum.inr.inj (Option.some.inj h)
      rw [← this]; exact hy
    · exact fun h => ⟨k, h, decide_eq_true rfl⟩
  unfold znp insS
  rw [ha]
  by_cases hk : k ∈ ks
  · rw [if_pos (decide_eq_true hk), if_pos hk]
    unfold zid
    rw [List.map_map]
    refine List.map_congr_left fun y _ => ?_
    show (if keyD (PyData.str y) = keyD (.str k) then (PyData.str y, PyData.bool true) else (PyData.str y, PyData.bool true)) = _
    split <;> rfl
  · rw [if_neg (by simpa using hk), if_neg hk]
    unfold zid
    rw [List.map_append]; rfl
theorem zma : ∀ (ms ks : List Str), znq (zid ks) (zid ms) = zid (ms.foldl insS ks)
  | [], _ => rfl
  | m :: ms, ks => by
    show znq (znp (zid ks) (.str m) (.bool true)) (zid ms) = _
    rw [zagu, zma ms]; rfl
theorem zaca {α : Type} {pre post : List α} {x : α} {l : List α} (h : pre ++ x :: post = l) : l = (pre ++ [x]) ++ post := by rw [← h]; simp
theorem zxq : ∀ {post W : Web}, WebOk (W ++ post) → WebOk W := by
  intro post
  refine zvk (P := fun post => ∀ {W : Web}, WebOk (W ++ post) → WebOk W) (fun {W} h => by rwa [List.append_nil] at h) (fun post p ih W h => ?_) post
  rw [← List.append_assoc] at h
  exact ih (zit h).1
theorem zti {W : Web} (h : WebOk W) : zfh [webD W] = some (.dict (dS zbk (ups W)), true) := by
  have inner : ∀ (V : Web) (p : Str × List Str) (es pre : List Str) (s5 : Sl), WebOk (V ++ [p]) → pre ++ es = p.2 →
      ∃ s5', forL (gN 5) (sUpd 4 (zcz 1 (eVar 5))) (es.map .str) [.pl (webD W), .ac (.dict (dS zbk (ups V))), .pl (.str p.1), .pl (zak p.2), .ac (zbk (pre.foldl (fun ks e => (upL (ups V) e).foldl insS ks) [p.1])), s5] =
        some (.nx [.pl (webD W), .ac (.dict (dS zbk (ups V))), .pl (.str p.1), .pl (zak p.2), .ac (zbk (p.2.foldl (fun ks e => (upL (ups V) e).foldl insS ks) [p.1])), s5']) := by
    intro V p es
    induction es with
    | nil => intro pre s5 _ e; rw [List.append_nil] at e; subst e; exact ⟨s5, rfl⟩
    | cons e es ih =>
      intro pre s5 hV hp
      obtain ⟨hV', hn, hel, hfew⟩ := zit hV
      have he : e ∈ nm V := hel e (by rw [← hp]; simp)
      obtain ⟨ks, lk, _⟩ := zhy (l := ups V) (n := e) (by rw [zew]; exact he)
      have eup : upL (ups V) e = ks := by unfold upL; rw [lk]; rfl
      have l1 : ks.length ≤ 12 := by rw [← eup]; exact zags hV' e
      have sub : ∀ x ∈ pre.foldl (fun ks e => (upL (ups V) e).foldl insS ks) [p.1], x ∈ nm (V ++ [p]) := fun x hx => by
        rw [zob]
        rcases zvj.mp hx with z | ⟨e', _, z⟩
        · exact List.mem_append_right _ (by simpa using z)
        · exact List.mem_append_left _ (zabz hV' z)
      have l2 : (pre.foldl (fun ks e => (upL (ups V) e).foldl insS ks) [p.1]).length ≤ 12 := by
        have := zim _ _ (zaby (acc := ups V) (es := pre) (ks := [p.1]) (by simp)) sub
        have := zqe hV
        omega
      obtain ⟨s5', q⟩ := ih (pre ++ [e]) (.pl (.str e)) hV (by rw [← hp]; simp)
      refine ⟨s5', ?_⟩
      rw [List.map_cons]
      unfold forL
      simp only [gN, Option.bind_some, List.set_cons_succ, List.set_cons_zero]
      have b : sUpd 4 (zcz 1 (eVar 5)) [.pl (webD W), .ac (.dict (dS zbk (ups V))), .pl (.str p.1), .pl (zak p.2), .ac (zbk (pre.foldl (fun ks e => (upL (ups V) e).foldl insS ks) [p.1])), .pl (.str e)] =
          some (.nx [.pl (webD W), .ac (.dict (dS zbk (ups V))), .pl (.str p.1), .pl (zak p.2), .ac (zbk ((pre ++ [e]).foldl (fun ks e => (upL (ups V) e).foldl insS ks) [p.1])), .pl (.str e)]) := by
        have lz : (zid (pre.foldl (fun ks e => (upL (ups V) e).foldl insS ks) [p.1])).length + (zid ks).length ≤ 100000 := by unfold zid; rw [List.length_map, List.length_map]; omega
        simp only [sUpd, zbk, zcz, eVar, List.getElem?_cons_succ, List.getElem?_cons_zero, Option.bind_some, keyD, zoc, lk, Option.map_some]
        rw [if_pos ⟨lz, by simp⟩, zma]
        simp [frzs, List.foldl_append, eup]
      rw [b, Option.bind_some]
      exact q
  have outer : ∃ env', forL (gT 2 (zau 2 (zau 3 zea))) (sSeq (sSet 4 (eD1 (eVar 2) (eC (.bool true)))) (sSeq (sFor (zas (eVar 3)) (gN 5) (sUpd 4 (zcz 1 (eVar 5)))) (sPut 1 (eVar 2) (eVar 4)))) (W.map rowD) [.pl (webD W), .ac (.dict []), .no, .no, .no, .no] = some (.nx env') ∧
      ∃ s2 s3 s4 s5, env' = [.pl (webD W), .ac (.dict (dS zbk (ups W))), s2, s3, s4, s5] := by
    refine zft (fun pre env => ∃ s2 s3 s4 s5, env = [.pl (webD W), .ac (.dict (dS zbk (ups pre))), s2, s3, s4, s5]) ⟨_, _, _, _, rfl⟩ ?_
    rintro pre p post env hp ⟨s2, s3, s4, s5, rfl⟩
    have hV : WebOk (pre ++ [p]) := zxq (post := post) (by rw [← zaca hp]; exact h)
    obtain ⟨hV', hn, hel, hfew⟩ := zit hV
    obtain ⟨s5', q⟩ := inner pre p p.2 [] s5 hV rfl
    refine ⟨[.pl (webD W), .ac (.dict (dS zbk (ups pre))), .pl (.str p.1), .pl (zak p.2), s4, s5], [.pl (webD W), .ac (.dict (dS zbk (ups (pre ++ [p])))), .pl (.str p.1), .pl (zak p.2), .pl (zbk (p.2.foldl (fun ks e => (upL (ups pre) e).foldl insS ks) [p.1])), s5'], rfl, .inl ?_, _, _, _, _, rfl⟩
    have lz : (dS zbk (ups pre)).length < 100000 := by
      unfold dS
      rw [List.length_map, ← List.length_map (f := (·.1)), zew]
      have := zqe hV'
      omega
    have st : sSet 4 (eD1 (eVar 2) (eC (.bool true))) [.pl (webD W), .ac (.dict (dS zbk (ups pre))), .pl (.str p.1), .pl (zak p.2), s4, s5] = some (.nx [.pl (webD W), .ac (.dict (dS zbk (ups pre))), .pl (.str p.1), .pl (zak p.2), .ac (zbk [p.1]), s5]) := by
      simp [sSet, eD1, eVar, eC, keyD, putV, frzs, slOf, zbk, zid]
    have pt : sPut 1 (eVar 2) (eVar 4) [.pl (webD W), .ac (.dict (dS zbk (ups pre))), .pl (.str p.1), .pl (zak p.2), .ac (zbk (p.2.foldl (fun ks e => (upL (ups pre) e).foldl insS ks) [p.1])), s5'] =
        some (.nx [.pl (webD W), .ac (.dict (dS zbk (ups (pre ++ [p])))), .pl (.str p.1), .pl (zak p.2), .pl (zbk (p.2.foldl (fun ks e => (upL (ups pre) e).foldl insS ks) [p.1])), s5']) := by
      simp only [sPut, eVar, List.getElem?_cons_succ, List.getElem?_cons_zero, Option.bind_some, keyD]
      rw [if_pos ⟨lz, by simp⟩, zagt zbk (by rw [zew]; exact hn), zjl]
      simp [frzs, frz1, zkl]
    exact zbv st (zbv (zhd rfl q) pt)
  obtain ⟨env', hl, s2, s3, s4, s5, rfl⟩ := outer
  exact zhx (env := [.pl (webD W), .no, .no, .no, .no, .no]) rfl (zbv rfl (zbv (zhd rfl hl) rfl))
end Bc
namespace Bc
open PySem L2
noncomputable def ltr (i : Int) : Str := ⟨#[97 + i.toNat]⟩
noncomputable def Low (x : Str) : Prop := ∀ c ∈ x.cps.toList, c < 128
theorem zrk {x : Str} (h : Low x) : PyData.strOk x = true := by
  unfold PyData.strOk
  rw [← Array.all_toList, List.all_eq_true]
  intro c hc
  have := h c hc
  exact decide_eq_true (by omega)
theorem zacb (a b : Str) : (a ++ b).cps.toList = a.cps.toList ++ b.cps.toList := by
  show (a.cps ++ b.cps).toList = _
  simp
theorem Low.app {a b : Str} (h1 : Low a) (h2 : Low b) : Low (a ++ b) := fun c hc => by
  rw [zacb] at hc
  exact (List.mem_append.mp hc).elim (h1 c) (h2 c)
theorem Low.slice {x : Str} (h : Low x) (l u : Option Int) : Low (Txt.slice x l u) := fun c hc => by
  unfold Txt.slice at hc
  split at hc
  · exact h c hc
  · have hc : c ∈ (List.filterMap (x.cps[·]?) (Builtin.Str.strSliceIndices l u 1 x.length)) := by simpa using hc
    obtain ⟨i, _, e⟩ := List.mem_filterMap.mp hc
    exact h c (by
      have := Array.mem_of_getElem? e
      simpa using this)
theorem Low.ltr {i : Int} (h0 : 0 ≤ i) (h1 : i < 26) : Low (ltr i) := fun c hc => by
  have : c = 97 + i.toNat := by simpa [Bc.ltr] using hc
  omega
theorem zrl {α : Type} {f : Nat → α} {n : Nat} (h : ∀ a b, a < n → b < n → f a = f b → a = b) : ((List.range n).map f).Nodup := by
  rw [List.nodup_iff_pairwise_ne, List.pairwise_map]
  refine List.Pairwise.imp_of_mem ?_ (List.pairwise_lt_range (n := n))
  intro a b ha hb hab e
  have := h a b (List.mem_range.mp ha) (List.mem_range.mp hb) e
  omega
end Bc
namespace Bc
open PySem L2
noncomputable abbrev vi (i : Int) : Val := ⟨.int i, false, []⟩
noncomputable abbrev vs (x : Str) : Val := ⟨.str x, false, []⟩
noncomputable abbrev vb (b : Bool) : Val := ⟨.bool b, false, []⟩
section
variable {a b : EF} {env : DEnv} {i j : Int}
theorem zasa (ha : a env = some (vi i)) (hb : b env = some (vi j)) : eOp eqD a b env = some (vb (i == j)) := by
  unfold eOp; rw [ha, hb]; rfl
theorem zasb {x : Str} {l h : PF'} {lo hi : Option Int} (ha : a env = some (vs x)) (hl : l env = some lo) (hh : h env = some hi) (hz : x.length ≤ 100000) : eSl a l h env = some (vs (Txt.slice x lo hi)) := by
  unfold eSl; rw [ha, hl, hh]
  simp only [Option.bind_some, slD]
  rw [if_pos hz]; simp [bsOf, zkf]
theorem zjs {c : Bool} (ha : a env = some (vb c)) : zcy a env = some c := by unfold zcy; rw [ha]; rfl
theorem zgv {r : Val} (ha : a env = some r) : zad a aNil env = some [r] := by unfold zad aNil; rw [ha]; rfl
theorem zacc {ds : List PyData} {fr : Bool} {bs : List Nat} (ha : a env = some ⟨.list ds, fr, bs⟩) : eCB lenD (zad a aNil) env = some (vi ds.length) := by
  unfold eCB
  rw [zgv ha]
  simp [zio, lenD, bsOf, zkf]
theorem zaqn {α β : Type} (f : α → β) {l : List α} {n : Nat} {x : α} (h : l[n]? = some x) : atI (l.map f) (n : Int) = some (f x) := zun (by rw [List.getElem?_map, h]; rfl)
theorem zasc {k n : Nat} {b : EF} {ds : List PyData} {d : PyData} (he : env[k]? = some (.ac (.list ds))) (hb : b env = some (vi (n : Int))) (hd : ds[n]? = some d) : eIxV k b env = some ⟨d, false, []⟩ := by
  unfold eIxV
  rw [he]
  simp only
  rw [hb]
  simp only [Option.bind_some]
  rw [zun hd]; rfl
end
noncomputable def abc : Str := "abcdefghijklmnopqrstuvwxyz"
theorem zagv : (List.range 26).all (fun i => abc.cps.toList[i]? == some (97 + i)) = true := by decide +kernel
theorem zagw : abc.length = 26 := by decide +kernel
theorem zaqo {i : Int} (h0 : 0 ≤ i) (h1 : i < 26) : atI abc.cps.toList i = some (97 + i.toNat) := by
  have q := List.all_eq_true.mp zagv i.toNat (List.mem_range.mpr (by omega))
  have e : ((i.toNat : Nat) : Int) = i := by omega
  rw [← e]
  have z := zun (eq_of_beq q)
  rw [e] at z ⊢
  exact z
theorem zaqp {i : Nat} {f : EF} {env : DEnv} {ds : List PyData} {d : PyData} {fr : Bool} (he : env[i]? = some (.ac (.list ds))) (hf : f env = some ⟨d, fr, []⟩) (hl : ds.length < 100000) : sApp i f env = some (.nx (env.set i (.ac (.list (ds ++ [d]))))) := by
  unfold sApp
  rw [he]
  simp only
  rw [hf]
  simp only [Option.bind_some]
  rw [if_pos ⟨hl, by simp⟩]; rfl
theorem zmt (n : Nat) : zos 0 n = (List.range n).map (fun (k : Nat) => PyData.int (k : Int)) := by
  unfold zos
  refine List.map_congr_left fun k _ => ?_
  show PyData.int (0 + (k : Int)) = _
  rw [Int.zero_add]
theorem zagx (a b : Str) : (a ++ b).length = a.length + b.length := by
  have := congrArg List.length (zacb a b)
  rw [List.length_append] at this
  simpa [Str.length] using this
end Bc
namespace Bc
open PySem L2
end Bc
namespace Bc
open PySem L2
section
variable {a b : EF} {env : DEnv} {x y : Str}
theorem e_in {neg : Bool} {xs : List Str} {fr : Bool} {bs : List Nat} (ha : a env = some (vs x)) (hb : b env = some ⟨zak xs, fr, bs⟩) : eOp (inD neg) a b env = some (vb (if neg then !decide (x ∈ xs) else decide (x ∈ xs))) := by
  unfold eOp; rw [ha, hb]; simp [zagr, bsOf, zkf]
theorem zaqq {k : Nat} {kvs : List (PyData × PyData)} {d : PyData} (he : env[k]? = some (.pl (.dict kvs)) ∨ env[k]? = some (.ac (.dict kvs))) (hb : b env = some (vs y)) (hd : zlg kvs (Sum.inr y) = some d) : zcz k b env = some ⟨d, false, []⟩ := by
  unfold zcz
  rcases he with he | he <;> rw [he] <;> simp only <;> rw [hb] <;> simp [keyD, hd]
theorem zald {neg : Bool} {ks : List Str} {fr : Bool} {bs : List Nat} (ha : a env = some (vs x)) (hb : b env = some ⟨zbk ks, fr, bs⟩) : eDIn neg a b env = some (vb (if neg then !decide (x ∈ ks) else decide (x ∈ ks))) := by
  unfold eDIn; rw [ha, hb]; simp [zbk, keyD, zxp]
end
theorem ztj {W : Web} {n : Str} (h : n ∈ nm W) : (ups W).lookup n = some (up W n) := by
  obtain ⟨ks, e, _⟩ := zhy (l := ups W) (n := n) (by rw [zew]; exact h)
  unfold up upL
  rw [e]; rfl
end Bc
namespace Bc
open PySem L2
theorem zcm {a : EF} {f : AF} {env : DEnv} {r : Val} {rs : List Val} (ha : a env = some r) (hf : f env = some rs) : zad a f env = some (r :: rs) := by unfold zad; rw [ha, hf]; rfl
theorem zacd {f : EF} {env : DEnv} {c : Bool} (h : f env = some (vb c)) : zkg (tTru f) env = some (!c) := by unfold zkg tTru; rw [h]; rfl
end Bc
namespace Bc
open PySem L2
theorem zpy : ∀ (xs : List Str), (∀ x ∈ xs, PyData.strOk x = true) → PyData.canLayAll0 (xs.map .str) = true ∧ PyData.depthAll (xs.map .str) = 0
  | [], _ => ⟨rfl, rfl⟩
  | x :: xs, h => by
    obtain ⟨h1, h2⟩ := zpy xs fun y hy => h y (List.mem_cons_of_mem _ hy)
    rw [List.map_cons]
    refine ⟨?_, ?_⟩
    · show (PyData.strOk x && PyData.canLayAll0 (xs.map .str)) = true
      rw [h x List.mem_cons_self, h1]; rfl
    · show max 0 (PyData.depthAll (xs.map .str)) = 0
      rw [h2]; rfl
end Bc
namespace Bc
open PySem L2
noncomputable def ztk : SF := (sSeq (sIf (tTru (eIsi "tuple" (eVar 0))) (sRet (eCB zuv (zad (eVar 0) aNil))) sNil)
    (sRet (eLst (zad (eVar 0) aNil))))
noncomputable def zga : GF := fnD 1 ztk
noncomputable def zxr : SF := (sSeq (sSet 2 zaiu)
    (sSeq (sFor (zas (zbd 1 zga (zad (eVar 1) aNil))) (gN 3)
    (sUpd 2 (zcz 0 (eVar 3))))
    (zns 2)))
noncomputable def zkm : GF := fnD 4 zxr
end Bc
namespace Bc
open PySem L2
theorem zmu {α : Type} (f : α → Bool) : ∀ (l : List α), zor (l.map fun x => .bool (f x)) = some (l.map f)
  | [] => rfl
  | x :: l => by
    show (zor (l.map fun x => .bool (f x))).map _ = _
    rw [zmu f l]; rfl
theorem zank {α : Type} {f : α → Bool} {l : List α} {a : EF} {env : DEnv} {fr : Bool} {bs : List Nat} (ha : a env = some ⟨.list (l.map fun x => .bool (f x)), fr, bs⟩) : eCB (anyD fun bs => bs.all id) (zad a aNil) env = some (vb (l.all f)) := by
  unfold eCB
  rw [zgv ha, Option.bind_some]
  show ((zor (l.map fun x => .bool (f x))).map _).bind _ = _
  rw [zmu]
  simp only [Option.map_some, Option.bind_some, List.all_map]
  rfl
end Bc
namespace Bc
open PySem L2
theorem zmb {α : Type} {enc : α → PyData} {out : α → List PyData} {g : GT} {t : TF} {f2 : IF'} {g2 : GT} {t2 : TF} {e : EF} {env : DEnv} : ∀ {l : List α}, (∀ x ∈ l, ∃ e1, g (enc x) env = some e1 ∧ t e1 = some true ∧ innL f2 g2 t2 e e1 = some (out x)) →
    zjq g t f2 g2 t2 e env (l.map enc) = some (l.flatMap out)
  | [], _ => rfl
  | x :: l, h => by
    obtain ⟨e1, h1, h2, h3⟩ := h x List.mem_cons_self
    have ih := zmb (l := l) fun y hy => h y (List.mem_cons_of_mem _ hy)
    rw [List.map_cons]
    unfold zjq
    rw [h1, Option.bind_some, h2, Option.bind_some, if_pos rfl, h3, Option.bind_some, ih, List.flatMap_cons]
    rfl
theorem zace {own : List Str} {fr : List Nat} {fi : IF'} {g : GT} {t : TF} {f2 : IF'} {g2 : GT} {t2 : TF} {e : EF} {env : DEnv} {ds : List PyData} {bs : List Nat} {rs : List PyData} (h : fi env = some (ds, bs)) (hl : ds.length < 300) (k : zjq g t f2 g2 t2 e (envB own fr env) ds = some rs) :
    zqu own fr fi g t f2 g2 t2 e env = some ⟨.list rs, true, if zfe rs = true then [] else bs ++ capA fr env⟩ := by
  unfold zqu; rw [h, Option.bind_some, if_pos hl, k]; rfl
end Bc
namespace Bc
open PySem L2
end Bc
namespace Bc
open PySem L2
end Bc
namespace Bc
open PySem L2
noncomputable def zkn : SF := (sRet (zqu ["arm", "name"] [] (zas (eVar 0)) (gN 0) zca (zas (zbd 1 zga (zad (eVar 0) aNil))) (gN 1) zca (eVar 1)))
noncomputable def zfv : GF := fnD 1 zkn
noncomputable def zot : SF := (sSeq (sIf (zcy (eOp neD (eCB lenD (zad (eVar 2) aNil)) (eVar 1))) zabm sNil)
    (zada (zbd 2 zfs (zad (eVar 0) (zad (zbd 1 zfv (zad (eVar 2) aNil)) aNil)))))
noncomputable def zig : GF := fnD 3 zot
noncomputable def zko : SF := (sRet (zdq ["arm"] [0] (zas (eVar 1)) (gN 0) zca (zbd 2 zkm (zad (eVar 1) (zad (eVar 0) aNil)))))
noncomputable def zei : GF := fnD 2 zko
noncomputable def zou : SF := (sRet (eCB (anyD fun bs => bs.all id) (zad (zdq ["kind", "roof"] [] (znv (zad (eVar 0) (zad (eVar 1) aNil))) (gT 2 (zau 0 (zau 1 zea))) zca (eDIn false (eVar 0) (eVar 1))) aNil)))
noncomputable def zgq : GF := fnD 2 zou
noncomputable def zrm : SF := (sRet (eAnd (eOp neD (eVar 1) (eVar 2)) (eCB (anyD fun bs => bs.all id) (zad (zdq ["low", "high"] [0] (znv (zad (eVar 1) (zad (eVar 2) aNil))) (gT 2 (zau 0 (zau 1 zea))) zca (eDIn false (eVar 1) (zcz 2 (eVar 0)))) aNil))))
noncomputable def zgb : GF := fnD 3 zrm
noncomputable def zjt : SF := (sSeq (sAsg (eVar 0) (gT 3 (zau 2 (zau 3 (zau 4 zea)))))
    (sSeq (zada (zbd 3 zig (zad (eVar 2) (zad (eVar 3) (zad (eVar 1) aNil)))))
    (sSeq (sSet 5 (zbd 2 zei (zad (zbd 1 zfh (zad (eVar 2) aNil)) (zad (eVar 1) aNil))))
    (sRet (zdq ["rule"] [5] (zas (eVar 4)) (gN 0) (tTru (zbd 2 zgq (zad (eIxV 0 (eC (.int 1))) (zad (eVar 1) aNil)))) (eVar 0))))))
noncomputable def zeb : GF := fnD 6 zjt
noncomputable def zov : SF := (sRet (zdq ["rule"] [0, 1] (zas (eVar 1)) (gN 0) (zkg (tTru (eCB (anyD fun bs => bs.any id) (zad (zdq ["name", "kinds"] [0, 1] (zas (eVar 2)) (gT 2 (zau 0 (zau 1 zea))) zca (zbd 3 zgb (zad (eVar 3) (zad (eVar 1) (zad (eIxV 2 (eC (.int 1))) aNil))))) aNil)))) (eVar 0)))
noncomputable def zgr : GF := fnD 2 zov
noncomputable def zow : SF := (sRet (zdq ["name", "kinds"] [] (zas (eVar 0)) (gT 2 (zau 0 (zau 1 zea))) zca (eVar 0)))
noncomputable def zih : GF := fnD 1 zow
noncomputable def zrn : SF := (sSeq (sIf (zkg (tTru (eVar 0))) (sRet (eTup (zad (eC (.str "none")) aNil))) sNil)
    (sSeq (sIf (zcy (eOp eqD (eCB lenD (zad (eVar 0) aNil)) (eC (.int 1)))) (sRet (eTup (zad (eC (.str "rule")) (zad (eIxV 0 (eC (.int 0))) aNil)))) sNil)
    (sRet (eTup (zad (eC (.str "quarrel")) (zad (eCB zlk (zad (eVar 0) aNil)) aNil))))))
noncomputable def zjm : GF := fnD 1 zrn
noncomputable def zxs : SF := (sSeq (sSet 2 (zbd 2 zeb (zad (eVar 0) (zad (eVar 1) aNil))))
    (sRet (zbd 1 zih (zad (zbd 2 zgr (zad (zbd 1 zfh (zad (eIxV 0 (eC (.int 0))) aNil)) (zad (eVar 2) aNil))) aNil))))
noncomputable def zmv : GF := fnD 3 zxs
noncomputable def zro : SF := (sRet (zbd 1 zjm (zad (zbd 2 zmv (zad (eVar 0) (zad (eVar 1) aNil))) aNil)))
noncomputable def zhz : GF := fnD 2 zro
end Bc
namespace Bc
open PySem L2
inductive Arm where
  | one (n : Str)
  | many (ns : List Str)
noncomputable def Arm.parts : Arm → List Str
  | .one n => [n]
  | .many ns => ns
noncomputable def armD : Arm → PyData
  | .one n => .str n
  | .many ns => .tuple (ns.map .str)
noncomputable def zgc (c : List Arm) : PyData := .tuple (c.map armD)
noncomputable def zai (ks : List Str) : PyData := .tuple (ks.map .str)
noncomputable def zcq (r : Str × List Str) : PyData := .tuple [.str r.1, zai r.2]
noncomputable def zbi (rs : List (Str × List Str)) : PyData := .list (rs.map zcq)
noncomputable def zat (W : Web) (p : Nat) (rs : List (Str × List Str)) : PyData := .tuple [webD W, .int p, zbi rs]
theorem zln (a : Arm) : zga [armD a] = some (zak a.parts, true) := by
  cases a with
  | one n => rfl
  | many ns => rfl
theorem zrp {c : List Arm} (hc : c.length < 300) (ha : ∀ a ∈ c, a.parts.length < 300) : zfv [zgc c] = some (zak (c.flatMap Arm.parts), true) := by
  have k : zjq (gN 0) zca (zas (zbd 1 zga (zad (eVar 0) aNil))) (gN 1) zca (eVar 1) [.no, .no] (c.map armD) = some (c.flatMap fun a => a.parts.map .str) := by
    refine zmb fun a hm => ⟨[.pl (armD a), .no], rfl, rfl, ?_⟩
    have e : zas (zbd 1 zga (zad (eVar 0) aNil)) [.pl (armD a), .no] = some (a.parts.map .str, []) := by
      unfold zas
      rw [zbm (n := 1) (rs := [⟨armD a, false, []⟩]) rfl rfl (zln a)]
      rfl
    unfold innL
    rw [e]
    show (if (a.parts.map PyData.str).length < 300 then zdk (gN 1) zca (eVar 1) [.pl (armD a), .no] (a.parts.map .str) else none) = _
    rw [if_pos (by rw [List.length_map]; exact ha a hm)]
    exact zcf fun x _ => ⟨[.pl (armD a), .pl (.str x)], rfl, rfl, vs x, rfl, rfl⟩
  have fl : (c.flatMap fun a => a.parts.map PyData.str) = (c.flatMap Arm.parts).map .str := by
    rw [List.map_flatMap]
  rw [fl] at k
  exact zhx (env := [.pl (zgc c)]) rfl (zfu (zace (own := ["arm", "name"]) (fr := []) (fi := zas (eVar 0)) (ds := c.map armD) (bs := []) rfl (by rw [List.length_map]; exact hc) k))
theorem zxt {W : Web} (h : WebOk W) {c : List Arm} (hc : c.length < 300) (ha : ∀ a ∈ c, a.parts.length < 300) (hk : ∀ a ∈ c, ∀ n ∈ a.parts, n ∈ nm W) : zig [webD W, .int c.length, zgc c] = some (.none, false) := by
  have hW : W.length ≤ 12 := h.len
  have e2 : eCB lenD (zad (eVar 2) aNil) [.pl (webD W), .pl (.int c.length), .pl (zgc c)] = some (vi (c.map armD).length) := rfl
  have t : zcy (eOp neD (eCB lenD (zad (eVar 2) aNil)) (eVar 1)) [.pl (webD W), .pl (.int c.length), .pl (zgc c)] = some false := by
    refine zjs ?_
    unfold eOp
    rw [e2]
    show ((neD (.int ((c.map armD).length : Nat)) (.int (c.length : Nat))).bind fun z => some (⟨z.1, z.2, bsOf z.1 ([] ++ [])⟩ : Val)) = _
    rw [List.length_map]
    rw [zrj]; rfl
  have cn : zfs [webD W, zak (c.flatMap Arm.parts)] = some (.none, false) := zvh (by omega) fun n hn => by
    obtain ⟨a, ha', hn'⟩ := List.mem_flatMap.mp hn
    exact hk a ha' n hn'
  exact zarz (env := [.pl (webD W), .pl (.int c.length), .pl (zgc c)]) rfl (zbv (if_f t rfl) (zagq (zbm (n := 2) (rs := [⟨webD W, false, []⟩, ⟨zak (c.flatMap Arm.parts), true, []⟩]) (zcm rfl (zgv (zbm (n := 1) (rs := [⟨zgc c, false, []⟩]) rfl rfl (zrp hc ha)))) rfl cn)))
noncomputable def upA (W : Web) (a : Arm) : List Str := a.parts.foldl (fun ks n => (up W n).foldl insS ks) []
theorem zagy {W : Web} {a : Arm} {x : Str} : x ∈ upA W a ↔ ∃ n ∈ a.parts, x ∈ up W n := by
  unfold upA
  have : ∀ (l ks : List Str), x ∈ l.foldl (fun ks n => (up W n).foldl insS ks) ks ↔ x ∈ ks ∨ ∃ n ∈ l, x ∈ up W n := by
    intro l
    induction l with
    | nil => intro ks; simp
    | cons n l ih => intro ks; rw [List.foldl_cons, ih, zms]; simp [or_assoc]
  rw [this]; simp
theorem zadh {W : Web} (h : WebOk W) {a : Arm} (hk : ∀ n ∈ a.parts, n ∈ nm W) : zkm [.dict (dS zbk (ups W)), armD a] = some (zbk (upA W a), true) := by
  have nd : ∀ (l ks : List Str), ks.Nodup → (∀ x ∈ ks, x ∈ nm W) → (l.foldl (fun ks n => (up W n).foldl insS ks) ks).Nodup ∧ ∀ x ∈ l.foldl (fun ks n => (up W n).foldl insS ks) ks, x ∈ nm W := by
    intro l
    induction l with
    | nil => intro ks h1 h2; exact ⟨h1, h2⟩
    | cons n l ih =>
      intro ks h1 h2
      refine ih _ (zvi h1) fun x hx => ?_
      rcases zms.mp hx with z | z
      · exact h2 x z
      · exact zabz h z
  obtain ⟨env', lp, s3, rfl⟩ := zft (enc := PyData.str) (g := gN 3) (body := sUpd 2 (zcz 0 (eVar 3))) (l := a.parts) (env := [.pl (.dict (dS zbk (ups W))), .pl (armD a), .ac (zbk []), .no])
    (fun pre env => ∃ s3, env = [.pl (.dict (dS zbk (ups W))), .pl (armD a), .ac (zbk (pre.foldl (fun ks n => (up W n).foldl insS ks) [])), s3]) ⟨_, rfl⟩ (by
      rintro pre n post env hp ⟨s3, rfl⟩
      have hn : n ∈ nm W := hk n (by rw [← hp]; simp)
      refine ⟨[.pl (.dict (dS zbk (ups W))), .pl (armD a), .ac (zbk (pre.foldl (fun ks n => (up W n).foldl insS ks) [])), .pl (.str n)], [.pl (.dict (dS zbk (ups W))), .pl (armD a), .ac (zbk ((pre ++ [n]).foldl (fun ks n => (up W n).foldl insS ks) [])), .pl (.str n)], rfl, .inl ?_, _, rfl⟩
      · have l1 := zags h n
        obtain ⟨n1, n2⟩ := nd pre [] List.nodup_nil (by simp)
        have l2 := zim _ _ n1 n2
        have l3 := zqe h
        have lz : (zid (pre.foldl (fun ks n => (up W n).foldl insS ks) [])).length + (zid (up W n)).length ≤ 100000 := by unfold zid; rw [List.length_map, List.length_map]; omega
        simp only [sUpd, zbk, zcz, eVar, List.getElem?_cons_succ, List.getElem?_cons_zero, Option.bind_some, keyD, zoc, ztj hn, Option.map_some]
        rw [if_pos ⟨lz, by simp⟩, zma, List.foldl_append]
        simp [frzs])
  exact zhx (env := [.pl (.dict (dS zbk (ups W))), .pl (armD a), .no, .no]) rfl (zbv rfl (zbv (zhd (zbm (n := 1) (rs := [⟨armD a, false, []⟩]) rfl rfl (zln a)) lp) rfl))
theorem zrq {W : Web} (h : WebOk W) {c : List Arm} (hc : c.length < 300) (hk : ∀ a ∈ c, ∀ n ∈ a.parts, n ∈ nm W) : zei [.dict (dS zbk (ups W)), zgc c] = some (.list (c.map fun a => zbk (upA W a)), true) := by
  have k : zdk (gN 0) zca (zbd 2 zkm (zad (eVar 1) (zad (eVar 0) aNil))) [.no, .pl (.dict (dS zbk (ups W)))] (c.map armD) = some (c.map fun a => zbk (upA W a)) :=
    zcf fun a hm => ⟨[.pl (armD a), .pl (.dict (dS zbk (ups W)))], rfl, rfl, _, zbm (n := 2) (rs := [⟨.dict (dS zbk (ups W)), false, []⟩, ⟨armD a, false, []⟩]) rfl rfl (zadh h (hk a hm)), rfl⟩
  exact zhx (env := [.pl (.dict (dS zbk (ups W))), .pl (zgc c)]) rfl (zfu (zdy (own := ["arm"]) (fr := [0]) (fi := zas (eVar 1)) (ds := c.map armD) (bs := []) rfl (by rw [List.length_map]; omega) k))
theorem zvl {α β : Type} (f : α → PyData) (g : β → PyData) (l : List α) (r : List β) : List.zipWith (fun d e => PyData.tuple [d, e]) (l.map f) (r.map g) = (l.zip r).map fun z => PyData.tuple [f z.1, g z.2] := by
  induction l generalizing r with
  | nil => rfl
  | cons a l ih => cases r with
    | nil => rfl
    | cons b r => rw [List.map_cons, List.map_cons, List.zipWith_cons_cons, ih, List.zip_cons_cons, List.map_cons]
noncomputable def fitB (W : Web) (ks : List Str) (c : List Arm) : Bool := (ks.zip c).all fun z => decide (z.1 ∈ upA W z.2)
theorem zxu {W : Web} {ks : List Str} {c : List Arm} (hc : c.length < 300) : zgq [zai ks, .list (c.map fun a => zbk (upA W a))] = some (.bool (fitB W ks c), false) := by
  have it : znv (zad (eVar 0) (zad (eVar 1) aNil)) [.pl (zai ks), .pl (.list (c.map fun a => zbk (upA W a)))] = some ((ks.zip c).map fun z => PyData.tuple [.str z.1, zbk (upA W z.2)], []) := by
    show some (List.zipWith (fun d e => PyData.tuple [d, e]) (ks.map .str) (c.map fun a => zbk (upA W a)), [] ++ []) = _
    rw [zvl]; rfl
  have k : zdk (gT 2 (zau 0 (zau 1 zea))) zca (eDIn false (eVar 0) (eVar 1)) [.no, .no] ((ks.zip c).map fun z => PyData.tuple [.str z.1, zbk (upA W z.2)]) = some ((ks.zip c).map fun z => .bool (decide (z.1 ∈ upA W z.2))) :=
    zcf fun z _ => ⟨[.pl (.str z.1), .pl (zbk (upA W z.2))], rfl, rfl, vb (decide (z.1 ∈ upA W z.2)), zald (neg := false) (fr := false) (bs := []) rfl rfl, rfl⟩
  have lz : (ks.zip c).length ≤ c.length := by rw [List.length_zip]; exact Nat.min_le_right _ _
  exact zhx (env := [.pl (zai ks), .pl (.list (c.map fun a => zbk (upA W a)))]) rfl (zfu (bs := []) (zank (zdy (own := ["kind", "roof"]) (fr := []) it (by rw [List.length_map]; omega) k)))
noncomputable def zlh (W : Web) (ks ls : List Str) : Bool := !(ks == ls) && (ks.zip ls).all fun z => decide (z.2 ∈ up W z.1)
end Bc
namespace Bc
open PySem L2
theorem zvm : ∀ (a b : List Str), PyData.eqvAll (a.map .str) (b.map .str) = (a == b)
  | [], [] => rfl
  | [], _ :: _ => rfl
  | _ :: _, [] => rfl
  | x :: a, y :: b => by
    show (PyData.eqv (.str x) (.str y) && PyData.eqvAll (a.map .str) (b.map .str)) = _
    rw [zvm a b]
    show ((x == y) && (a == b)) = _
    rfl
noncomputable def LowS (ks : List Str) : Prop := ∀ k ∈ ks, PyData.strOk k = true
theorem zkp {ks : List Str} (h : LowS ks) : SeqAt.shaped (zai ks) = true := by
  obtain ⟨h1, h2⟩ := zpy ks h
  unfold SeqAt.shaped zai
  rw [Bool.and_eq_true]
  refine ⟨h1, decide_eq_true ?_⟩
  show PyData.depthAll (ks.map .str) + 1 ≤ 64
  omega
theorem zacf {ks ls : List Str} (h1 : LowS ks) (h2 : LowS ls) : neD (zai ks) (zai ls) = some (.bool (!(ks == ls)), false) := by
  unfold neD eqOk
  rw [zkp h1, zkp h2, Bool.and_self, Bool.or_true, if_pos rfl]
  show some (PyData.bool (!PyData.eqvAll (ks.map .str) (ls.map .str)), false) = _
  rw [zvm]
theorem zzx {W : Web} (h : WebOk W) {ks ls : List Str} (h1 : LowS ks) (h2 : LowS ls) (hk : ∀ k ∈ ks, k ∈ nm W) (hl : ks.length < 300) : zgb [.dict (dS zbk (ups W)), zai ks, zai ls] = some (.bool (zlh W ks ls), false) := by
  have it : znv (zad (eVar 1) (zad (eVar 2) aNil)) [.pl (.dict (dS zbk (ups W))), .pl (zai ks), .pl (zai ls)] = some ((ks.zip ls).map fun z => PyData.tuple [.str z.1, .str z.2], []) := by
    show some (List.zipWith (fun d e => PyData.tuple [d, e]) (ks.map .str) (ls.map .str), [] ++ []) = _
    rw [zvl]; rfl
  have k : zdk (gT 2 (zau 0 (zau 1 zea))) zca (eDIn false (eVar 1) (zcz 2 (eVar 0))) [.no, .no, .pl (.dict (dS zbk (ups W)))] ((ks.zip ls).map fun z => PyData.tuple [.str z.1, .str z.2]) = some ((ks.zip ls).map fun z => .bool (decide (z.2 ∈ up W z.1))) :=
    zcf fun z hz => ⟨[.pl (.str z.1), .pl (.str z.2), .pl (.dict (dS zbk (ups W)))], rfl, rfl, vb (decide (z.2 ∈ up W z.1)), zald (neg := false) (fr := false) (bs := []) rfl (zaqq (d := zbk (up W z.1)) (.inl rfl) rfl (by rw [zoc, ztj (hk z.1 (List.of_mem_zip hz).1)]; rfl)), rfl⟩
  have lz : (ks.zip ls).length ≤ ks.length := by rw [List.length_zip]; exact Nat.min_le_left _ _
  have e1 : eOp neD (eVar 1) (eVar 2) [.pl (.dict (dS zbk (ups W))), .pl (zai ks), .pl (zai ls)] = some (vb (!(ks == ls))) := by
    show ((neD (zai ks) (zai ls)).bind fun z => some (⟨z.1, z.2, bsOf z.1 ([] ++ [])⟩ : Val)) = _
    rw [zacf h1 h2]; rfl
  have e2 := zank (f := fun z : Str × Str => decide (z.2 ∈ up W z.1)) (zdy (own := ["low", "high"]) (fr := [0]) it (by rw [List.length_map]; omega) k)
  refine zhx (env := [.pl (.dict (dS zbk (ups W))), .pl (zai ks), .pl (zai ls)]) rfl (zfu (bs := []) ?_)
  unfold eAnd
  rw [e1, Option.bind_some]
  unfold zlh
  cases ks == ls with
  | true => rfl
  | false => exact e2
structure RulesOk (W : Web) (rs : List (Str × List Str)) : Prop where
  low : ∀ r ∈ rs, LowS r.2
  kinds : ∀ r ∈ rs, ∀ k ∈ r.2, k ∈ nm W
  few : ∀ r ∈ rs, r.2.length < 300
  len : rs.length < 300
theorem RulesOk.filter {W : Web} {rs : List (Str × List Str)} (h : RulesOk W rs) (p : Str × List Str → Bool) : RulesOk W (rs.filter p) :=
  ⟨fun r hr => h.low r (List.mem_filter.mp hr).1, fun r hr => h.kinds r (List.mem_filter.mp hr).1, fun r hr => h.few r (List.mem_filter.mp hr).1, Nat.lt_of_le_of_lt (List.length_filter_le _ _) h.len⟩
structure CallOk (W : Web) (c : List Arm) : Prop where
  len : c.length < 300
  few : ∀ a ∈ c, a.parts.length < 300
  kinds : ∀ a ∈ c, ∀ n ∈ a.parts, n ∈ nm W
noncomputable def fitL (W : Web) (rs : List (Str × List Str)) (c : List Arm) : List (Str × List Str) := rs.filter fun r => fitB W r.2 c
noncomputable def zrr (W : Web) (rs : List (Str × List Str)) : List (Str × List Str) := rs.filter fun r => !(rs.any fun q => zlh W q.2 r.2)
theorem zacg {n : Nat} {g : GF} {f : AF} {env : DEnv} {rs : List Val} {b : Bool} (h : f env = some rs) (hn : rs.length = n) (k : g (zio rs) = some (.bool b, false)) : tTru (zbd n g f) env = some b := by
  unfold tTru; rw [zbm h hn k]; rfl
theorem zaqr {α : Type} {f : α → Bool} {l : List α} {a : EF} {env : DEnv} {fr : Bool} {bs : List Nat} (ha : a env = some ⟨.list (l.map fun x => .bool (f x)), fr, bs⟩) : eCB (anyD fun bs => bs.any id) (zad a aNil) env = some (vb (l.any f)) := by
  unfold eCB
  rw [zgv ha, Option.bind_some]
  show ((zor (l.map fun x => .bool (f x))).map _).bind _ = _
  rw [zmu]
  simp only [Option.map_some, Option.bind_some, List.any_map]
  rfl
theorem zxv {W : Web} (h : WebOk W) {rs : List (Str × List Str)} (hr : RulesOk W rs) : zgr [.dict (dS zbk (ups W)), zbi rs] = some (zbi (zrr W rs), true) := by
  have hlen := hr.len
  have k : zdk (gN 0) (zkg (tTru (eCB (anyD fun bs => bs.any id) (zad (zdq ["name", "kinds"] [0, 1] (zas (eVar 2)) (gT 2 (zau 0 (zau 1 zea))) zca (zbd 3 zgb (zad (eVar 3) (zad (eVar 1) (zad (eIxV 2 (eC (.int 1))) aNil))))) aNil)))) (eVar 0) [.no, .pl (.dict (dS zbk (ups W))), .pl (zbi rs)] (rs.map zcq) = some ((zrr W rs).map zcq) := by
    refine zeh (enc := zcq) (out := zcq) (e := eVar 0) (fun r => !(rs.any fun q => zlh W q.2 r.2)) fun r hm => ⟨[.pl (zcq r), .pl (.dict (dS zbk (ups W))), .pl (zbi rs)], rfl, ?_, fun _ => ⟨⟨zcq r, false, []⟩, rfl, rfl⟩⟩
    have k2 : zdk (gT 2 (zau 0 (zau 1 zea))) zca (zbd 3 zgb (zad (eVar 3) (zad (eVar 1) (zad (eIxV 2 (eC (.int 1))) aNil)))) [.no, .no, .pl (zcq r), .pl (.dict (dS zbk (ups W)))] (rs.map zcq) = some (rs.map fun q => .bool (zlh W q.2 r.2)) :=
      zcf fun q hq => ⟨[.pl (.str q.1), .pl (zai q.2), .pl (zcq r), .pl (.dict (dS zbk (ups W)))], rfl, rfl, _, zbm (n := 3) (rs := [⟨.dict (dS zbk (ups W)), false, []⟩, ⟨zai q.2, false, []⟩, ⟨zai r.2, false, []⟩]) rfl rfl (zzx h (hr.low q hq) (hr.low r hm) (hr.kinds q hq) (hr.few q hq)), rfl⟩
    exact zacd (zaqr (f := fun q : Str × List Str => zlh W q.2 r.2) (zdy (own := ["name", "kinds"]) (fr := [0, 1]) (fi := zas (eVar 2)) (env := [.pl (zcq r), .pl (.dict (dS zbk (ups W))), .pl (zbi rs)]) (ds := rs.map zcq) (bs := []) rfl (by rw [List.length_map]; omega) k2))
  exact zhx (env := [.pl (.dict (dS zbk (ups W))), .pl (zbi rs)]) rfl (zfu (zdy (own := ["rule"]) (fr := [0, 1]) (fi := zas (eVar 1)) (ds := rs.map zcq) (bs := []) rfl (by rw [List.length_map]; omega) k))
theorem zxw {rs : List (Str × List Str)} (hl : rs.length < 300) : zih [zbi rs] = some (zak (rs.map (·.1)), true) := by
  have k : zdk (gT 2 (zau 0 (zau 1 zea))) zca (eVar 0) [.no, .no] (rs.map zcq) = some (rs.map fun r => .str r.1) := zcf fun r _ => ⟨[.pl (.str r.1), .pl (zai r.2)], rfl, rfl, vs r.1, rfl, rfl⟩
  have e : (rs.map fun r => PyData.str r.1) = (rs.map (·.1)).map .str := by rw [List.map_map]; rfl
  rw [e] at k
  exact zhx (env := [.pl (zbi rs)]) rfl (zfu (zdy (own := ["name", "kinds"]) (fr := []) (fi := zas (eVar 0)) (ds := rs.map zcq) (bs := []) rfl (by rw [List.length_map]; omega) k))
noncomputable def zgw : List Str → PyData
  | [] => .tuple [.str "none"]
  | [x] => .tuple [.str "rule", .str x]
  | xs => .tuple [.str "quarrel", zai xs]
theorem zzy : ∀ (xs : List Str), zjm [zak xs] = some (zgw xs, false)
  | [] => rfl
  | [x] => rfl
  | x :: y :: xs => by
    have t : zcy (eOp eqD (eCB lenD (zad (eVar 0) aNil)) (eC (.int 1))) [.pl (zak (x :: y :: xs))] = some false := by
      rw [zjs (zasa (i := ((x :: y :: xs).map PyData.str).length) (j := 1) (zacc rfl) rfl)]
      congr 1
    exact zhx (env := [.pl (zak (x :: y :: xs))]) rfl (zbv (if_f rfl rfl) (zbv (if_f t rfl) rfl))
end Bc
namespace Bc
open PySem L2
theorem zpj {W : Web} (h : WebOk W) {rs : List (Str × List Str)} {c : List Arm} (hr : RulesOk W rs) (hc : CallOk W c) : zeb [zat W c.length rs, zgc c] = some (zbi (fitL W rs c), true) := by
  have hl := hr.len
  have e5 : sSet 5 (zbd 2 zei (zad (zbd 1 zfh (zad (eVar 2) aNil)) (zad (eVar 1) aNil))) [.pl (zat W c.length rs), .pl (zgc c), .pl (webD W), .pl (.int c.length), .pl (zbi rs), .no] = some (.nx [.pl (zat W c.length rs), .pl (zgc c), .pl (webD W), .pl (.int c.length), .pl (zbi rs), .ac (.list (c.map fun a => zbk (upA W a)))]) :=
    ztg (r := ⟨.list (c.map fun a => zbk (upA W a)), true, []⟩) (zbm (n := 2) (rs := [⟨.dict (dS zbk (ups W)), true, []⟩, ⟨zgc c, false, []⟩]) (zcm (zbm (n := 1) (rs := [⟨webD W, false, []⟩]) rfl rfl (zti h)) (zgv rfl)) rfl (zrq h hc.len hc.kinds))
  have k : zdk (gN 0) (tTru (zbd 2 zgq (zad (eIxV 0 (eC (.int 1))) (zad (eVar 1) aNil)))) (eVar 0) [.no, .pl (.list (c.map fun a => zbk (upA W a)))] (rs.map zcq) = some ((fitL W rs c).map zcq) :=
    zeh (enc := zcq) (out := zcq) (e := eVar 0) (fun r => fitB W r.2 c) fun r hm => ⟨[.pl (zcq r), .pl (.list (c.map fun a => zbk (upA W a)))], rfl, zacg (n := 2) (rs := [⟨zai r.2, false, []⟩, ⟨.list (c.map fun a => zbk (upA W a)), false, []⟩]) rfl rfl (zxu hc.len), fun _ => ⟨⟨zcq r, false, []⟩, rfl, rfl⟩⟩
  exact zhx (env := [.pl (zat W c.length rs), .pl (zgc c), .no, .no, .no, .no]) rfl (zbv rfl (zbv (zagq (zbm (n := 3) (rs := [⟨webD W, false, []⟩, vi c.length, ⟨zgc c, false, []⟩]) rfl rfl (zxt h hc.len hc.few hc.kinds))) (zbv e5 (zfu (zdy (own := ["rule"]) (fr := [5]) (fi := zas (eVar 4)) (ds := rs.map zcq) (bs := []) rfl (by rw [List.length_map]; omega) k)))))
theorem zagz {W : Web} (h : WebOk W) {rs : List (Str × List Str)} {c : List Arm} (hr : RulesOk W rs) (hc : CallOk W c) : zmv [zat W c.length rs, zgc c] = some (zak ((zrr W (fitL W rs c)).map (·.1)), true) := by
  have e2 : sSet 2 (zbd 2 zeb (zad (eVar 0) (zad (eVar 1) aNil))) [.pl (zat W c.length rs), .pl (zgc c), .no] = some (.nx [.pl (zat W c.length rs), .pl (zgc c), .ac (zbi (fitL W rs c))]) :=
    ztg (r := ⟨zbi (fitL W rs c), true, []⟩) (zbm (n := 2) (rs := [⟨zat W c.length rs, false, []⟩, ⟨zgc c, false, []⟩]) rfl rfl (zpj h hr hc))
  have e3 : zbd 1 zfh (zad (eIxV 0 (eC (.int 0))) aNil) [.pl (zat W c.length rs), .pl (zgc c), .ac (zbi (fitL W rs c))] = some ⟨.dict (dS zbk (ups W)), true, []⟩ := zbm (n := 1) (rs := [⟨webD W, false, []⟩]) rfl rfl (zti h)
  have e4 : zbd 2 zgr (zad (zbd 1 zfh (zad (eIxV 0 (eC (.int 0))) aNil)) (zad (eVar 2) aNil)) [.pl (zat W c.length rs), .pl (zgc c), .ac (zbi (fitL W rs c))] = some ⟨zbi (zrr W (fitL W rs c)), true, [2]⟩ := zbm (n := 2) (rs := [⟨.dict (dS zbk (ups W)), true, []⟩, ⟨zbi (fitL W rs c), false, [2]⟩]) (zcm e3 (zgv rfl)) rfl (zxv h (hr.filter _))
  exact zhx (env := [.pl (zat W c.length rs), .pl (zgc c), .no]) rfl (zbv e2 (zfu (zbm (n := 1) (rs := [⟨zbi (zrr W (fitL W rs c)), true, [2]⟩]) (zgv e4) rfl (zxw ((hr.filter _).filter _).len))))
theorem zzz {W : Web} (h : WebOk W) {rs : List (Str × List Str)} {c : List Arm} (hr : RulesOk W rs) (hc : CallOk W c) : zhz [zat W c.length rs, zgc c] = some (zgw ((zrr W (fitL W rs c)).map (·.1)), false) :=
  zhx (env := [.pl (zat W c.length rs), .pl (zgc c)]) rfl (zfu (zbm (n := 1) (rs := [⟨zak ((zrr W (fitL W rs c)).map fun r : Str × List Str => r.1), true, []⟩]) (zgv (zbm (n := 2) (rs := [⟨zat W c.length rs, false, []⟩, ⟨zgc c, false, []⟩]) rfl rfl (zagz h hr hc))) rfl (zzy _)))
end Bc
namespace Bc
open PySem L2
end Bc
namespace Bc
open PySem L2
noncomputable def ztl : SF := (sSeq (sSet 1 (eLst (zad (eTup aNil) aNil)))
    (sSeq (sFor (zas (eVar 0)) (gN 2)
    (sSet 1 (zqu ["ahead", "thing"] [2] (zas (eVar 1)) (gN 0) zca (zas (eVar 2)) (gN 1) zca (eOp addE (eVar 0) (eTup (zad (eVar 1) aNil))))))
    (zns 1)))
noncomputable def zlc : GF := fnD 3 ztl
noncomputable def zju : SF := (sRet (zbd 1 zlc (zad (eOp repD (eLst (zad (zbd 1 zhh (zad (eVar 0) aNil)) aNil)) (eVar 1)) aNil)))
noncomputable def zex : GF := fnD 2 zju
noncomputable def zrs : SF := (sSeq (sAsg (eVar 0) (gT 3 (zau 1 (zau 2 (zau 3 zea)))))
    (sRet (zbd 2 zex (zad (eVar 1) (zad (eVar 2) aNil)))))
noncomputable def zia : GF := fnD 4 zrs
noncomputable def zmw : SFr (List Int) := (rSeq (rS 0 (sSet 1 (eC (.int 7)))) (rFor (zagn (zbq rScr rNil)) (gT 2 (zau 2 (zau 3 zea))) (rS 0 (sSet 1 (eOp modD (eOp addD (eOp addD (eOp mulD (eVar 1) (eC (.int 48271))) (eOp mulD (eOp modD (eVar 3) (eC (.int 2147483629))) (eOp addD (eOp mulD (eVar 2) (eVar 2)) (eC (.int 3))))) (eC (.int 5))) (eC (.int 2147483647)))))))
noncomputable def ziu : List Int → Option Int := zajs zmw 3 (eVar 1)
noncomputable def ztm : SFr Pen := (rSeq (zjr (qAnd (qB (rOp ltD (rGet 1) (zaq (eOp powB (eC (.int 10)) (eC (.int 18)))))) ztd) (rPut 1 (rOp modD zagg (zaq (eOp powB (eOp powB (eC (.int 10)) (eC (.int 50))) (eC (.int 8)))))) 1000)
    (rSeq (rIf (qB (rOp geD (rGet 1) (zaq (eOp powB (eC (.int 10)) (eC (.int 18)))))) (rSeq (rSet 2 (rOp modD (rGet 1) (zaq (eVar 1))))
    (rSeq (rPut 1 (rOp zwu (rGet 1) (zaq (eVar 1))))
    (rS 0 (zns 2)))) rNx)
    (rSeq (rPut 3 (rOp addD (rGet 3) (zaq (eC (.int 1)))))
    (rSeq (rPut 2 (rOp modD (rOp addD (rOp addD (rOp mulD (rGet 2) (zaq (eC (.int 48271)))) (rOp mulD (rGet 3) (rGet 3))) (zaq (eC (.int 11)))) (zaq (eC (.int 2147483647)))))
    (rRet (rOp modD (rOp zwu (rOp modD (rOp powB (rGet 2) (zaq (eC (.int 3)))) (zaq (eC (.int 2305843009213693951)))) (zaq (eC (.int 64)))) (zaq (eVar 1))))))))
noncomputable def zar : GR Pen := fnR 3 ztm
noncomputable def ztn : SFr Pen := (rSeq (rSet 2 (zaq (eC (.str "abcdefghijklmnopqrstuvwxyz"))))
    (rSeq (rSet 3 (zxl (zage ["_law_k"] [0, 2] (zfz (zbq (rOp addD (zaq (eC (.int 1))) (zbo 2 zar (zbq (zaq (eC (.int 3))) rNil))) rNil)) (gN 0) zca (rOp ixD (zaq (eVar 2)) (zbo 2 zar (zbq (zaq (eC (.int 26))) rNil))))))
    (rSeq (rSet 4 (zbo 2 zar (zbq (zaq (eC (.int 4))) rNil)))
    (rSeq (rIf (znx (zsj (zcy (eOp neD (eVar 1) (eLst aNil))) (zcy (eOp ltD (eVar 4) (eC (.int 2)))))) (rSeq (rSet 5 (rOp ixD (zaq (eVar 1)) (zbo 2 zar (zbq (zaq (eCB lenD (zad (eVar 1) aNil))) rNil))))
    (rSet 3 (zaq (eSl (eOp ixD (eLst (zad (eOp addD (eVar 5) (eVar 3)) (zad (eOp addD (eVar 3) (eVar 5)) aNil))) (eVar 4)) zzp (zwy (eC (.int 8))))))) rNx)
    (rSeq (rSet 6 (zaq (eOp addD (eOp repD (eLst (zad (eVar 3) aNil)) (eC (.int 5))) (eLst (zad (eC (.str "none")) (zad (eC (.str "rule")) (zad (eC (.str "quarrel")) (zad (eC (.str "kind")) (zad (eC (.str "own")) aNil)))))))))
    (rSeq (rSet 3 (rOp ixD (zaq (eVar 6)) (zbo 2 zar (zbq (zaq (eC (.int 10))) rNil))))
    (rSeq (rIf (znx (zcy (eOp (inD false) (eVar 3) (eVar 1)))) (rSet 3 (zaq (eOp ixD (zdq ["_law_sign"] [1] (zqv (eVar 2)) (gN 0) (zcy (eOp (inD true) (eVar 0) (eVar 1))) (eVar 0)) (eC (.int 0))))) rNx)
    (rS 0 (zns 3)))))))))
noncomputable def zel : GR Pen := fnR 7 ztn
noncomputable def zmx : SFr Pen := (rSeq (rSet 2 (zaq (eLst aNil)))
    (rSeq (rSet 3 (zaq (eLst aNil)))
    (rSeq (rFor (rIP (zjg (zad (eVar 1) aNil))) (gN 4)
    (rSeq (rSet 5 (zaq (eLst aNil)))
    (rSeq (rFor (zfz (zbq (rCB minD (zbq (zaq (eVar 4)) (zbq (zbo 2 zar (zbq (zaq (eC (.int 5))) rNil)) rNil))) rNil)) (gN 6)
    (rSeq (rSet 7 (rOp ixD (zaq (eVar 3)) (zbo 2 zar (zbq (zaq (eVar 4)) rNil))))
    (rIf (znx (zcy (eOp (inD true) (eVar 7) (eVar 5)))) (rApp 5 (zaq (eVar 7))) rNx)))
    (rSeq (rApp 3 (zbo 2 zel (zbq (zaq (eVar 3)) rNil)))
    (rApp 2 (zaq (eTup (zad (eIxV 3 (eVar 4)) (zad (eVar 5) aNil)))))))))
    (rS 0 (zns 2)))))
noncomputable def zem : GR Pen := fnR 8 zmx
noncomputable def zto : SFr Pen := (rSeq (rSet 1 (rOp addD (zaq (eC (.int 1))) (zbo 2 zar (zbq (zaq (eC (.int 3))) rNil))))
    (rSeq (rSet 2 (rOp addD (zaq (eC (.int 1))) (zbo 2 zar (zbq (zaq (eOp ixD (eLst (zad (eC (.int 6)) (zad (eC (.int 5)) (zad (eC (.int 4)) aNil)))) (eOp subD (eVar 1) (eC (.int 1))))) rNil))))
    (rSeq (rIf (qB (rOp eqD (zbo 2 zar (zbq (zaq (eC (.int 8))) rNil)) (zaq (eC (.int 7))))) (rSet 2 (zaq (eOp ixD (eLst (zad (eC (.int 10)) (zad (eC (.int 10)) (zad (eC (.int 6)) aNil)))) (eOp subD (eVar 1) (eC (.int 1)))))) rNx)
    (rSeq (rSet 3 (zbo 2 zem (zbq (zaq (eVar 2)) rNil)))
    (rSeq (rSet 4 (zaq (eLst aNil)))
    (rSeq (rFor (zfz (zbq (zbo 2 zar (zbq (zaq (eC (.int 13))) rNil)) rNil)) (gN 5)
    (rSeq (rSet 6 (zaq (eLst aNil)))
    (rSeq (rFor (rIP (zjg (zad (eVar 1) aNil))) (gN 7)
    (rSeq (rSet 8 (zbo 2 zar (zbq (zaq (eVar 2)) rNil)))
    (rApp 6 (rOp ixD (rOp ixD (zaq (eVar 3)) (rOp zwu (zaq (eVar 8)) (rOp addD (zaq (eC (.int 1))) (zbo 2 zar (zbq (zaq (eC (.int 2))) rNil))))) (zaq (eC (.int 0)))))))
    (rIf (znx (zcy (eOp (inS true) (eCB zlk (zad (eVar 6) aNil)) (zdq ["_law_rule"] [] (zas (eVar 4)) (gN 0) zca (eIxV 0 (eC (.int 1))))))) (rApp 4 (rTup (zbq (zbo 2 zel (zbq (zaq (zdq ["_law_rule"] [] (zas (eVar 4)) (gN 0) zca (eIxV 0 (eC (.int 0))))) rNil)) (zbq (zaq (eCB zlk (zad (eVar 6) aNil))) rNil)))) rNx))))
    (rRet (zaq (eTup (zad (eVar 3) (zad (eVar 1) (zad (eVar 4) aNil))))))))))))
noncomputable def ziv : GR Pen := fnR 9 zto
noncomputable def zod : GF → SF := fun (G : GF) => (sSeq (sIf (tTru (eIsi "str" (eVar 0))) (sRet (eAnd (eIsi "str" (eVar 1)) (eOp eqD (eVar 1) (eVar 0)))) sNil)
    (sSeq (sIf (tTru (eIsi "list" (eVar 0))) (sSeq (sIf (tOrF (zkg (tTru (eIsi "list" (eVar 1)))) (zcy (eOp neD (eCB lenD (zad (eVar 1) aNil)) (eCB lenD (zad (eVar 0) aNil))))) (sRet (eC (.bool false))) sNil)
    (sRet (eCB (anyD fun bs => bs.all id) (zad (zdq ["_law_one", "_law_two"] [] (znv (zad (eVar 0) (zad (eVar 1) aNil))) (gT 2 (zau 0 (zau 1 zea))) zca (zbd 2 G (zad (eVar 0) (zad (eVar 1) aNil)))) aNil)))) sNil)
    (sSeq (sIf (tTru (eIsi "tuple" (eVar 0))) (sSeq (sIf (tOrF (zkg (tTru (eIsi "tuple" (eVar 1)))) (zcy (eOp neD (eCB lenD (zad (eVar 1) aNil)) (eCB lenD (zad (eVar 0) aNil))))) (sRet (eC (.bool false))) sNil)
    (sRet (eCB (anyD fun bs => bs.all id) (zad (zdq ["_law_one", "_law_two"] [] (znv (zad (eVar 0) (zad (eVar 1) aNil))) (gT 2 (zau 0 (zau 1 zea))) zca (zbd 2 G (zad (eVar 0) (zad (eVar 1) aNil)))) aNil)))) sNil)
    (sRet (eAnd (eIsi "int" (eVar 1)) (eAnd (eNot (eIsi "bool" (eVar 1))) (eOp eqD (eVar 1) (eVar 0))))))))
noncomputable def zfc : Nat → GF
  | 0 => fun _ => none
  | n + 1 => fnD 2 (zod (zfc n))
noncomputable def zci : GF := zfc 7
noncomputable def ztp : SF := (sRet (eTup (zad (zdq ["_law_name_here", "_law_elders"] [] (zas (eIxV 0 (eC (.int 0)))) (gT 2 (zau 0 (zau 1 zea))) zca (eTup (zad (eVar 0) (zad (eCB zuv (zad (eVar 1) aNil)) aNil)))) (zad (eIxV 0 (eC (.int 1))) (zad (eCB zuv (zad (eIxV 0 (eC (.int 2))) aNil)) aNil)))))
noncomputable def ziw : GF := fnD 1 ztp
end Bc
namespace Bc
open PySem L2
noncomputable def zmy : SF := (sRet (zdq ["call"] [0] (zas (zbd 1 zia (zad (eVar 0) aNil))) (gN 0) zca (zbd 2 zhz (zad (eVar 1) (zad (eVar 0) aNil)))))
noncomputable def zby : GF := fnD 1 zmy
noncomputable def zox : SF := (sSeq (sSet 1 zaiu)
    (sSeq (sFor (zas (eVar 0)) (gT 2 (zau 2 (zau 3 zea)))
    (sSeq (sPut 1 (eVar 2) (eLst (zad (eVar 2) aNil)))
    (sFor (zas (eVar 3)) (gN 4)
    (sPut 1 (eVar 2) (eOp addD (zcz 1 (eVar 2)) (zdq ["_law_one"] [1, 2] (zas (zcz 1 (eVar 4))) (gN 0) (zcy (eOp (inD true) (eVar 0) (zcz 1 (eVar 2)))) (eVar 0)))))))
    (zns 1)))
noncomputable def zii : GF := fnD 5 zox
noncomputable def zoy : SF := (sRet (eCB (anyD fun bs => bs.all id) (zad (zdq ["_law_arm", "_law_kind"] [0] (znv (zad (eVar 1) (zad (eVar 2) aNil))) (gT 2 (zau 0 (zau 1 zea))) zca (eOp (inD false) (eVar 1) (zcz 2 (eVar 0)))) aNil)))
noncomputable def zco : GF := fnD 3 zoy
noncomputable def zlo : SF := (sSeq (sSet 3 (zdq ["_law_rule"] [0, 2] (zas (eVar 1)) (gN 0) (tTru (zbd 3 zco (zad (eVar 1) (zad (eVar 2) (zad (eIxV 0 (eC (.int 1))) aNil))))) (eVar 0)))
    (sSeq (sSet 4 (eLst aNil))
    (sSeq (sFor (zas (eVar 3)) (gT 2 (zau 5 (zau 6 zea)))
    (sIf (zkg (tTru (eCB (anyD fun bs => bs.any id) (zad (zdq ["_law_one"] [0, 6] (zas (eVar 3)) (gN 0) zca (eAnd (eOp neD (eIxV 0 (eC (.int 1))) (eVar 2)) (zbd 3 zco (zad (eVar 1) (zad (eIxV 0 (eC (.int 1))) (zad (eVar 2) aNil)))))) aNil)))) (sApp 4 (eVar 5)) sNil))
    (sSeq (sIf (zcy (eOp eqD (eVar 4) (eLst aNil))) (sRet (eTup (zad (eC (.str "none")) aNil))) sNil)
    (sSeq (sIf (zcy (eOp eqD (eCB lenD (zad (eVar 4) aNil)) (eC (.int 1)))) (sRet (eTup (zad (eC (.str "rule")) (zad (eIxV 4 (eC (.int 0))) aNil)))) sNil)
    (sRet (eTup (zad (eC (.str "quarrel")) (zad (eCB zlk (zad (eVar 4) aNil)) aNil)))))))))
noncomputable def zet : GF := fnD 7 zlo
noncomputable def zrt : SF := (sSeq (sAsg (eVar 0) (gT 3 (zau 1 (zau 2 (zau 3 zea)))))
    (sSeq (sSet 4 (eLst (zad (eTup aNil) aNil)))
    (sSeq (sFor (zjg (zad (eVar 2) aNil)) (gN 5)
    (sSeq (sSet 6 (eLst aNil))
    (sSeq (sFor (zas (eVar 4)) (gN 7)
    (sExt 6 (zdq ["_law_kind", "_law_elders"] [7] (zas (eVar 1)) (gT 2 (zau 0 (zau 1 zea))) zca (eOp addE (eVar 2) (eTup (zad (eVar 0) aNil))))))
    (sSet 4 (eVar 6)))))
    (zns 4))))
noncomputable def zgd : GF := fnD 8 zrt
noncomputable def zmz : SF := (sSeq (sSet 1 (zbd 1 zii (zad (eIxV 0 (eC (.int 0))) aNil)))
    (sRet (zdq ["_law_call"] [0, 1] (zas (zbd 1 zgd (zad (eVar 0) aNil))) (gN 0) zca (zbd 3 zet (zad (eVar 2) (zad (eIxV 1 (eC (.int 2))) (zad (eVar 0) aNil)))))))
noncomputable def zdc : GF := fnD 2 zmz
end Bc
namespace Bc
open PySem L2
theorem zna : bootBuiltins "all" = some (.builtin "all") := by decide +kernel
theorem zach : bootBuiltins "any" = some (.builtin "any") := by decide +kernel
theorem zaha : bootBuiltins "bool" = some (.type "bool") := by decide +kernel
theorem zakb : bootBuiltins "int" = some (.type "int") := by decide +kernel
theorem zbz : bootBuiltins "isinstance" = some (.builtin "isinstance") := by decide +kernel
theorem zhe : bootBuiltins "len" = some (.builtin "len") := by decide +kernel
theorem zix : bootBuiltins "list" = some (.type "list") := by decide +kernel
theorem zakc : bootBuiltins "min" = some (.builtin "min") := by decide +kernel
theorem zaci : bootBuiltins "str" = some (.type "str") := by decide +kernel
theorem zge : bootBuiltins "tuple" = some (.type "tuple") := by decide +kernel
theorem zare : bootBuiltins "zip" = some (.type "zip") := by decide +kernel
noncomputable def top (i : Nat) : Stmt := PySem.Challenge.pw_bestcalls_k38_answers_of_all_calls.main.body.getD i (.Pass ⟨0, 0, 0, 0⟩)
structure Txt (mg : Str → Option Value) : Prop where
  all : mg "all" = none
  any : mg "any" = none
  bool : mg "bool" = none
  enumerate : mg "enumerate" = none
  int : mg "int" = none
  isinstance : mg "isinstance" = none
  len : mg "len" = none
  list : mg "list" = none
  min : mg "min" = none
  range : mg "range" = none
  str : mg "str" = none
  tuple : mg "tuple" = none
  zip : mg "zip" = none
noncomputable abbrev zhi : Stmt := top 5
noncomputable abbrev ztq : List Str := ["rows", "told", "row"]
theorem zjn : ztq.Nodup := by decide +kernel
theorem zaaa : FnScope ztq ["rows"] (zaj zhi) := ⟨rfl, rfl, rfl, zjn, rfl, by decide +kernel, by decide +kernel⟩
noncomputable abbrev zhj : Stmt := top 7
noncomputable abbrev ztr : List Str := ["web"]
theorem zaab : ztr.Nodup := by decide +kernel
theorem zaac : FnScope ztr ["web"] (zaj zhj) := ⟨rfl, rfl, rfl, zaab, rfl, by decide +kernel, by decide +kernel⟩
noncomputable abbrev zhk : Stmt := top 8
noncomputable abbrev zts : List Str := ["arm"]
theorem zaad : zts.Nodup := by decide +kernel
theorem zaae : FnScope zts ["arm"] (zaj zhk) := ⟨rfl, rfl, rfl, zaad, rfl, by decide +kernel, by decide +kernel⟩
noncomputable abbrev zen : Stmt := top 9
noncomputable abbrev znb : List Str := ["web", "names", "known", "name"]
theorem zil : znb.Nodup := by decide +kernel
theorem zsk : FnScope znb ["web", "names"] (zaj zen) := ⟨rfl, rfl, rfl, zil, rfl, by decide +kernel, by decide +kernel⟩
noncomputable abbrev zhl : Stmt := top 10
noncomputable abbrev ztt : List Str := ["web", "roofs", "name", "elders", "roof", "elder"]
theorem zgf : ztt.Nodup := by decide +kernel
theorem zaaf : FnScope ztt ["web"] (zaj zhl) := ⟨rfl, rfl, rfl, zgf, rfl, by decide +kernel, by decide +kernel⟩
noncomputable abbrev ziy : Stmt := top 11
noncomputable abbrev zxx : List Str := ["roofs", "arm", "roof", "name"]
theorem zoe : zxx.Nodup := by decide +kernel
theorem zadi : FnScope zxx ["roofs", "arm"] (zaj ziy) := ⟨rfl, rfl, rfl, zoe, rfl, by decide +kernel, by decide +kernel⟩
noncomputable abbrev zcw : Stmt := top 13
noncomputable abbrev zjv : List Str := ["web", "places"]
theorem zof : zjv.Nodup := by decide +kernel
theorem zog : FnScope zjv ["web", "places"] (zaj zcw) := ⟨rfl, rfl, rfl, zof, rfl, by decide +kernel, by decide +kernel⟩
noncomputable abbrev zdm : Stmt := top 14
noncomputable abbrev zkq : List Str := ["call"]
theorem zpk : zkq.Nodup := by decide +kernel
theorem zpl : FnScope zkq ["call"] (zaj zdm) := ⟨rfl, rfl, rfl, zpk, rfl, by decide +kernel, by decide +kernel⟩
noncomputable abbrev zfi : Stmt := top 15
noncomputable abbrev zoz : List Str := ["web", "places", "call"]
theorem zvn : zoz.Nodup := by decide +kernel
theorem zvo : FnScope zoz ["web", "places", "call"] (zaj zfi) := ⟨rfl, rfl, rfl, zvn, rfl, by decide +kernel, by decide +kernel⟩
noncomputable abbrev zdn : Stmt := top 16
noncomputable abbrev zkr : List Str := ["roofs", "call"]
theorem zpm : zkr.Nodup := by decide +kernel
theorem zpn : FnScope zkr ["roofs", "call"] (zaj zdn) := ⟨rfl, rfl, rfl, zpm, rfl, by decide +kernel, by decide +kernel⟩
noncomputable abbrev zfj : Stmt := top 17
noncomputable abbrev zpa : List Str := ["kinds", "call_roofs"]
theorem zvp : zpa.Nodup := by decide +kernel
theorem zvq : FnScope zpa ["kinds", "call_roofs"] (zaj zfj) := ⟨rfl, rfl, rfl, zvp, rfl, by decide +kernel, by decide +kernel⟩
noncomputable abbrev zgg : Stmt := top 18
noncomputable abbrev zru : List Str := ["roofs", "one", "other"]
theorem zxy : zru.Nodup := by decide +kernel
theorem zxz : FnScope zru ["roofs", "one", "other"] (zaj zgg) := ⟨rfl, rfl, rfl, zxy, rfl, by decide +kernel, by decide +kernel⟩
noncomputable abbrev zcx : Stmt := top 20
noncomputable abbrev zjw : List Str := ["book", "call", "web", "places", "rules", "call_roofs"]
theorem zdo : zjw.Nodup := by decide +kernel
theorem zoh : FnScope zjw ["book", "call"] (zaj zcx) := ⟨rfl, rfl, rfl, zdo, rfl, by decide +kernel, by decide +kernel⟩
noncomputable abbrev zfk : Stmt := top 21
noncomputable abbrev zpb : List Str := ["roofs", "rules"]
theorem zvr : zpb.Nodup := by decide +kernel
theorem zvs : FnScope zpb ["roofs", "rules"] (zaj zfk) := ⟨rfl, rfl, rfl, zvr, rfl, by decide +kernel, by decide +kernel⟩
noncomputable abbrev zfl : Stmt := top 22
noncomputable abbrev zpc : List Str := ["rules"]
theorem zvt : zpc.Nodup := by decide +kernel
theorem zvu : FnScope zpc ["rules"] (zaj zfl) := ⟨rfl, rfl, rfl, zvt, rfl, by decide +kernel, by decide +kernel⟩
noncomputable abbrev zgh : Stmt := top 23
noncomputable abbrev zrv : List Str := ["names"]
theorem zya : zrv.Nodup := by decide +kernel
theorem zyb : FnScope zrv ["names"] (zaj zgh) := ⟨rfl, rfl, rfl, zya, rfl, by decide +kernel, by decide +kernel⟩
noncomputable abbrev ziz : Stmt := top 24
noncomputable abbrev zyc : List Str := ["book", "call", "rules"]
theorem ztu : zyc.Nodup := by decide +kernel
theorem zadj : FnScope zyc ["book", "call"] (zaj ziz) := ⟨rfl, rfl, rfl, ztu, rfl, by decide +kernel, by decide +kernel⟩
noncomputable abbrev zgi : Stmt := top 25
noncomputable abbrev zrw : List Str := ["book", "call"]
theorem zyd : zrw.Nodup := by decide +kernel
theorem zye : FnScope zrw ["book", "call"] (zaj zgi) := ⟨rfl, rfl, rfl, zyd, rfl, by decide +kernel, by decide +kernel⟩
noncomputable abbrev zgj : Stmt := top 27
noncomputable abbrev zrx : List Str := ["book", "web", "places", "rules"]
theorem zij : zrx.Nodup := by decide +kernel
theorem zyf : FnScope zrx ["book"] (zaj zgj) := ⟨rfl, rfl, rfl, zij, rfl, by decide +kernel, by decide +kernel⟩
noncomputable abbrev zeo : Stmt := top 28
noncomputable abbrev znc : List Str := ["book"]
theorem zsl : znc.Nodup := by decide +kernel
theorem zsm : FnScope znc ["book"] (zaj zeo) := ⟨rfl, rfl, rfl, zsl, rfl, by decide +kernel, by decide +kernel⟩
noncomputable abbrev zja : Stmt := top 30
noncomputable abbrev zry : List Str := ["_law_script", "_law_seed", "_law_k", "_law_cell"]
theorem zjb : zry.Nodup := by decide +kernel
theorem zadk : FnScope zry ["_law_script"] (zaj zja) := ⟨rfl, rfl, rfl, zjb, rfl, by decide +kernel, by decide +kernel⟩
noncomputable abbrev zhm : Stmt := top 31
noncomputable abbrev ztv : List Str := ["_law_pen_here", "_law_many", "_law_digit"]
theorem zrz : ztv.Nodup := by decide +kernel
theorem zaag : FnScope ztv ["_law_pen_here", "_law_many"] (zaj zhm) := ⟨rfl, rfl, rfl, zrz, rfl, by decide +kernel, by decide +kernel⟩
noncomputable abbrev zhn : Stmt := top 32
noncomputable abbrev ztw : List Str := ["_law_pen_here", "_law_names", "_law_signs", "_law_word", "_law_way", "_law_beside", "_law_pool"]
theorem zdz : ztw.Nodup := by decide +kernel
theorem zaah : FnScope ztw ["_law_pen_here", "_law_names"] (zaj zhn) := ⟨rfl, rfl, rfl, zdz, rfl, by decide +kernel, by decide +kernel⟩
noncomputable abbrev zjc : Stmt := top 33
noncomputable abbrev zyg : List Str := ["_law_pen_here", "_law_size", "_law_web_here", "_law_names", "_law_k", "_law_elders", "_law_turn", "_law_elder"]
theorem zgk : zyg.Nodup := by decide +kernel
theorem zadl : FnScope zyg ["_law_pen_here", "_law_size"] (zaj zjc) := ⟨rfl, rfl, rfl, zgk, rfl, by decide +kernel, by decide +kernel⟩
noncomputable abbrev zho : Stmt := top 34
noncomputable abbrev ztx : List Str := ["_law_pen_here", "_law_places", "_law_size", "_law_web_here", "_law_rules", "_law_turn", "_law_kinds", "_law_place", "_law_at"]
theorem zdi : ztx.Nodup := by decide +kernel
theorem zaai : FnScope ztx ["_law_pen_here"] (zaj zho) := ⟨rfl, rfl, rfl, zdi, rfl, by decide +kernel, by decide +kernel⟩
noncomputable abbrev zld : Stmt := top 35
noncomputable abbrev zacj : List Str := ["_law_web_here", "_law_up_here", "_law_name_here", "_law_elders", "_law_elder"]
theorem zks : zacj.Nodup := by decide +kernel
theorem zahb : FnScope zacj ["_law_web_here"] (zaj zld) := ⟨rfl, rfl, rfl, zks, rfl, by decide +kernel, by decide +kernel⟩
noncomputable abbrev zle : Stmt := top 36
noncomputable abbrev zack : List Str := ["_law_up_here", "_law_call", "_law_kinds"]
theorem zahc : zack.Nodup := by decide +kernel
theorem zahd : FnScope zack ["_law_up_here", "_law_call", "_law_kinds"] (zaj zle) := ⟨rfl, rfl, rfl, zahc, rfl, by decide +kernel, by decide +kernel⟩
noncomputable abbrev zhp : Stmt := top 37
noncomputable abbrev zty : List Str := ["_law_up_here", "_law_rules", "_law_call", "_law_some", "_law_near", "_law_name_here", "_law_kinds"]
theorem zib : zty.Nodup := by decide +kernel
theorem zaaj : FnScope zty ["_law_up_here", "_law_rules", "_law_call"] (zaj zhp) := ⟨rfl, rfl, rfl, zib, rfl, by decide +kernel, by decide +kernel⟩
noncomputable abbrev zgl : Stmt := top 38
noncomputable abbrev zsa : List Str := ["_law_book_here", "_law_web_here", "_law_places", "_law_rules", "_law_calls_here", "_law_place", "_law_longer", "_law_call"]
theorem zdd : zsa.Nodup := by decide +kernel
theorem zyh : FnScope zsa ["_law_book_here"] (zaj zgl) := ⟨rfl, rfl, rfl, zdd, rfl, by decide +kernel, by decide +kernel⟩
noncomputable abbrev zhq : Stmt := top 39
noncomputable abbrev ztz : List Str := ["_law_due_here", "_law_thing"]
theorem zaak : ztz.Nodup := by decide +kernel
theorem zsb : FnScope ztz ["_law_due_here", "_law_thing"] (zaj zhq) := ⟨rfl, rfl, rfl, zaak, rfl, by decide +kernel, by decide +kernel⟩
noncomputable abbrev zhr : Stmt := top 40
noncomputable abbrev zua : List Str := ["_law_book_here"]
theorem zaal : zua.Nodup := by decide +kernel
theorem zaam : FnScope zua ["_law_book_here"] (zaj zhr) := ⟨rfl, rfl, rfl, zaal, rfl, by decide +kernel, by decide +kernel⟩
noncomputable abbrev zjd : Stmt := top 41
noncomputable abbrev zyi : List Str := ["_law_book_here", "_law_up_here"]
theorem zub : zyi.Nodup := by decide +kernel
theorem zadm : FnScope zyi ["_law_book_here"] (zaj zjd) := ⟨rfl, rfl, rfl, zub, rfl, by decide +kernel, by decide +kernel⟩
noncomputable abbrev zvv : Stmt := top 42
noncomputable abbrev zanl : List Str := ["_law_script", "_law_pen_here", "_law_book_here", "_law_lesser", "_law_handed", "_law_due_here", "_law_first"]
theorem zsc : zanl.Nodup := by decide +kernel
theorem zaqs : FnScope zanl ["_law_script"] (zaj zvv) := ⟨rfl, rfl, rfl, zsc, rfl, by decide +kernel, by decide +kernel⟩
theorem zlp : (["ahead", "thing", "row"] : List Str).Nodup := by decide +kernel
theorem zlq : (["name", "elders"] : List Str).Nodup := by decide +kernel
theorem zic : (["arm", "name"] : List Str).Nodup := by decide +kernel
theorem zmc : (["arm", "roofs"] : List Str).Nodup := by decide +kernel
theorem zjx : (["kind", "roof"] : List Str).Nodup := by decide +kernel
theorem zkt : (["low", "high", "roofs"] : List Str).Nodup := by decide +kernel
theorem zli : (["rule", "call_roofs"] : List Str).Nodup := by decide +kernel
theorem zpo : (["rule", "roofs", "rules"] : List Str).Nodup := by decide +kernel
theorem zjy : (["name", "kinds", "rule", "roofs"] : List Str).Nodup := by decide +kernel
theorem zjz : (["name", "kinds"] : List Str).Nodup := by decide +kernel
theorem zoi : (["call", "book"] : List Str).Nodup := by decide +kernel
theorem zsn : (["_law_k", "_law_pen_here", "_law_signs"] : List Str).Nodup := by decide +kernel
theorem zso : (["_law_sign", "_law_names"] : List Str).Nodup := by decide +kernel
theorem zsp : (["_law_rule"] : List Str).Nodup := by decide +kernel
theorem zsq : (["_law_rule"] : List Str).Nodup := by decide +kernel
theorem zyj : (["_law_one", "_law_up_here", "_law_name_here"] : List Str).Nodup := by decide +kernel
theorem zpd : (["_law_arm", "_law_kind", "_law_up_here"] : List Str).Nodup := by decide +kernel
theorem zsr : (["_law_rule", "_law_up_here", "_law_call"] : List Str).Nodup := by decide +kernel
theorem zss : (["_law_one", "_law_up_here", "_law_kinds"] : List Str).Nodup := by decide +kernel
theorem zku : (["_law_kind", "_law_elders", "_law_call"] : List Str).Nodup := by decide +kernel
theorem zlr : (["_law_one", "_law_two"] : List Str).Nodup := by decide +kernel
theorem zls : (["_law_one", "_law_two"] : List Str).Nodup := by decide +kernel
theorem zlt : (["_law_name_here", "_law_elders"] : List Str).Nodup := by decide +kernel
theorem zvw : (["_law_call", "_law_book_here", "_law_up_here"] : List Str).Nodup := by decide +kernel
noncomputable abbrev zuc (P : Program) (w : World) (K : PySem.W.Frag) (mg : Str → Option Value) (base : Heap) : Prop := Dn P w K mg base "products" ["rows"] 1 (spD 1 zlc)
noncomputable abbrev zoj (P : Program) (w : World) (K : PySem.W.Frag) (mg : Str → Option Value) (base : Heap) : Prop := Dn P w K mg base "names_of" ["web"] 1 (spD 1 zhh)
noncomputable abbrev zok (P : Program) (w : World) (K : PySem.W.Frag) (mg : Str → Option Value) (base : Heap) : Prop := Dn P w K mg base "names_in" ["arm"] 1 (spD 1 zga)
noncomputable abbrev znd (P : Program) (w : World) (K : PySem.W.Frag) (mg : Str → Option Value) (base : Heap) : Prop := Dn P w K mg base "check_kinds" ["web", "names"] 2 (spD 2 zfs)
noncomputable abbrev zol (P : Program) (w : World) (K : PySem.W.Frag) (mg : Str → Option Value) (base : Heap) : Prop := Dn P w K mg base "roofs_of" ["web"] 1 (spD 1 zfh)
noncomputable abbrev zyk (P : Program) (w : World) (K : PySem.W.Frag) (mg : Str → Option Value) (base : Heap) : Prop := Dn P w K mg base "roof_of" ["roofs", "arm"] 2 (spD 2 zkm)
noncomputable abbrev zka (P : Program) (w : World) (K : PySem.W.Frag) (mg : Str → Option Value) (base : Heap) : Prop := Dn P w K mg base "calls_of_names" ["web", "places"] 2 (spD 2 zex)
noncomputable abbrev zkv (P : Program) (w : World) (K : PySem.W.Frag) (mg : Str → Option Value) (base : Heap) : Prop := Dn P w K mg base "names_in_call" ["call"] 2 (spD 1 zfv)
noncomputable abbrev zpe (P : Program) (w : World) (K : PySem.W.Frag) (mg : Str → Option Value) (base : Heap) : Prop := Dn P w K mg base "check_call" ["web", "places", "call"] 3 (spD 3 zig)
noncomputable abbrev zkw (P : Program) (w : World) (K : PySem.W.Frag) (mg : Str → Option Value) (base : Heap) : Prop := Dn P w K mg base "roofs_in_call" ["roofs", "call"] 3 (spD 2 zei)
noncomputable abbrev zpf (P : Program) (w : World) (K : PySem.W.Frag) (mg : Str → Option Value) (base : Heap) : Prop := Dn P w K mg base "fits_under" ["kinds", "call_roofs"] 1 (spD 2 zgq)
noncomputable abbrev zsd (P : Program) (w : World) (K : PySem.W.Frag) (mg : Str → Option Value) (base : Heap) : Prop := Dn P w K mg base "is_nearer" ["roofs", "one", "other"] 1 (spD 3 zgb)
noncomputable abbrev zkb (P : Program) (w : World) (K : PySem.W.Frag) (mg : Str → Option Value) (base : Heap) : Prop := Dn P w K mg base "rules_that_fit" ["book", "call"] 4 (spD 2 zeb)
noncomputable abbrev zpg (P : Program) (w : World) (K : PySem.W.Frag) (mg : Str → Option Value) (base : Heap) : Prop := Dn P w K mg base "nearest_of" ["roofs", "rules"] 2 (spD 2 zgr)
noncomputable abbrev zph (P : Program) (w : World) (K : PySem.W.Frag) (mg : Str → Option Value) (base : Heap) : Prop := Dn P w K mg base "rule_names" ["rules"] 1 (spD 1 zih)
noncomputable abbrev zse (P : Program) (w : World) (K : PySem.W.Frag) (mg : Str → Option Value) (base : Heap) : Prop := Dn P w K mg base "answer_by" ["names"] 1 (spD 1 zjm)
noncomputable abbrev zyl (P : Program) (w : World) (K : PySem.W.Frag) (mg : Str → Option Value) (base : Heap) : Prop := Dn P w K mg base "nearest" ["book", "call"] 5 (spD 2 zmv)
noncomputable abbrev zsf (P : Program) (w : World) (K : PySem.W.Frag) (mg : Str → Option Value) (base : Heap) : Prop := Dn P w K mg base "answer_of" ["book", "call"] 6 (spD 2 zhz)
noncomputable abbrev zsg (P : Program) (w : World) (K : PySem.W.Frag) (mg : Str → Option Value) (base : Heap) : Prop := Dn P w K mg base "all_calls" ["book"] 3 (spD 1 zia)
noncomputable abbrev zne (P : Program) (w : World) (K : PySem.W.Frag) (mg : Str → Option Value) (base : Heap) : Prop := Dn P w K mg base "all_answers" ["book"] 7 (spD 1 zby)
noncomputable abbrev zym (P : Program) (w : World) (K : PySem.W.Frag) (mg : Str → Option Value) (base : Heap) : Prop := Dn P w K mg base "_law_pen" ["_law_script"] 1 (zade K ziu)
noncomputable abbrev zje (P : Program) (w : World) (K : PySem.W.Frag) (mg : Str → Option Value) (base : Heap) : Prop := Dn P w K mg base "_law_draw" ["_law_pen_here", "_law_many"] 1 (spR penK 2 zar)
noncomputable abbrev zom (P : Program) (w : World) (K : PySem.W.Frag) (mg : Str → Option Value) (base : Heap) : Prop := Dn P w K mg base "_law_name" ["_law_pen_here", "_law_names"] 2 (spR penK 2 zel)
noncomputable abbrev zyn (P : Program) (w : World) (K : PySem.W.Frag) (mg : Str → Option Value) (base : Heap) : Prop := Dn P w K mg base "_law_web" ["_law_pen_here", "_law_size"] 3 (spR penK 2 zem)
noncomputable abbrev zud (P : Program) (w : World) (K : PySem.W.Frag) (mg : Str → Option Value) (base : Heap) : Prop := Dn P w K mg base "_law_book" ["_law_pen_here"] 4 (spR penK 1 ziv)
noncomputable abbrev zacl (P : Program) (w : World) (K : PySem.W.Frag) (mg : Str → Option Value) (base : Heap) : Prop := Dn P w K mg base "_law_up" ["_law_web_here"] 1 (spD 1 zii)
noncomputable abbrev zacm (P : Program) (w : World) (K : PySem.W.Frag) (mg : Str → Option Value) (base : Heap) : Prop := Dn P w K mg base "_law_on" ["_law_up_here", "_law_call", "_law_kinds"] 1 (spD 3 zco)
noncomputable abbrev zue (P : Program) (w : World) (K : PySem.W.Frag) (mg : Str → Option Value) (base : Heap) : Prop := Dn P w K mg base "_law_told" ["_law_up_here", "_law_rules", "_law_call"] 2 (spD 3 zet)
noncomputable abbrev zsh (P : Program) (w : World) (K : PySem.W.Frag) (mg : Str → Option Value) (base : Heap) : Prop := Dn P w K mg base "_law_calls" ["_law_book_here"] 1 (spD 1 zgd)
noncomputable abbrev zuf (P : Program) (w : World) (K : PySem.W.Frag) (mg : Str → Option Value) (base : Heap) : Prop := Dn P w K mg base "_law_same" ["_law_due_here", "_law_thing"] 8 (spD 2 zci)
noncomputable abbrev zug (P : Program) (w : World) (K : PySem.W.Frag) (mg : Str → Option Value) (base : Heap) : Prop := Dn P w K mg base "_law_copy" ["_law_book_here"] 1 (spD 1 ziw)
noncomputable abbrev zyo (P : Program) (w : World) (K : PySem.W.Frag) (mg : Str → Option Value) (base : Heap) : Prop := Dn P w K mg base "_law_due" ["_law_book_here"] 3 (spD 1 zdc)
section
variable {P : Program} {w : World} {K : PySem.W.Frag} {mg : Str → Option Value} {base : Heap}
theorem zaan {f : Addr} {fd : FuncData} (F : Fun K "products" "products" zhi f fd) (T : Txt mg)  : FnOk P w K mg base CX0 1 f fd ["rows"] (spD 1 zlc) := by
  refine F.ok zaaa (fun vs H Q E h => zcb h) (fun cdv A outer s H vs Q E hr h => ?_)
  have hu := zep hr
  apply Exists.intro
  apply And.intro
  · refine' Bx.out (zah (zbb (i := 1) zjn rfl (Or.inl rfl) (zdg (zaa (zed zac) zac (by rfl))) (by rfl) (.inl rfl))
  (zah (zfb PassesOwn.never rfl (zbn (K := K) rfl (bv 0)) (zao (i := 2) zjn rfl (Or.inr rfl) (.inl rfl))
   (zam (zagp (i := 1) (zbl (N' := ["ahead", "thing", "row"]) (own := ["ahead", "thing"]) (fr := [2]) (by kernel_rfl)) rfl (zbn (K := K) rfl (bv 1)) ?hb1 (by rfl) zjn rfl rfl (by intro _; rfl) (by intro _ _; rfl))) (by intro _; rfl))
  (zam (zaz (bv 1)))))
    case hb1 => (intro cl C s H fp; refine' ⟨Bx.out (zao (i := 0) zlp rfl (Or.inl rfl) (by first | exact .inl rfl | exact .inr rfl | assumption)), Bx.out zdh, Bx.out (zbn (K := K) rfl (bv 2)), Bx.out (zao (i := 1) zlp rfl (Or.inl rfl) (by first | exact .inl rfl | exact .inr rfl | assumption)), Bx.out zdh, Bx.out (zbw (zagk (K := K) rfl) (bv 0) (zed (zaa (bv 1) zac (by rfl))))⟩)
  exact fn_d (f := ztl) ((zcc (zhv (zfp (zaf (zgp zap) zap))) (zcc (zll (zdj (zae 0)) zcv (zhv (zabr (k := 1) (zdj (zae 1)) zcv (zux (by decide) (by decide)) (by decide) zes (zdj (zae 2)) zcv (zux (by decide) (by decide)) zes (zcs zagl (zae 0) (zgp (zaf (zae 1) zap)))))) znt))) h
theorem zaao {f : Addr} {fd : FuncData} (F : Fun K "names_of" "names_of" zhj f fd) (T : Txt mg)  : FnOk P w K mg base CX0 1 f fd ["web"] (spD 1 zhh) := by
  refine F.ok zaac (fun vs H Q E h => zcb h) (fun cdv A outer s H vs Q E hr h => ?_)
  have hu := zep hr
  apply Exists.intro
  apply And.intro
  · refine' Bx.out (zam (zaz (zbt (zbl (N' := ["name", "elders"]) (own := ["name", "elders"]) (fr := []) (by kernel_rfl)) rfl (zbn (K := K) rfl (bv 0)) ?hb1 (by intro _; rfl))))
    case hb1 => (intro cl C s H fp; refine' ⟨Bx.out (zdb (K := K) (n := 2) rfl rfl (zav (zao (i := 0) zlq rfl (Or.inl rfl) (by first | exact .inl rfl | exact .inr rfl | assumption)) (zav (zao (i := 1) zlq rfl (Or.inl rfl) (by first | exact .inl rfl | exact .inr rfl | assumption)) zda (by rfl)) (by rfl)) (by rfl) (by rfl)), Bx.out zdh, Bx.out (bv 0)⟩)
  exact fn_d (f := zis) ((zcu (zdf (zdj (zae 0)) (zgy (zax (zax zeq))) (zlm (zcg (by decide) (zcg (by decide) zik))) zes (zae 0)))) h
theorem zaap {f : Addr} {fd : FuncData} (F : Fun K "names_in" "names_in" zhk f fd) (T : Txt mg)  : FnOk P w K mg base CX0 1 f fd ["arm"] (spD 1 zga) := by
  refine F.ok zaae (fun vs H Q E h => zcb h) (fun cdv A outer s H vs Q E hr h => ?_)
  have hu := zep hr
  apply Exists.intro
  apply And.intro
  · refine' Bx.out (zah (zff (zcp (K := K) rfl (zbe (zfo (K := K) rfl) (by rfl) T.isinstance zbz (zaa (bv 0) (zaa (zhc (v := .ty "tuple") (by rfl) T.tuple zge rfl (by decide) (by decide)) zac (by rfl)) (by rfl)) (by decide) (by decide) (zab (by rfl)) (by rfl)) (fun _ => rfl)) (zam (zaz (zfg (zla (K := K) rfl) (by rfl) T.list zix (zaa (bv 0) zac (by rfl)) (by decide) (by decide) (zab (by rfl)) (by rfl)))) zch)
  (zam (zaz (zdg (zaa (bv 0) zac (by rfl))))))
  exact fn_d (f := ztk) ((zcc (znu (zin (zmk (zae 0) zqn)) (zcu (zhu zuw (zaf (zae 0) zap))) ziq) (zcu (zfp (zaf (zae 0) zap))))) h
theorem zst {f : Addr} {fd : FuncData} (F : Fun K "check_kinds" "check_kinds" zen f fd) (T : Txt mg) (D_names_of : zoj P w K mg base) : FnOk P w K mg base CX0 2 f fd ["web", "names"] (spD 2 zfs) := by
  refine F.ok zsk (fun vs H Q E h => zcb h) (fun cdv A outer s H vs Q E hr h => ?_)
  have hu := zep hr
  apply Exists.intro
  apply And.intro
  · refine' Bx.out (zah (zbb (i := 2) zil rfl (Or.inl rfl) (zay D_names_of (hr.mono (by decide)) (by rfl) (zaa (bv 0) zac (by rfl)) (by decide) (zab (by rfl)) (by rfl)) (by rfl) (.inl rfl))
  (zam (zfb PassesOwn.never rfl (zbn (K := K) rfl (bv 1)) (zao (i := 3) zil rfl (Or.inl rfl) (.inl rfl))
   (zam (zff (zcr (zmh (K := K) rfl) (bv 3) (bv 2) (by rfl)) (zam zxf) zch)) (by intro _; rfl))))
  exact fn_d (f := zfr) ((zcc (zhv (zbg (zaf (zae 0) zap))) (zll (zdj (zae 1)) zcv (znu (st_t (zcs zacz (zae 3) (zae 2))) zabn ziq)))) h
theorem zaaq {f : Addr} {fd : FuncData} (F : Fun K "roofs_of" "roofs_of" zhl f fd) (T : Txt mg)  : FnOk P w K mg base CX0 1 f fd ["web"] (spD 1 zfh) := by
  refine F.ok zaaf (fun vs H Q E h => zcb h) (fun cdv A outer s H vs Q E hr h => ?_)
  have hu := zep hr
  apply Exists.intro
  apply And.intro
  · refine' Bx.out (zah (zbb (i := 1) zgf rfl (Or.inl rfl) zqx (by rfl) (.inl rfl))
  (zah (zfb PassesOwn.never rfl (zbn (K := K) rfl (bv 0)) (zdb (K := K) (n := 2) rfl rfl (zav (zao (i := 2) zgf rfl (Or.inl rfl) (.inl rfl)) (zav (zao (i := 3) zgf rfl (Or.inl rfl) (.inl rfl)) zda (by rfl)) (by rfl)) (by rfl) (by rfl))
   (zah (zbb (i := 4) zgf rfl (Or.inl rfl) (zajk (zafv (bv 2) zabt zajj) rfl rfl (by simp) (by decide)) (by rfl) (.inl rfl))
  (zah (zfb PassesOwn.never rfl (zbn (K := K) rfl (bv 3)) (zao (i := 5) zgf rfl (Or.inl rfl) (.inl rfl))
   (zam (zeu (zgu (K := K) rfl PySem.F.plainAttrs_dict PySem.F.slot_dict_update PySem.F.type_dict_update zwr (bv 4) (zaa (zjj hu (bv 1) (bv 5) (fun _ _ => rfl)) zac (by rfl)) (by rfl) (by rfl) (by rfl) (zab (by rfl)) (by rfl)) (by rfl))) (by intro _; rfl))
  (zam (zvb hu (bv 1) (bv 2) (bv 4) rfl)))) (by intro _; rfl))
  (zam (zaz (bv 1)))))
  exact fn_d (f := ztf) ((zcc (zhv zzo) (zcc (zll (zdj (zae 0)) (zgy (zax (zax zeq))) (zcc (zhv (zarx (zae 2) (se_c fun _ => zbu))) (zcc (zll (zdj (zae 3)) zcv (zakz (zji (zae 5)))) (zafm (zae 2) (zae 4))))) znt))) h
theorem zadn {f : Addr} {fd : FuncData} (F : Fun K "roof_of" "roof_of" ziy f fd) (T : Txt mg) (D_names_in : zok P w K mg base) : FnOk P w K mg base CX0 2 f fd ["roofs", "arm"] (spD 2 zkm) := by
  refine F.ok zadi (fun vs H Q E h => zcb h) (fun cdv A outer s H vs Q E hr h => ?_)
  have hu := zep hr
  apply Exists.intro
  apply And.intro
  · refine' Bx.out (zah (zbb (i := 2) zoe rfl (Or.inl rfl) zqx (by rfl) (.inl rfl))
  (zah (zfb PassesOwn.never rfl (zbn (K := K) rfl (zay D_names_in (hr.mono (by decide)) (by rfl) (zaa (bv 1) zac (by rfl)) (by decide) (zab (by rfl)) (by rfl))) (zao (i := 3) zoe rfl (Or.inl rfl) (.inl rfl))
   (zam (zeu (zgu (K := K) rfl PySem.F.plainAttrs_dict PySem.F.slot_dict_update PySem.F.type_dict_update zwr (bv 2) (zaa (zjj hu (bv 0) (bv 3) (fun _ _ => rfl)) zac (by rfl)) (by rfl) (by rfl) (by rfl) (zab (by rfl)) (by rfl)) (by rfl))) (by intro _; rfl))
  (zam (zaz (bv 2)))))
  exact fn_d (f := zxr) ((zcc (zhv zzo) (zcc (zll (zdj (zbg (zaf (zae 1) zap))) zcv (zakz (zji (zae 3)))) znt))) h
theorem zon {f : Addr} {fd : FuncData} (F : Fun K "calls_of_names" "calls_of_names" zcw f fd) (T : Txt mg) (D_names_of : zoj P w K mg base) (D_products : zuc P w K mg base) : FnOk P w K mg base CX0 2 f fd ["web", "places"] (spD 2 zex) := by
  refine F.ok zog (fun vs H Q E h => zcb h) (fun cdv A outer s H vs Q E hr h => ?_)
  have hu := zep hr
  apply Exists.intro
  apply And.intro
  · refine' Bx.out (zam (zaz (zay D_products (hr.mono (by decide)) (by rfl) (zaa (zbw zaku (zdg (zaa (zay D_names_of (hr.mono (by decide)) (by rfl) (zaa (bv 0) zac (by rfl)) (by decide) (zab (by rfl)) (by rfl)) zac (by rfl))) (bv 1)) zac (by rfl)) (by decide) (zab (by rfl)) (by rfl))))
  exact fn_d (f := zju) ((zcu (zbg (zaf (zcs zala (zfp (zaf (zbg (zaf (zae 0) zap)) zap)) (zae 1)) zap)))) h
theorem zpp {f : Addr} {fd : FuncData} (F : Fun K "names_in_call" "names_in_call" zdm f fd) (T : Txt mg) (D_names_in : zok P w K mg base) : FnOk P w K mg base CX0 2 f fd ["call"] (spD 1 zfv) := by
  refine F.ok zpl (fun vs H Q E h => zcb h) (fun cdv A outer s H vs Q E hr h => ?_)
  have hu := zep hr
  apply Exists.intro
  apply And.intro
  · refine' Bx.out (zam (zaz (zaga (zbl (N' := ["arm", "name"]) (own := ["arm", "name"]) (fr := []) (by kernel_rfl)) rfl (zbn (K := K) rfl (bv 0)) ?hb1 (by intro _; rfl) (by intro _ _; rfl))))
    case hb1 => (intro cl C s H fp; refine' ⟨Bx.out (zao (i := 0) zic rfl (Or.inl rfl) (by first | exact .inl rfl | exact .inr rfl | assumption)), Bx.out zdh, Bx.out (zbn (K := K) rfl (zay D_names_in (hr.mono (by decide)) (by rfl) (zaa (bv 0) zac (by rfl)) (by decide) (zab (by rfl)) (by rfl))), Bx.out (zao (i := 1) zic rfl (Or.inl rfl) (by first | exact .inl rfl | exact .inr rfl | assumption)), Bx.out zdh, Bx.out (bv 1)⟩)
  exact fn_d (f := zkn) ((zcu (zabr (k := 1) (zdj (zae 0)) zcv (zux (by decide) (by decide)) (by decide) zes (zdj (zbg (zaf (zae 0) zap))) zcv (zux (by decide) (by decide)) zes (zae 1)))) h
theorem zvx {f : Addr} {fd : FuncData} (F : Fun K "check_call" "check_call" zfi f fd) (T : Txt mg) (D_check_kinds : znd P w K mg base) (D_names_in_call : zkv P w K mg base) : FnOk P w K mg base CX0 3 f fd ["web", "places", "call"] (spD 3 zig) := by
  refine F.ok zvo (fun vs H Q E h => zcb h) (fun cdv A outer s H vs Q E hr h => ?_)
  have hu := zep hr
  apply Exists.intro
  apply And.intro
  · refine' Bx.out (zah (zff (zcr (zqs (K := K) rfl hr.units) (zbe (zfn (K := K) rfl) (by rfl) T.len zhe (zaa (bv 2) zac (by rfl)) (by decide) (by decide) (zab (by rfl)) (by rfl)) (bv 1) (zgx _)) (zam zxf) zch)
  (zam (zeu (zay D_check_kinds (hr.mono (by decide)) (by rfl) (zaa (bv 0) (zaa (zay D_names_in_call (hr.mono (by decide)) (by rfl) (zaa (bv 2) zac (by rfl)) (by decide) (zab (by rfl)) (by rfl)) zac (by rfl)) (by rfl)) (by decide) (zab (by rfl)) (by rfl)) (by rfl))))
  exact fn_d (f := zot) ((zcc (znu (st_t (zcs zzm (zhu zmi (zaf (zae 2) zap)) (zae 1))) zabn ziq) (zafk (zbg (zaf (zae 0) (zaf (zbg (zaf (zae 2) zap)) zap)))))) h
theorem zpq {f : Addr} {fd : FuncData} (F : Fun K "roofs_in_call" "roofs_in_call" zdn f fd) (T : Txt mg) (D_roof_of : zyk P w K mg base) : FnOk P w K mg base CX0 3 f fd ["roofs", "call"] (spD 2 zei) := by
  refine F.ok zpn (fun vs H Q E h => zcb h) (fun cdv A outer s H vs Q E hr h => ?_)
  have hu := zep hr
  apply Exists.intro
  apply And.intro
  · refine' Bx.out (zam (zaz (zbt (zbl (N' := ["arm", "roofs"]) (own := ["arm"]) (fr := [0]) (by kernel_rfl)) rfl (zbn (K := K) rfl (bv 1)) ?hb1 (by intro _; rfl))))
    case hb1 => (intro cl C s H fp; refine' ⟨Bx.out (zao (i := 0) zmc rfl (Or.inl rfl) (by first | exact .inl rfl | exact .inr rfl | assumption)), Bx.out zdh, Bx.out (zay D_roof_of (hr.mono (by decide)) (by rfl) (zaa (bv 1) (zaa (bv 0) zac (by rfl)) (by rfl)) (by decide) (zab (by rfl)) (by rfl))⟩)
  exact fn_d (f := zko) ((zcu (zdf (zdj (zae 1)) zcv (zgt (by decide)) zes (zbg (zaf (zae 1) (zaf (zae 0) zap)))))) h
theorem zvy {f : Addr} {fd : FuncData} (F : Fun K "fits_under" "fits_under" zfj f fd) (T : Txt mg)  : FnOk P w K mg base CX0 1 f fd ["kinds", "call_roofs"] (spD 2 zgq) := by
  refine F.ok zvq (fun vs H Q E h => zcb h) (fun cdv A outer s H vs Q E hr h => ?_)
  have hu := zep hr
  apply Exists.intro
  apply And.intro
  · refine' Bx.out (zam (zaz (zbe (zkd (K := K) rfl rfl) (by rfl) T.all zna (zaa (zbt (zbl (N' := ["kind", "roof"]) (own := ["kind", "roof"]) (fr := []) (by kernel_rfl)) rfl (zqz (K := K) rfl rfl T.zip (zaa (bv 0) (zaa (bv 1) zac (by rfl)) (by rfl)) (by rfl) (by rfl)) ?hb1 (by intro _; rfl)) zac (by rfl)) (by decide) (by decide) (zab (by rfl)) (by rfl))))
    case hb1 => (intro cl C s H fp; refine' ⟨Bx.out (zdb (K := K) (n := 2) rfl rfl (zav (zao (i := 0) zjx rfl (Or.inl rfl) (by first | exact .inl rfl | exact .inr rfl | assumption)) (zav (zao (i := 1) zjx rfl (Or.inl rfl) (by first | exact .inl rfl | exact .inr rfl | assumption)) zda (by rfl)) (by rfl)) (by rfl) (by rfl)), Bx.out zdh, Bx.out (zagc (zagb hu (bv 0) (bv 1)) (by rfl))⟩)
  exact fn_d (f := zou) ((zcu (zhu zqm (zaf (zdf (zxc (zaf (zae 0) (zaf (zae 1) zap))) (zgy (zax (zax zeq))) (zlm (zcg (by decide) (zcg (by decide) zik))) zes (zaky (zae 0) (zae 1))) zap)))) h
theorem zyp {f : Addr} {fd : FuncData} (F : Fun K "is_nearer" "is_nearer" zgg f fd) (T : Txt mg)  : FnOk P w K mg base CX0 1 f fd ["roofs", "one", "other"] (spD 3 zgb) := by
  refine F.ok zxz (fun vs H Q E h => zcb h) (fun cdv A outer s H vs Q E hr h => ?_)
  have hu := zep hr
  apply Exists.intro
  apply And.intro
  · refine' Bx.out (zam (zaz (znw (zml (zqs (K := K) rfl hr.units) (bv 1) (bv 2) (zgx _)) (zqw (zbe (zkd (K := K) rfl rfl) (by rfl) T.all zna (zaa (zbt (zbl (N' := ["low", "high", "roofs"]) (own := ["low", "high"]) (fr := [0]) (by kernel_rfl)) rfl (zqz (K := K) rfl rfl T.zip (zaa (bv 1) (zaa (bv 2) zac (by rfl)) (by rfl)) (by rfl) (by rfl)) ?hb1 (by intro _; rfl)) zac (by rfl)) (by decide) (by decide) (zab (by rfl)) (by rfl))))))
    case hb1 => (intro cl C s H fp; refine' ⟨Bx.out (zdb (K := K) (n := 2) rfl rfl (zav (zao (i := 0) zkt rfl (Or.inl rfl) (by first | exact .inl rfl | exact .inr rfl | assumption)) (zav (zao (i := 1) zkt rfl (Or.inl rfl) (by first | exact .inl rfl | exact .inr rfl | assumption)) zda (by rfl)) (by rfl)) (by rfl) (by rfl)), Bx.out zdh, Bx.out (zagc (zagb hu (bv 1) (zjj hu (bv 2) (bv 0) (fun _ _ => rfl))) (by rfl))⟩)
  exact fn_d (f := zrm) ((zcu (ztb (zcs zzm (zae 1) (zae 2)) (zhu zqm (zaf (zdf (zxc (zaf (zae 1) (zaf (zae 2) zap))) (zgy (zax (zax zeq))) (zlm (zcg (by decide) (zcg (by decide) zik))) zes (zaky (zae 1) (zji (zae 0)))) zap))))) h
theorem zoo {f : Addr} {fd : FuncData} (F : Fun K "rules_that_fit" "rules_that_fit" zcx f fd) (T : Txt mg) (D_check_call : zpe P w K mg base) (D_fits_under : zpf P w K mg base) (D_roofs_in_call : zkw P w K mg base) (D_roofs_of : zol P w K mg base) : FnOk P w K mg base CX0 4 f fd ["book", "call"] (spD 2 zeb) := by
  refine F.ok zoh (fun vs H Q E h => zcb h) (fun cdv A outer s H vs Q E hr h => ?_)
  have hu := zep hr
  apply Exists.intro
  apply And.intro
  · refine' Bx.out (zah (zzu (bv 0) (zdb (K := K) (n := 3) rfl rfl (zav (zao (i := 2) zdo rfl (Or.inl rfl) (.inl rfl)) (zav (zao (i := 3) zdo rfl (Or.inl rfl) (.inl rfl)) (zav (zao (i := 4) zdo rfl (Or.inl rfl) (.inl rfl)) zda (by rfl)) (by rfl)) (by rfl)) (by rfl) (by rfl)) (by rfl) (by rfl) (by rfl))
  (zah (zeu (zay D_check_call (hr.mono (by decide)) (by rfl) (zaa (bv 2) (zaa (bv 3) (zaa (bv 1) zac (by rfl)) (by rfl)) (by rfl)) (by decide) (zab (by rfl)) (by rfl)) (by rfl))
  (zah (zbb (i := 5) zdo rfl (Or.inr rfl) (zay D_roofs_in_call (hr.mono (by decide)) (by rfl) (zaa (zay D_roofs_of (hr.mono (by decide)) (by rfl) (zaa (bv 2) zac (by rfl)) (by decide) (zab (by rfl)) (by rfl)) (zaa (bv 1) zac (by rfl)) (by rfl)) (by decide) (zab (by rfl)) (by rfl)) (by rfl) (.inl rfl))
  (zam (zaz (zbt (zbl (N' := ["rule", "call_roofs"]) (own := ["rule"]) (fr := [5]) (by kernel_rfl)) rfl (zbn (K := K) rfl (bv 4)) ?hb1 (by intro _; rfl)))))))
    case hb1 => (intro cl C s H fp; refine' ⟨Bx.out (zao (i := 0) zli rfl (Or.inl rfl) (by first | exact .inl rfl | exact .inr rfl | assumption)), Bx.out (zqy (zcp (K := K) rfl (zay D_fits_under (hr.mono (by decide)) (by rfl) (zaa (zbx (zdp (K := K) rfl) (bv 0) zal (fun _ _ => rfl)) (zaa (bv 1) zac (by rfl)) (by rfl)) (by decide) (zab (by rfl)) (by rfl)) (fun _ => rfl))), Bx.out (bv 0)⟩)
  exact fn_d (f := zjt) ((zcc (zafl (zae 0) (zgy (zax (zax (zax zeq))))) (zcc (zafk (zbg (zaf (zae 2) (zaf (zae 3) (zaf (zae 1) zap))))) (zcc (zhv (zbg (zaf (zbg (zaf (zae 2) zap)) (zaf (zae 1) zap)))) (zcu (zdf (zdj (zae 4)) zcv (zgt (by decide)) (zin (zbg (zaf (zfq (se_c fun _ => zag)) (zaf (zae 1) zap)))) (zae 0))))))) h
theorem zvz {f : Addr} {fd : FuncData} (F : Fun K "nearest_of" "nearest_of" zfk f fd) (T : Txt mg) (D_is_nearer : zsd P w K mg base) : FnOk P w K mg base CX0 2 f fd ["roofs", "rules"] (spD 2 zgr) := by
  refine F.ok zvs (fun vs H Q E h => zcb h) (fun cdv A outer s H vs Q E hr h => ?_)
  have hu := zep hr
  apply Exists.intro
  apply And.intro
  · refine' Bx.out (zam (zaz (zbt (zbl (N' := ["rule", "roofs", "rules"]) (own := ["rule"]) (fr := [0, 1]) (by kernel_rfl)) rfl (zbn (K := K) rfl (bv 1)) ?hb1 (by intro _; rfl))))
    case hb1 => (intro cl C s H fp; refine' ⟨Bx.out (zao (i := 0) zpo rfl (Or.inr rfl) (by first | exact .inl rfl | exact .inr rfl | assumption)), Bx.out (zqy (zlx (zcp (K := K) rfl (zbe (zws (K := K) rfl rfl) (by rfl) T.any zach (zaa (zbt (zbl (N' := ["name", "kinds", "rule", "roofs"]) (own := ["name", "kinds"]) (fr := [0, 1]) (by kernel_rfl)) rfl (zbn (K := K) rfl (bv 2)) ?hb2 (by intro _; rfl)) zac (by rfl)) (by decide) (by decide) (zab (by rfl)) (by rfl)) (fun _ => rfl)))), Bx.out (bv 0)⟩; case hb2 => (intro cl C s H fp; refine' ⟨Bx.out (zdb (K := K) (n := 2) rfl rfl (zav (zao (i := 0) zjy rfl (Or.inl rfl) (by first | exact .inl rfl | exact .inr rfl | assumption)) (zav (zao (i := 1) zjy rfl (Or.inl rfl) (by first | exact .inl rfl | exact .inr rfl | assumption)) zda (by rfl)) (by rfl)) (by rfl) (by rfl)), Bx.out zdh, Bx.out (zay D_is_nearer (hr.mono (by decide)) (by rfl) (zaa (bv 3) (zaa (bv 1) (zaa (zbx (zdp (K := K) rfl) (bv 2) zal (fun _ _ => rfl)) zac (by rfl)) (by rfl)) (by rfl)) (by decide) (zab (by rfl)) (by rfl))⟩))
  exact fn_d (f := zov) ((zcu (zdf (zdj (zae 1)) zcv (zgt (by decide)) (zql (zin (zhu zqm (zaf (zdf (zdj (zae 2)) (zgy (zax (zax zeq))) (zlm (zcg (by decide) (zcg (by decide) zik))) zes (zbg (zaf (zae 3) (zaf (zae 1) (zaf (zfq (se_c fun _ => zag)) zap))))) zap)))) (zae 0)))) h
theorem zwa {f : Addr} {fd : FuncData} (F : Fun K "rule_names" "rule_names" zfl f fd) (T : Txt mg)  : FnOk P w K mg base CX0 1 f fd ["rules"] (spD 1 zih) := by
  refine F.ok zvu (fun vs H Q E h => zcb h) (fun cdv A outer s H vs Q E hr h => ?_)
  have hu := zep hr
  apply Exists.intro
  apply And.intro
  · refine' Bx.out (zam (zaz (zbt (zbl (N' := ["name", "kinds"]) (own := ["name", "kinds"]) (fr := []) (by kernel_rfl)) rfl (zbn (K := K) rfl (bv 0)) ?hb1 (by intro _; rfl))))
    case hb1 => (intro cl C s H fp; refine' ⟨Bx.out (zdb (K := K) (n := 2) rfl rfl (zav (zao (i := 0) zjz rfl (Or.inl rfl) (by first | exact .inl rfl | exact .inr rfl | assumption)) (zav (zao (i := 1) zjz rfl (Or.inl rfl) (by first | exact .inl rfl | exact .inr rfl | assumption)) zda (by rfl)) (by rfl)) (by rfl) (by rfl)), Bx.out zdh, Bx.out (bv 0)⟩)
  exact fn_d (f := zow) ((zcu (zdf (zdj (zae 0)) (zgy (zax (zax zeq))) (zlm (zcg (by decide) (zcg (by decide) zik))) zes (zae 0)))) h
theorem zyq {f : Addr} {fd : FuncData} (F : Fun K "answer_by" "answer_by" zgh f fd) (T : Txt mg)  : FnOk P w K mg base CX0 1 f fd ["names"] (spD 1 zjm) := by
  refine F.ok zyb (fun vs H Q E h => zcb h) (fun cdv A outer s H vs Q E hr h => ?_)
  have hu := zep hr
  apply Exists.intro
  apply And.intro
  · refine' Bx.out (zah (zff (zlx (zcp (K := K) rfl (bv 0) (fun _ => rfl))) (zam (zaz (zed (zaa zer zac (by rfl))))) zch)
  (zah (zff (zcr (ztc (K := K) rfl hr.units) (zbe (zfn (K := K) rfl) (by rfl) T.len zhe (zaa (bv 0) zac (by rfl)) (by decide) (by decide) (zab (by rfl)) (by rfl)) zal (zgx _)) (zam (zaz (zed (zaa zer (zaa (zbx (zdp (K := K) rfl) (bv 0) zal (fun _ _ => rfl)) zac (by rfl)) (by rfl))))) zch)
  (zam (zaz (zed (zaa zer (zaa (zfg (zjh (K := K) rfl) (by rfl) T.tuple zge (zaa (bv 0) zac (by rfl)) (by decide) (by decide) (zab (by rfl)) (by rfl)) zac (by rfl)) (by rfl)))))))
  exact fn_d (f := zrn) ((zcc (znu (zql (zin (zae 0))) (zcu (zgp (zaf (se_c fun _ => zbs) zap))) ziq) (zcc (znu (st_t (zcs zacy (zhu zmi (zaf (zae 0) zap)) (se_c fun _ => zag))) (zcu (zgp (zaf (se_c fun _ => zbs) (zaf (zfq (se_c fun _ => zag)) zap)))) ziq) (zcu (zgp (zaf (se_c fun _ => zbs) (zaf (zhu zpt (zaf (zae 0) zap)) zap))))))) h
theorem zado {f : Addr} {fd : FuncData} (F : Fun K "nearest" "nearest" ziz f fd) (T : Txt mg) (D_nearest_of : zpg P w K mg base) (D_roofs_of : zol P w K mg base) (D_rule_names : zph P w K mg base) (D_rules_that_fit : zkb P w K mg base) : FnOk P w K mg base CX0 5 f fd ["book", "call"] (spD 2 zmv) := by
  refine F.ok zadj (fun vs H Q E h => zcb h) (fun cdv A outer s H vs Q E hr h => ?_)
  have hu := zep hr
  apply Exists.intro
  apply And.intro
  · refine' Bx.out (zah (zbb (i := 2) ztu rfl (Or.inl rfl) (zay D_rules_that_fit (hr.mono (by decide)) (by rfl) (zaa (bv 0) (zaa (bv 1) zac (by rfl)) (by rfl)) (by decide) (zab (by rfl)) (by rfl)) (by rfl) (.inl rfl))
  (zam (zaz (zay D_rule_names (hr.mono (by decide)) (by rfl) (zaa (zay D_nearest_of (hr.mono (by decide)) (by rfl) (zaa (zay D_roofs_of (hr.mono (by decide)) (by rfl) (zaa (zbx (zdp (K := K) rfl) (bv 0) zal (fun _ _ => rfl)) zac (by rfl)) (by decide) (zab (by rfl)) (by rfl)) (zaa (bv 2) zac (by rfl)) (by rfl)) (by decide) (zab (by rfl)) (by rfl)) zac (by rfl)) (by decide) (zab (by rfl)) (by rfl)))))
  exact fn_d (f := zxs) ((zcc (zhv (zbg (zaf (zae 0) (zaf (zae 1) zap)))) (zcu (zbg (zaf (zbg (zaf (zbg (zaf (zfq (se_c fun _ => zag)) zap)) (zaf (zae 2) zap))) zap))))) h
theorem zyr {f : Addr} {fd : FuncData} (F : Fun K "answer_of" "answer_of" zgi f fd) (T : Txt mg) (D_answer_by : zse P w K mg base) (D_nearest : zyl P w K mg base) : FnOk P w K mg base CX0 6 f fd ["book", "call"] (spD 2 zhz) := by
  refine F.ok zye (fun vs H Q E h => zcb h) (fun cdv A outer s H vs Q E hr h => ?_)
  have hu := zep hr
  apply Exists.intro
  apply And.intro
  · refine' Bx.out (zam (zaz (zay D_answer_by (hr.mono (by decide)) (by rfl) (zaa (zay D_nearest (hr.mono (by decide)) (by rfl) (zaa (bv 0) (zaa (bv 1) zac (by rfl)) (by rfl)) (by decide) (zab (by rfl)) (by rfl)) zac (by rfl)) (by decide) (zab (by rfl)) (by rfl))))
  exact fn_d (f := zro) ((zcu (zbg (zaf (zbg (zaf (zae 0) (zaf (zae 1) zap))) zap)))) h
theorem zys {f : Addr} {fd : FuncData} (F : Fun K "all_calls" "all_calls" zgj f fd) (T : Txt mg) (D_calls_of_names : zka P w K mg base) : FnOk P w K mg base CX0 3 f fd ["book"] (spD 1 zia) := by
  refine F.ok zyf (fun vs H Q E h => zcb h) (fun cdv A outer s H vs Q E hr h => ?_)
  have hu := zep hr
  apply Exists.intro
  apply And.intro
  · refine' Bx.out (zah (zzu (bv 0) (zdb (K := K) (n := 3) rfl rfl (zav (zao (i := 1) zij rfl (Or.inl rfl) (.inl rfl)) (zav (zao (i := 2) zij rfl (Or.inl rfl) (.inl rfl)) (zav (zao (i := 3) zij rfl (Or.inl rfl) (.inl rfl)) zda (by rfl)) (by rfl)) (by rfl)) (by rfl) (by rfl)) (by rfl) (by rfl) (by rfl))
  (zam (zaz (zay D_calls_of_names (hr.mono (by decide)) (by rfl) (zaa (bv 1) (zaa (bv 2) zac (by rfl)) (by rfl)) (by decide) (zab (by rfl)) (by rfl)))))
  exact fn_d (f := zrs) ((zcc (zafl (zae 0) (zgy (zax (zax (zax zeq))))) (zcu (zbg (zaf (zae 1) (zaf (zae 2) zap)))))) h
theorem zsu {f : Addr} {fd : FuncData} (F : Fun K "all_answers" "all_answers" zeo f fd) (T : Txt mg) (D_all_calls : zsg P w K mg base) (D_answer_of : zsf P w K mg base) : FnOk P w K mg base CX0 7 f fd ["book"] (spD 1 zby) := by
  refine F.ok zsm (fun vs H Q E h => zcb h) (fun cdv A outer s H vs Q E hr h => ?_)
  have hu := zep hr
  apply Exists.intro
  apply And.intro
  · refine' Bx.out (zam (zaz (zbt (zbl (N' := ["call", "book"]) (own := ["call"]) (fr := [0]) (by kernel_rfl)) rfl (zbn (K := K) rfl (zay D_all_calls (hr.mono (by decide)) (by rfl) (zaa (bv 0) zac (by rfl)) (by decide) (zab (by rfl)) (by rfl))) ?hb1 (by intro _; rfl))))
    case hb1 => (intro cl C s H fp; refine' ⟨Bx.out (zao (i := 0) zoi rfl (Or.inl rfl) (by first | exact .inl rfl | exact .inr rfl | assumption)), Bx.out zdh, Bx.out (zay D_answer_of (hr.mono (by decide)) (by rfl) (zaa (bv 1) (zaa (bv 0) zac (by rfl)) (by rfl)) (by decide) (zab (by rfl)) (by rfl))⟩)
  exact fn_d (f := zmy) ((zcu (zdf (zdj (zbg (zaf (zae 0) zap))) zcv (zgt (by decide)) zes (zbg (zaf (zae 1) (zaf (zae 0) zap)))))) h
theorem zadp {f : Addr} {fd : FuncData} (F : Fun K "_law_pen" "_law_pen" zja f fd) (T : Txt mg) : FnOk P w K mg base CX0 1 f fd ["_law_script"] (zade K ziu) := by
  refine F.ok zadk (fun vs H Q E h => zago h) (fun cdv A outer s H vs Q E hr h => ?_)
  have hu := zep hr
  apply Exists.intro
  apply And.intro
  · refine' Bx.out (zah (zbb (i := 1) zjb rfl (Or.inl rfl) zal (by rfl) (.inl rfl))
  (zah (zfb PassesOwn.never rfl (zafz (K := K) rfl rfl T.enumerate (zaa (zmm (zais (K := K) rfl) (bv 0) zpw (zpv zal)) zac (by rfl)) (by rfl)) (zdb (K := K) (n := 2) rfl rfl (zav (zao (i := 2) zjb rfl (Or.inl rfl) (.inl rfl)) (zav (zao (i := 3) zjb rfl (Or.inl rfl) (.inl rfl)) zda (by rfl)) (by rfl)) (by rfl) (by rfl))
   (zam (zbb (i := 1) zjb rfl (Or.inl rfl) (zbw zpz (zbw (zee (K := K) rfl) (zbw (zee (K := K) rfl) (zbw zqd (bv 1) zal) (zbw zqd (zbw zpz (bv 3) zal) (zbw (zee (K := K) rfl) (zbw zqd (bv 2) (bv 2)) zal))) zal) zal) (by rfl) (.inl rfl))) (by intro _; rfl))
  (zam (zaz (zdg (zaa (zfg (zla (K := K) rfl) (by rfl) T.list zix (zaa (zmm (zais (K := K) rfl) (bv 0) zpw (zpv zal)) zac (by rfl)) (by decide) (by decide) (zab (by rfl)) (by rfl)) (zaa zal (zaa (bv 1) (zaa zal zac (by rfl)) (by rfl)) (by rfl)) (by rfl)))))))
  exact zaqf (N := zry) (n := 3) (F := zmw) (g := eVar 1) rfl ((zbh (zxg (zagd (se_c fun _ => zag) (by decide))) (zrc (zajr (zbr zagm zcj)) (zand (zxi (by decide) (zxi (by decide) zajl))) (zajv (zxm (by decide) (zxm (by decide) zajw))) (zxg (zagd (zcs zqi (zcs zht (zcs zht (zcs zwv (zae 1) (se_c fun _ => zag)) (zcs zwv (zcs zqi (zae 3) (se_c fun _ => zag)) (zcs zht (zcs zwv (zae 2) (zae 2)) (se_c fun _ => zag)))) (se_c fun _ => zag)) (se_c fun _ => zag)) (by decide)))))) (zae 1) zuw h
theorem zaar {f : Addr} {fd : FuncData} (F : Fun K "_law_draw" "_law_draw" zhm f fd) (T : Txt mg)  : FnOk P w K mg base CX0 1 f fd ["_law_pen_here", "_law_many"] (spR penK 2 zar) := by
  refine F.ok zaag (fun vs H Q E h => zve h) (fun cdv A outer s H vs Q E hr h => ?_)
  have hu := zep hr
  apply Exists.intro
  apply And.intro
  · refine' Bx.out (zah (zafx PassesOwn.never (zafw (zcr zaoq (zbx (zdp (K := K) rfl) (bv 0) zal (fun _ _ => rfl)) (zbw zrg zal zal) (zgx _)) (zabu (zcr (zqs (K := K) rfl hr.units) (zbx (zdp (K := K) rfl) (bv 0) zal (fun _ _ => rfl)) (zdg zac) (zgx _)))).pt (zam (zmn (bv 0) zal (zbw zpz (zgu (K := K) rfl PySem.F.plainAttrs_list PySem.F.slot_list_pop PySem.F.type_list_pop zaic (zbx (zdp (K := K) rfl) (bv 0) zal (fun _ _ => rfl)) (zaa zal zac (by rfl)) (by rfl) (by rfl) (by rfl) (zab (by rfl)) (by rfl)) (zbw zrg (zbw zrg zal zal) zal)) (by intro _; rfl) (by rfl) (by rfl) (by rfl))))
  (zah (zff (zcr zarn (zbx (zdp (K := K) rfl) (bv 0) zal (fun _ _ => rfl)) (zbw zrg zal zal) (zgx _)) (zah (zbb (i := 2) zrz rfl (Or.inl rfl) (zbw zpz (zbx (zdp (K := K) rfl) (bv 0) zal (fun _ _ => rfl)) (bv 1)) (by rfl) (.inl rfl))
  (zah (zmn (bv 0) zal (zbw zyz (zbx (zdp (K := K) rfl) (bv 0) zal (fun _ _ => rfl)) (bv 1)) (by intro _; rfl) (by rfl) (by rfl) (by rfl))
  (zam (zaz (bv 2))))) zch)
  (zah (zmn (bv 0) zal (zbw (zee (K := K) rfl) (zbx (zdp (K := K) rfl) (bv 0) zal (fun _ _ => rfl)) zal) (by intro _; rfl) (by rfl) (by rfl) (by rfl))
  (zah (zmn (bv 0) zal (zbw zpz (zbw (zee (K := K) rfl) (zbw (zee (K := K) rfl) (zbw zqd (zbx (zdp (K := K) rfl) (bv 0) zal (fun _ _ => rfl)) zal) (zbw zqd (zbx (zdp (K := K) rfl) (bv 0) zal (fun _ _ => rfl)) (zbx (zdp (K := K) rfl) (bv 0) zal (fun _ _ => rfl)))) zal) zal) (by intro _; rfl) (by rfl) (by rfl) (by rfl))
  (zam (zaz (zbw zpz (zbw zyz (zbw zpz (zbw zrg (zbx (zdp (K := K) rfl) (bv 0) zal (fun _ _ => rfl)) zal) zal) zal) (bv 1))))))))
  exact fn_r (by decide) (F := ztm) ((zbh (zagj 1000 (zamz (zana (zdl zapl (zjk (i := 1)) (zan (zcs zrh (se_c fun _ => zag) (se_c fun _ => zag))))) zagi) (zvf (i := 1) (zdl zqi zajo (zan (zcs zrh (zcs zrh (se_c fun _ => zag) (se_c fun _ => zag)) (se_c fun _ => zag)))))) (zbh (zrb (zana (zdl zarv (zjk (i := 1)) (zan (zcs zrh (se_c fun _ => zag) (se_c fun _ => zag))))) (zbh (zck (zdl zqi (zjk (i := 1)) (zan (zae 1))) (by decide)) (zbh (zvf (i := 1) (zdl zzl (zjk (i := 1)) (zan (zae 1)))) (zxg zvg))) zly) (zbh (zvf (i := 3) (zdl zht (zjk (i := 3)) (zan (se_c fun _ => zag)))) (zbh (zvf (i := 2) (zdl zqi (zdl zht (zdl zht (zdl zwv (zjk (i := 2)) (zan (se_c fun _ => zag))) (zdl zwv (zjk (i := 3)) (zjk (i := 3)))) (zan (se_c fun _ => zag))) (zan (se_c fun _ => zag)))) (zvc (zdl zqi (zdl zzl (zdl zqi (zdl zrh (zjk (i := 2)) (zan (se_c fun _ => zag))) (zan (se_c fun _ => zag))) (zan (se_c fun _ => zag))) (zan (zae 1))))))))) h
theorem zaas {f : Addr} {fd : FuncData} (F : Fun K "_law_name" "_law_name" zhn f fd) (T : Txt mg) (D_law_draw : zje P w K mg base) : FnOk P w K mg base CX0 2 f fd ["_law_pen_here", "_law_names"] (spR penK 2 zel) := by
  refine F.ok zaah (fun vs H Q E h => zve h) (fun cdv A outer s H vs Q E hr h => ?_)
  have hu := zep hr
  apply Exists.intro
  apply And.intro
  · refine' Bx.out (zah (zbb (i := 2) zdz rfl (Or.inr rfl) zer (by rfl) (.inl rfl))
  (zah (zbb (i := 3) zdz rfl (Or.inl rfl) (zgu (K := K) rfl PySem.F.plainAttrs_str PySem.F.slot_str_join PySem.F.type_str_join zang zer (zaa (zbt (zbl (N' := ["_law_k", "_law_pen_here", "_law_signs"]) (own := ["_law_k"]) (fr := [0, 2]) (by kernel_rfl)) rfl (zhg rfl T.range (zaa (zbw (zee (K := K) rfl) zal (zay D_law_draw (hr.mono (by decide)) (by rfl) (zaa (bv 0) (zaa zal zac (by rfl)) (by rfl)) (by decide) (zab (by rfl)) (by rfl))) zac (by rfl)) (by rfl)) ?hb1 (by intro _; rfl)) zac (by rfl)) (by rfl) (by rfl) (by rfl) (zab (by rfl)) (by rfl)) (by rfl) (.inl rfl))
  (zah (zbb (i := 4) zdz rfl (Or.inl rfl) (zay D_law_draw (hr.mono (by decide)) (by rfl) (zaa (bv 0) (zaa zal zac (by rfl)) (by rfl)) (by decide) (zab (by rfl)) (by rfl)) (by rfl) (.inl rfl))
  (zah (zff (zafw (zcr (zqs (K := K) rfl hr.units) (bv 1) (zdg zac) (zgx _)) (zabu (zcr zaoq (bv 4) zal (zgx _)))).pt (zah (zbb (i := 5) zdz rfl (Or.inl rfl) (zbx (zdp (K := K) rfl) (bv 1) (zay D_law_draw (hr.mono (by decide)) (by rfl) (zaa (bv 0) (zaa (zbe (zfn (K := K) rfl) (by rfl) T.len zhe (zaa (bv 1) zac (by rfl)) (by decide) (by decide) (zab (by rfl)) (by rfl)) zac (by rfl)) (by rfl)) (by decide) (zab (by rfl)) (by rfl)) (fun _ _ => rfl)) (by rfl) (.inl rfl))
  (zam (zbb (i := 3) zdz rfl (Or.inl rfl) (zmm (zais (K := K) rfl) (zbx (zdp (K := K) rfl) (zdg (zaa (zbw (zee (K := K) rfl) (bv 5) (bv 3)) (zaa (zbw (zee (K := K) rfl) (bv 3) (bv 5)) zac (by rfl)) (by rfl))) (bv 4) (fun _ _ => rfl)) zpw (zpv zal)) (by rfl) (.inl rfl)))) zch)
  (zah (zbb (i := 6) zdz rfl (Or.inl rfl) (zbw (zee (K := K) rfl) (zbw zaku (zdg (zaa (bv 3) zac (by rfl))) zal) (zdg (zaa zer (zaa zer (zaa zer (zaa zer (zaa zer zac (by rfl)) (by rfl)) (by rfl)) (by rfl)) (by rfl)))) (by rfl) (.inl rfl))
  (zah (zbb (i := 3) zdz rfl (Or.inl rfl) (zbx (zdp (K := K) rfl) (bv 6) (zay D_law_draw (hr.mono (by decide)) (by rfl) (zaa (bv 0) (zaa zal zac (by rfl)) (by rfl)) (by decide) (zab (by rfl)) (by rfl)) (fun _ _ => rfl)) (by rfl) (.inl rfl))
  (zah (zff (zcr (zakv (K := K) rfl) (bv 3) (bv 1) (by rfl)) (zam (zbb (i := 3) zdz rfl (Or.inl rfl) (zbx (zdp (K := K) rfl) (zbt (zbl (N' := ["_law_sign", "_law_names"]) (own := ["_law_sign"]) (fr := [1]) (by kernel_rfl)) rfl (zamv (bv 2)) ?hb2 (by intro _; rfl)) zal (fun _ _ => rfl)) (by rfl) (.inl rfl))) zch)
  (zam (zaz (bv 3))))))))))
    case hb1 => (intro cl C s H fp; refine' ⟨Bx.out (zao (i := 0) zsn rfl (Or.inl rfl) (by first | exact .inl rfl | exact .inr rfl | assumption)), Bx.out zdh, Bx.out (zbx (zdp (K := K) rfl) (bv 2) (zay D_law_draw (hr.mono (by decide)) (by rfl) (zaa (bv 1) (zaa zal zac (by rfl)) (by rfl)) (by decide) (zab (by rfl)) (by rfl)) (fun _ _ => rfl))⟩)
    case hb2 => (intro cl C s H fp; refine' ⟨Bx.out (zao (i := 0) zso rfl (Or.inl rfl) (by first | exact .inl rfl | exact .inr rfl | assumption)), Bx.out (zqy (zcr (zmh (K := K) rfl) (bv 0) (bv 1) (by rfl))), Bx.out (bv 0)⟩)
  exact fn_r (by decide) (F := ztn) ((zbh (zck (zan (se_c fun _ => zbs)) (by decide)) (zbh (zck (zaju (zajm (kk := 0) (by rfl) (znz (zbr (zdl zht (zan (se_c fun _ => zag)) (zcd (zbr (zan (se_c fun _ => zag)) zcj))) zcj)) (zmo (by decide)) (zgt (by decide)) zes (zdl zqk (zan (zae 2)) (zcd (zbr (zan (se_c fun _ => zag)) zcj))))) (by decide)) (zbh (zck (zcd (zbr (zan (se_c fun _ => zag)) zcj)) (by decide)) (zbh (zrb (zmp (zapm (st_t (zcs zzm (zae 1) (zfp zap))) (st_t (zcs zapl (zae 4) (se_c fun _ => zag))))) (zbh (zck (zdl zqk (zan (zae 1)) (zcd (zbr (zan (zhu zmi (zaf (zae 1) zap))) zcj))) (by decide)) (zck (zan (zapp (zcs zqk (zfp (zaf (zcs zht (zae 5) (zae 3)) (zaf (zcs zht (zae 3) (zae 5)) zap))) (zae 4)) zafh (zafi (se_c fun _ => zag)))) (by decide))) zly) (zbh (zck (zan (zcs zht (zcs zala (zfp (zaf (zae 3) zap)) (se_c fun _ => zag)) (zfp (zaf (se_c fun _ => zbs) (zaf (se_c fun _ => zbs) (zaf (se_c fun _ => zbs) (zaf (se_c fun _ => zbs) (zaf (se_c fun _ => zbs) zap)))))))) (by decide)) (zbh (zck (zdl zqk (zan (zae 6)) (zcd (zbr (zan (se_c fun _ => zag)) zcj))) (by decide)) (zbh (zrb (zmp (st_t (zcs zacz (zae 3) (zae 1)))) (zck (zan (zcs zqk (zdf (zaqa (zae 2)) zcv (zgt (by decide)) (st_t (zcs zacz (zae 0) (zae 1))) (zae 0)) (se_c fun _ => zag))) (by decide)) zly) (zxg zvg))))))))) h
theorem zadq {f : Addr} {fd : FuncData} (F : Fun K "_law_web" "_law_web" zjc f fd) (T : Txt mg) (D_law_draw : zje P w K mg base) (D_law_name : zom P w K mg base) : FnOk P w K mg base CX0 3 f fd ["_law_pen_here", "_law_size"] (spR penK 2 zem) := by
  refine F.ok zadl (fun vs H Q E h => zve h) (fun cdv A outer s H vs Q E hr h => ?_)
  have hu := zep hr
  apply Exists.intro
  apply And.intro
  · refine' Bx.out (zah (zbb (i := 2) zgk rfl (Or.inl rfl) (zdg zac) (by rfl) (.inl rfl))
  (zah (zbb (i := 3) zgk rfl (Or.inl rfl) (zdg zac) (by rfl) (.inl rfl))
  (zah (zfb PassesOwn.never rfl (zhg rfl T.range (zaa (bv 1) zac (by rfl)) (by rfl)) (zao (i := 4) zgk rfl (Or.inl rfl) (.inl rfl))
   (zah (zbb (i := 5) zgk rfl (Or.inl rfl) (zdg zac) (by rfl) (.inl rfl))
  (zah (zfb PassesOwn.never rfl (zhg rfl T.range (zaa (zbe (zaee rfl) (by rfl) T.min zakc (zaa (bv 4) (zaa (zay D_law_draw (hr.mono (by decide)) (by rfl) (zaa (bv 0) (zaa zal zac (by rfl)) (by rfl)) (by decide) (zab (by rfl)) (by rfl)) zac (by rfl)) (by rfl)) (by decide) (by decide) (zab (by rfl)) (by rfl)) zac (by rfl)) (by rfl)) (zao (i := 6) zgk rfl (Or.inl rfl) (.inl rfl))
   (zah (zbb (i := 7) zgk rfl (Or.inl rfl) (zbx (zdp (K := K) rfl) (bv 3) (zay D_law_draw (hr.mono (by decide)) (by rfl) (zaa (bv 0) (zaa (bv 4) zac (by rfl)) (by rfl)) (by decide) (zab (by rfl)) (by rfl)) (fun _ _ => rfl)) (by rfl) (.inl rfl))
  (zam (zff (zcr (zmh (K := K) rfl) (bv 7) (bv 5) (by rfl)) (zam (zeu (zgu (K := K) rfl PySem.F.plainAttrs_list PySem.F.slot_list_append PySem.F.type_list_append zgn (bv 5) (zaa (bv 7) zac (by rfl)) (by rfl) (by rfl) (by rfl) (zab (by rfl)) (by rfl)) (by rfl))) zch))) (by intro _; rfl))
  (zah (zeu (zgu (K := K) rfl PySem.F.plainAttrs_list PySem.F.slot_list_append PySem.F.type_list_append zgn (bv 3) (zaa (zay D_law_name (hr.mono (by decide)) (by rfl) (zaa (bv 0) (zaa (bv 3) zac (by rfl)) (by rfl)) (by decide) (zab (by rfl)) (by rfl)) zac (by rfl)) (by rfl) (by rfl) (by rfl) (zab (by rfl)) (by rfl)) (by rfl))
  (zam (zeu (zgu (K := K) rfl PySem.F.plainAttrs_list PySem.F.slot_list_append PySem.F.type_list_append zgn (bv 2) (zaa (zed (zaa (zbx (zdp (K := K) rfl) (bv 3) (bv 4) (fun _ _ => rfl)) (zaa (bv 5) zac (by rfl)) (by rfl))) zac (by rfl)) (by rfl) (by rfl) (by rfl) (zab (by rfl)) (by rfl)) (by rfl)))))) (by intro _; rfl))
  (zam (zaz (bv 2))))))
  exact fn_r (by decide) (F := zmx) ((zbh (zck (zan (zfp zap)) (by decide)) (zbh (zck (zan (zfp zap)) (by decide)) (zbh (zrc (zabv (zqo (zaf (zae 1) zap))) (zmo (by decide)) (zmq (by decide)) (zbh (zck (zan (zfp zap)) (by decide)) (zbh (zrc (znz (zbr (zalb zapo (zbr (zan (zae 4)) (zbr (zcd (zbr (zan (se_c fun _ => zag)) zcj)) zcj))) zcj)) (zmo (by decide)) (zmq (by decide)) (zbh (zck (zdl zqk (zan (zae 3)) (zcd (zbr (zan (zae 4)) zcj))) (by decide)) (zrb (zmp (st_t (zcs zacz (zae 7) (zae 5)))) (zny (zan (zae 7))) zly))) (zbh (zny (zcd (zbr (zan (zae 3)) zcj))) (zny (zan (zgp (zaf (zfq (zae 4)) (zaf (zae 5) zap))))))))) (zxg zvg))))) h
theorem zaat {f : Addr} {fd : FuncData} (F : Fun K "_law_book" "_law_book" zho f fd) (T : Txt mg) (D_law_draw : zje P w K mg base) (D_law_name : zom P w K mg base) (D_law_web : zyn P w K mg base) : FnOk P w K mg base CX0 4 f fd ["_law_pen_here"] (spR penK 1 ziv) := by
  refine F.ok zaai (fun vs H Q E h => zve h) (fun cdv A outer s H vs Q E hr h => ?_)
  have hu := zep hr
  apply Exists.intro
  apply And.intro
  · refine' Bx.out (zah (zbb (i := 1) zdi rfl (Or.inl rfl) (zbw (zee (K := K) rfl) zal (zay D_law_draw (hr.mono (by decide)) (by rfl) (zaa (bv 0) (zaa zal zac (by rfl)) (by rfl)) (by decide) (zab (by rfl)) (by rfl))) (by rfl) (.inl rfl))
  (zah (zbb (i := 2) zdi rfl (Or.inl rfl) (zbw (zee (K := K) rfl) zal (zay D_law_draw (hr.mono (by decide)) (by rfl) (zaa (bv 0) (zaa (zbx (zdp (K := K) rfl) (zdg (zaa zal (zaa zal (zaa zal zac (by rfl)) (by rfl)) (by rfl))) (zbw zakr (bv 1) zal) (fun _ _ => rfl)) zac (by rfl)) (by rfl)) (by decide) (zab (by rfl)) (by rfl))) (by rfl) (.inl rfl))
  (zah (zff (zcr (ztc (K := K) rfl hr.units) (zay D_law_draw (hr.mono (by decide)) (by rfl) (zaa (bv 0) (zaa zal zac (by rfl)) (by rfl)) (by decide) (zab (by rfl)) (by rfl)) zal (zgx _)) (zam (zbb (i := 2) zdi rfl (Or.inl rfl) (zbx (zdp (K := K) rfl) (zdg (zaa zal (zaa zal (zaa zal zac (by rfl)) (by rfl)) (by rfl))) (zbw zakr (bv 1) zal) (fun _ _ => rfl)) (by rfl) (.inl rfl))) zch)
  (zah (zbb (i := 3) zdi rfl (Or.inl rfl) (zay D_law_web (hr.mono (by decide)) (by rfl) (zaa (bv 0) (zaa (bv 2) zac (by rfl)) (by rfl)) (by decide) (zab (by rfl)) (by rfl)) (by rfl) (.inl rfl))
  (zah (zbb (i := 4) zdi rfl (Or.inl rfl) (zdg zac) (by rfl) (.inl rfl))
  (zah (zfb PassesOwn.never rfl (zhg rfl T.range (zaa (zay D_law_draw (hr.mono (by decide)) (by rfl) (zaa (bv 0) (zaa zal zac (by rfl)) (by rfl)) (by decide) (zab (by rfl)) (by rfl)) zac (by rfl)) (by rfl)) (zao (i := 5) zdi rfl (Or.inl rfl) (.inl rfl))
   (zah (zbb (i := 6) zdi rfl (Or.inl rfl) (zdg zac) (by rfl) (.inl rfl))
  (zah (zfb PassesOwn.never rfl (zhg rfl T.range (zaa (bv 1) zac (by rfl)) (by rfl)) (zao (i := 7) zdi rfl (Or.inl rfl) (.inl rfl))
   (zah (zbb (i := 8) zdi rfl (Or.inl rfl) (zay D_law_draw (hr.mono (by decide)) (by rfl) (zaa (bv 0) (zaa (bv 2) zac (by rfl)) (by rfl)) (by decide) (zab (by rfl)) (by rfl)) (by rfl) (.inl rfl))
  (zam (zeu (zgu (K := K) rfl PySem.F.plainAttrs_list PySem.F.slot_list_append PySem.F.type_list_append zgn (bv 6) (zaa (zbx (zdp (K := K) rfl) (zbx (zdp (K := K) rfl) (bv 3) (zbw zyz (bv 8) (zbw (zee (K := K) rfl) zal (zay D_law_draw (hr.mono (by decide)) (by rfl) (zaa (bv 0) (zaa zal zac (by rfl)) (by rfl)) (by decide) (zab (by rfl)) (by rfl)))) (fun _ _ => rfl)) zal (fun _ _ => rfl)) zac (by rfl)) (by rfl) (by rfl) (by rfl) (zab (by rfl)) (by rfl)) (by rfl)))) (by intro _; rfl))
  (zam (zff (zcr (zaft (K := K) rfl hr.units) (zfg (zjh (K := K) rfl) (by rfl) T.tuple zge (zaa (bv 6) zac (by rfl)) (by decide) (by decide) (zab (by rfl)) (by rfl)) (zbt (zbl (N' := ["_law_rule"]) (own := ["_law_rule"]) (fr := []) (by kernel_rfl)) rfl (zbn (K := K) rfl (bv 4)) ?hb1 (by intro _; rfl)) (by rfl)) (zam (zeu (zgu (K := K) rfl PySem.F.plainAttrs_list PySem.F.slot_list_append PySem.F.type_list_append zgn (bv 4) (zaa (zed (zaa (zay D_law_name (hr.mono (by decide)) (by rfl) (zaa (bv 0) (zaa (zbt (zbl (N' := ["_law_rule"]) (own := ["_law_rule"]) (fr := []) (by kernel_rfl)) rfl (zbn (K := K) rfl (bv 4)) ?hb2 (by intro _; rfl)) zac (by rfl)) (by rfl)) (by decide) (zab (by rfl)) (by rfl)) (zaa (zfg (zjh (K := K) rfl) (by rfl) T.tuple zge (zaa (bv 6) zac (by rfl)) (by decide) (by decide) (zab (by rfl)) (by rfl)) zac (by rfl)) (by rfl))) zac (by rfl)) (by rfl) (by rfl) (by rfl) (zab (by rfl)) (by rfl)) (by rfl))) zch)))) (by intro _; rfl))
  (zam (zaz (zed (zaa (bv 3) (zaa (bv 1) (zaa (bv 4) zac (by rfl)) (by rfl)) (by rfl)))))))))))
    case hb1 => (intro cl C s H fp; refine' ⟨Bx.out (zao (i := 0) zsp rfl (Or.inl rfl) (by first | exact .inl rfl | exact .inr rfl | assumption)), Bx.out zdh, Bx.out (zbx (zdp (K := K) rfl) (bv 0) zal (fun _ _ => rfl))⟩)
    case hb2 => (intro cl C s H fp; refine' ⟨Bx.out (zao (i := 0) zsq rfl (Or.inl rfl) (by first | exact .inl rfl | exact .inr rfl | assumption)), Bx.out zdh, Bx.out (zbx (zdp (K := K) rfl) (bv 0) zal (fun _ _ => rfl))⟩)
  exact fn_r (by decide) (F := zto) ((zbh (zck (zdl zht (zan (se_c fun _ => zag)) (zcd (zbr (zan (se_c fun _ => zag)) zcj))) (by decide)) (zbh (zck (zdl zht (zan (se_c fun _ => zag)) (zcd (zbr (zan (zcs zqk (zfp (zaf (se_c fun _ => zag) (zaf (se_c fun _ => zag) (zaf (se_c fun _ => zag) zap)))) (zcs zakw (zae 1) (se_c fun _ => zag)))) zcj))) (by decide)) (zbh (zrb (zana (zdl zacy (zcd (zbr (zan (se_c fun _ => zag)) zcj)) (zan (se_c fun _ => zag)))) (zck (zan (zcs zqk (zfp (zaf (se_c fun _ => zag) (zaf (se_c fun _ => zag) (zaf (se_c fun _ => zag) zap)))) (zcs zakw (zae 1) (se_c fun _ => zag)))) (by decide)) zly) (zbh (zck (zcd (zbr (zan (zae 2)) zcj)) (by decide)) (zbh (zck (zan (zfp zap)) (by decide)) (zbh (zrc (znz (zbr (zcd (zbr (zan (se_c fun _ => zag)) zcj)) zcj)) (zmo (by decide)) (zmq (by decide)) (zbh (zck (zan (zfp zap)) (by decide)) (zbh (zrc (zabv (zqo (zaf (zae 1) zap))) (zmo (by decide)) (zmq (by decide)) (zbh (zck (zcd (zbr (zan (zae 2)) zcj)) (by decide)) (zny (zdl zqk (zdl zqk (zan (zae 3)) (zdl zzl (zan (zae 8)) (zdl zht (zan (se_c fun _ => zag)) (zcd (zbr (zan (se_c fun _ => zag)) zcj))))) (zan (se_c fun _ => zag)))))) (zrb (zmp (st_t (zcs zapx (zhu zpt (zaf (zae 6) zap)) (zdf (zdj (zae 4)) zcv (zgt (by decide)) zes (zfq (se_c fun _ => zag)))))) (zny (zamy (zbr (zcd (zbr (zan (zdf (zdj (zae 4)) zcv (zgt (by decide)) zes (zfq (se_c fun _ => zag)))) zcj)) (zbr (zan (zhu zpt (zaf (zae 6) zap))) zcj)))) zly)))) (zvc (zan (zgp (zaf (zae 3) (zaf (zae 1) (zaf (zae 4) zap))))))))))))) h
theorem zahe {f : Addr} {fd : FuncData} (F : Fun K "_law_up" "_law_up" zld f fd) (T : Txt mg)  : FnOk P w K mg base CX0 1 f fd ["_law_web_here"] (spD 1 zii) := by
  refine F.ok zahb (fun vs H Q E h => zcb h) (fun cdv A outer s H vs Q E hr h => ?_)
  have hu := zep hr
  apply Exists.intro
  apply And.intro
  · refine' Bx.out (zah (zbb (i := 1) zks rfl (Or.inr rfl) zqx (by rfl) (.inl rfl))
  (zah (zfb PassesOwn.never rfl (zbn (K := K) rfl (bv 0)) (zdb (K := K) (n := 2) rfl rfl (zav (zao (i := 2) zks rfl (Or.inr rfl) (.inl rfl)) (zav (zao (i := 3) zks rfl (Or.inl rfl) (.inl rfl)) zda (by rfl)) (by rfl)) (by rfl) (by rfl))
   (zah (zvb hu (bv 1) (bv 2) (zdg (zaa (bv 2) zac (by rfl))) rfl)
  (zam (zfb PassesOwn.never rfl (zbn (K := K) rfl (bv 3)) (zao (i := 4) zks rfl (Or.inl rfl) (.inl rfl))
   (zam (zvb hu (bv 1) (bv 2) (zbw (zee (K := K) rfl) (zjj hu (bv 1) (bv 2) (fun _ _ => rfl)) (zbt (zbl (N' := ["_law_one", "_law_up_here", "_law_name_here"]) (own := ["_law_one"]) (fr := [1, 2]) (by kernel_rfl)) rfl (zbn (K := K) rfl (zjj hu (bv 1) (bv 4) (fun _ _ => rfl))) ?hb1 (by intro _; rfl))) rfl)) (by intro _; rfl)))) (by intro _; rfl))
  (zam (zaz (bv 1)))))
    case hb1 => (intro cl C s H fp; refine' ⟨Bx.out (zao (i := 0) zyj rfl (Or.inl rfl) (by first | exact .inl rfl | exact .inr rfl | assumption)), Bx.out (zqy (zcr (zmh (K := K) rfl) (bv 0) (zjj hu (bv 1) (bv 2) (fun _ _ => rfl)) (by rfl))), Bx.out (bv 0)⟩)
  exact fn_d (f := zox) ((zcc (zhv zzo) (zcc (zll (zdj (zae 0)) (zgy (zax (zax zeq))) (zcc (zafm (zae 2) (zfp (zaf (zae 2) zap))) (zll (zdj (zae 3)) zcv (zafm (zae 2) (zcs zht (zji (zae 2)) (zdf (zdj (zji (zae 4))) zcv (zgt (by decide)) (st_t (zcs zacz (zae 0) (zji (zae 2)))) (zae 0))))))) znt))) h
theorem zahf {f : Addr} {fd : FuncData} (F : Fun K "_law_on" "_law_on" zle f fd) (T : Txt mg)  : FnOk P w K mg base CX0 1 f fd ["_law_up_here", "_law_call", "_law_kinds"] (spD 3 zco) := by
  refine F.ok zahd (fun vs H Q E h => zcb h) (fun cdv A outer s H vs Q E hr h => ?_)
  have hu := zep hr
  apply Exists.intro
  apply And.intro
  · refine' Bx.out (zam (zaz (zbe (zkd (K := K) rfl rfl) (by rfl) T.all zna (zaa (zbt (zbl (N' := ["_law_arm", "_law_kind", "_law_up_here"]) (own := ["_law_arm", "_law_kind"]) (fr := [0]) (by kernel_rfl)) rfl (zqz (K := K) rfl rfl T.zip (zaa (bv 1) (zaa (bv 2) zac (by rfl)) (by rfl)) (by rfl) (by rfl)) ?hb1 (by intro _; rfl)) zac (by rfl)) (by decide) (by decide) (zab (by rfl)) (by rfl))))
    case hb1 => (intro cl C s H fp; refine' ⟨Bx.out (zdb (K := K) (n := 2) rfl rfl (zav (zao (i := 0) zpd rfl (Or.inl rfl) (by first | exact .inl rfl | exact .inr rfl | assumption)) (zav (zao (i := 1) zpd rfl (Or.inl rfl) (by first | exact .inl rfl | exact .inr rfl | assumption)) zda (by rfl)) (by rfl)) (by rfl) (by rfl)), Bx.out zdh, Bx.out (zml (zakv (K := K) rfl) (bv 1) (zjj hu (bv 2) (bv 0) (fun _ _ => rfl)) (by rfl))⟩)
  exact fn_d (f := zoy) ((zcu (zhu zqm (zaf (zdf (zxc (zaf (zae 1) (zaf (zae 2) zap))) (zgy (zax (zax zeq))) (zlm (zcg (by decide) (zcg (by decide) zik))) zes (zcs zacz (zae 1) (zji (zae 0)))) zap)))) h
theorem zaau {f : Addr} {fd : FuncData} (F : Fun K "_law_told" "_law_told" zhp f fd) (T : Txt mg) (D_law_on : zacm P w K mg base) : FnOk P w K mg base CX0 2 f fd ["_law_up_here", "_law_rules", "_law_call"] (spD 3 zet) := by
  refine F.ok zaaj (fun vs H Q E h => zcb h) (fun cdv A outer s H vs Q E hr h => ?_)
  have hu := zep hr
  apply Exists.intro
  apply And.intro
  · refine' Bx.out (zah (zafy (i := 3) (zbl (N' := ["_law_rule", "_law_up_here", "_law_call"]) (own := ["_law_rule"]) (fr := [0, 2]) (by kernel_rfl)) rfl (zbn (K := K) rfl (bv 1)) ?hb1 (by rfl) zib rfl rfl (by intro _; rfl))
  (zah (zbb (i := 4) zib rfl (Or.inl rfl) (zdg zac) (by rfl) (.inl rfl))
  (zah (zfb PassesOwn.never rfl (zbn (K := K) rfl (bv 3)) (zdb (K := K) (n := 2) rfl rfl (zav (zao (i := 5) zib rfl (Or.inl rfl) (.inl rfl)) (zav (zao (i := 6) zib rfl (Or.inr rfl) (.inl rfl)) zda (by rfl)) (by rfl)) (by rfl) (by rfl))
   (zam (zff (zlx (zcp (K := K) rfl (zbe (zws (K := K) rfl rfl) (by rfl) T.any zach (zaa (zbt (zbl (N' := ["_law_one", "_law_up_here", "_law_kinds"]) (own := ["_law_one"]) (fr := [0, 6]) (by kernel_rfl)) rfl (zbn (K := K) rfl (bv 3)) ?hb2 (by intro _; rfl)) zac (by rfl)) (by decide) (by decide) (zab (by rfl)) (by rfl)) (fun _ => rfl))) (zam (zeu (zgu (K := K) rfl PySem.F.plainAttrs_list PySem.F.slot_list_append PySem.F.type_list_append zgn (bv 4) (zaa (bv 5) zac (by rfl)) (by rfl) (by rfl) (by rfl) (zab (by rfl)) (by rfl)) (by rfl))) zch)) (by intro _; rfl))
  (zah (zff (zcr (ztc (K := K) rfl hr.units) (bv 4) (zdg zac) (zgx _)) (zam (zaz (zed (zaa zer zac (by rfl))))) zch)
  (zah (zff (zcr (ztc (K := K) rfl hr.units) (zbe (zfn (K := K) rfl) (by rfl) T.len zhe (zaa (bv 4) zac (by rfl)) (by decide) (by decide) (zab (by rfl)) (by rfl)) zal (zgx _)) (zam (zaz (zed (zaa zer (zaa (zbx (zdp (K := K) rfl) (bv 4) zal (fun _ _ => rfl)) zac (by rfl)) (by rfl))))) zch)
  (zam (zaz (zed (zaa zer (zaa (zfg (zjh (K := K) rfl) (by rfl) T.tuple zge (zaa (bv 4) zac (by rfl)) (by decide) (by decide) (zab (by rfl)) (by rfl)) zac (by rfl)) (by rfl))))))))))
    case hb1 => (intro cl C s H fp; refine' ⟨Bx.out (zao (i := 0) zsr rfl (Or.inl rfl) (by first | exact .inl rfl | exact .inr rfl | assumption)), Bx.out (zqy (zcp (K := K) rfl (zay D_law_on (hr.mono (by decide)) (by rfl) (zaa (bv 1) (zaa (bv 2) (zaa (zbx (zdp (K := K) rfl) (bv 0) zal (fun _ _ => rfl)) zac (by rfl)) (by rfl)) (by rfl)) (by decide) (zab (by rfl)) (by rfl)) (fun _ => rfl))), Bx.out (bv 0)⟩)
    case hb2 => (intro cl C s H fp; refine' ⟨Bx.out (zao (i := 0) zss rfl (Or.inl rfl) (by first | exact .inl rfl | exact .inr rfl | assumption)), Bx.out zdh, Bx.out (znw (zml (zqs (K := K) rfl hr.units) (zbx (zdp (K := K) rfl) (bv 0) zal (fun _ _ => rfl)) (bv 2) (zgx _)) (zqw (zay D_law_on (hr.mono (by decide)) (by rfl) (zaa (bv 1) (zaa (zbx (zdp (K := K) rfl) (bv 0) zal (fun _ _ => rfl)) (zaa (bv 2) zac (by rfl)) (by rfl)) (by rfl)) (by decide) (zab (by rfl)) (by rfl))))⟩)
  exact fn_d (f := zlo) ((zcc (zhv (zdf (zdj (zae 1)) zcv (zgt (by decide)) (zin (zbg (zaf (zae 1) (zaf (zae 2) (zaf (zfq (se_c fun _ => zag)) zap))))) (zae 0))) (zcc (zhv (zfp zap)) (zcc (zll (zdj (zae 3)) (zgy (zax (zax zeq))) (znu (zql (zin (zhu zqm (zaf (zdf (zdj (zae 3)) zcv (zgt (by decide)) zes (ztb (zcs zzm (zfq (se_c fun _ => zag)) (zae 2)) (zbg (zaf (zae 1) (zaf (zfq (se_c fun _ => zag)) (zaf (zae 2) zap)))))) zap)))) (zapq (zae 5)) ziq)) (zcc (znu (st_t (zcs zacy (zae 4) (zfp zap))) (zcu (zgp (zaf (se_c fun _ => zbs) zap))) ziq) (zcc (znu (st_t (zcs zacy (zhu zmi (zaf (zae 4) zap)) (se_c fun _ => zag))) (zcu (zgp (zaf (se_c fun _ => zbs) (zaf (zfq (se_c fun _ => zag)) zap)))) ziq) (zcu (zgp (zaf (se_c fun _ => zbs) (zaf (zhu zpt (zaf (zae 4) zap)) zap)))))))))) h
theorem zyt {f : Addr} {fd : FuncData} (F : Fun K "_law_calls" "_law_calls" zgl f fd) (T : Txt mg)  : FnOk P w K mg base CX0 1 f fd ["_law_book_here"] (spD 1 zgd) := by
  refine F.ok zyh (fun vs H Q E h => zcb h) (fun cdv A outer s H vs Q E hr h => ?_)
  have hu := zep hr
  apply Exists.intro
  apply And.intro
  · refine' Bx.out (zah (zzu (bv 0) (zdb (K := K) (n := 3) rfl rfl (zav (zao (i := 1) zdd rfl (Or.inl rfl) (.inl rfl)) (zav (zao (i := 2) zdd rfl (Or.inl rfl) (.inl rfl)) (zav (zao (i := 3) zdd rfl (Or.inl rfl) (.inl rfl)) zda (by rfl)) (by rfl)) (by rfl)) (by rfl) (by rfl)) (by rfl) (by rfl) (by rfl))
  (zah (zbb (i := 4) zdd rfl (Or.inl rfl) (zdg (zaa (zed zac) zac (by rfl))) (by rfl) (.inl rfl))
  (zah (zfb PassesOwn.never rfl (zhg rfl T.range (zaa (bv 2) zac (by rfl)) (by rfl)) (zao (i := 5) zdd rfl (Or.inl rfl) (.inl rfl))
   (zah (zbb (i := 6) zdd rfl (Or.inl rfl) (zdg zac) (by rfl) (.inl rfl))
  (zah (zfb PassesOwn.never rfl (zbn (K := K) rfl (bv 4)) (zao (i := 7) zdd rfl (Or.inr rfl) (.inl rfl))
   (zam (zeu (zgu (K := K) rfl PySem.F.plainAttrs_list PySem.F.slot_list_extend PySem.F.type_list_extend zaen (bv 6) (zaa (zbt (zbl (N' := ["_law_kind", "_law_elders", "_law_call"]) (own := ["_law_kind", "_law_elders"]) (fr := [7]) (by kernel_rfl)) rfl (zbn (K := K) rfl (bv 1)) ?hb1 (by intro _; rfl)) zac (by rfl)) (by rfl) (by rfl) (by rfl) (zab (by rfl)) (by rfl)) (by rfl))) (by intro _; rfl))
  (zam (zbb (i := 4) zdd rfl (Or.inl rfl) (bv 6) (by rfl) (.inl rfl))))) (by intro _; rfl))
  (zam (zaz (bv 4))))))
    case hb1 => (intro cl C s H fp; refine' ⟨Bx.out (zdb (K := K) (n := 2) rfl rfl (zav (zao (i := 0) zku rfl (Or.inl rfl) (by first | exact .inl rfl | exact .inr rfl | assumption)) (zav (zao (i := 1) zku rfl (Or.inl rfl) (by first | exact .inl rfl | exact .inr rfl | assumption)) zda (by rfl)) (by rfl)) (by rfl) (by rfl)), Bx.out zdh, Bx.out (zbw (zagk (K := K) rfl) (bv 2) (zed (zaa (bv 0) zac (by rfl))))⟩)
  exact fn_d (f := zrt) ((zcc (zafl (zae 0) (zgy (zax (zax (zax zeq))))) (zcc (zhv (zfp (zaf (zgp zap) zap))) (zcc (zll (zqo (zaf (zae 2) zap)) zcv (zcc (zhv (zfp zap)) (zcc (zll (zdj (zae 4)) zcv (zaqi (zdf (zdj (zae 1)) (zgy (zax (zax zeq))) (zlm (zcg (by decide) (zcg (by decide) zik))) zes (zcs zagl (zae 2) (zgp (zaf (zae 0) zap)))))) (zhv (zae 6))))) znt)))) h
theorem zaav {f : Addr} {fd : FuncData} (F : Fun K "_law_same" "_law_same" zhq f fd) (T : Txt mg)  (hm : mg "_law_same" = some (.ref f)) (hk : PySem.W.keepIn K (.ref f) = true) (hbd : zzc K fd ["_law_due_here", "_law_thing"] []) : ∀ n : Nat, FnOk P w K mg base CX0 (n + 0 + 1) f fd ["_law_due_here", "_law_thing"] (spD 2 (zfc n)) := by
  intro n
  induction n with
  | zero => exact F.ok zsb (fun vs H Q E h => zcb h) (fun cdv A outer s H vs Q E hr h => by obtain ⟨_, _, _, _, _, _, _, e, _⟩ := h; cases e)
  | succ n ih =>
  have D_law_same : Dn P w K mg base "_law_same" ["_law_due_here", "_law_thing"] (n + 0 + 1) (spD 2 (zfc n)) := ⟨f, fd, ih, hm, hk, hbd⟩
  rw [show n + 1 + 0 + 1 = (n + 0 + 1) + 1 by omega]
  refine F.ok zsb (fun vs H Q E h => zcb h) (fun cdv A outer s H vs Q E hr h => ?_)
  have hu := zep hr
  apply Exists.intro
  apply And.intro
  · refine' Bx.out (zah (zff (zcp (K := K) rfl (zbe (zfo (K := K) rfl) (by rfl) T.isinstance zbz (zaa (bv 0) (zaa (zhc (v := .ty "str") (by rfl) T.str zaci rfl (by decide) (by decide)) zac (by rfl)) (by rfl)) (by decide) (by decide) (zab (by rfl)) (by rfl)) (fun _ => rfl)) (zam (zaz (znw (zbe (zfo (K := K) rfl) (by rfl) T.isinstance zbz (zaa (bv 1) (zaa (zhc (v := .ty "str") (by rfl) T.str zaci rfl (by decide) (by decide)) zac (by rfl)) (by rfl)) (by decide) (by decide) (zab (by rfl)) (by rfl)) (zqw (zml (ztc (K := K) rfl hr.units) (bv 1) (bv 0) (zgx _)))))) zch)
  (zah (zff (zcp (K := K) rfl (zbe (zfo (K := K) rfl) (by rfl) T.isinstance zbz (zaa (bv 0) (zaa (zhc (v := .ty "list") (by rfl) T.list zix rfl (by decide) (by decide)) zac (by rfl)) (by rfl)) (by decide) (by decide) (zab (by rfl)) (by rfl)) (fun _ => rfl)) (zah (zff (zafu (zlx (zcp (K := K) rfl (zbe (zfo (K := K) rfl) (by rfl) T.isinstance zbz (zaa (bv 1) (zaa (zhc (v := .ty "list") (by rfl) T.list zix rfl (by decide) (by decide)) zac (by rfl)) (by rfl)) (by decide) (by decide) (zab (by rfl)) (by rfl)) (fun _ => rfl))) (zzt (zcr (zqs (K := K) rfl hr.units) (zbe (zfn (K := K) rfl) (by rfl) T.len zhe (zaa (bv 1) zac (by rfl)) (by decide) (by decide) (zab (by rfl)) (by rfl)) (zbe (zfn (K := K) rfl) (by rfl) T.len zhe (zaa (bv 0) zac (by rfl)) (by decide) (by decide) (zab (by rfl)) (by rfl)) (zgx _)))).pt (zam (zaz zabt)) zch)
  (zam (zaz (zbe (zkd (K := K) rfl rfl) (by rfl) T.all zna (zaa (zbt (zbl (N' := ["_law_one", "_law_two"]) (own := ["_law_one", "_law_two"]) (fr := []) (by kernel_rfl)) rfl (zqz (K := K) rfl rfl T.zip (zaa (bv 0) (zaa (bv 1) zac (by rfl)) (by rfl)) (by rfl) (by rfl)) ?hb1 (by intro _; rfl)) zac (by rfl)) (by decide) (by decide) (zab (by rfl)) (by rfl))))) zch)
  (zah (zff (zcp (K := K) rfl (zbe (zfo (K := K) rfl) (by rfl) T.isinstance zbz (zaa (bv 0) (zaa (zhc (v := .ty "tuple") (by rfl) T.tuple zge rfl (by decide) (by decide)) zac (by rfl)) (by rfl)) (by decide) (by decide) (zab (by rfl)) (by rfl)) (fun _ => rfl)) (zah (zff (zafu (zlx (zcp (K := K) rfl (zbe (zfo (K := K) rfl) (by rfl) T.isinstance zbz (zaa (bv 1) (zaa (zhc (v := .ty "tuple") (by rfl) T.tuple zge rfl (by decide) (by decide)) zac (by rfl)) (by rfl)) (by decide) (by decide) (zab (by rfl)) (by rfl)) (fun _ => rfl))) (zzt (zcr (zqs (K := K) rfl hr.units) (zbe (zfn (K := K) rfl) (by rfl) T.len zhe (zaa (bv 1) zac (by rfl)) (by decide) (by decide) (zab (by rfl)) (by rfl)) (zbe (zfn (K := K) rfl) (by rfl) T.len zhe (zaa (bv 0) zac (by rfl)) (by decide) (by decide) (zab (by rfl)) (by rfl)) (zgx _)))).pt (zam (zaz zabt)) zch)
  (zam (zaz (zbe (zkd (K := K) rfl rfl) (by rfl) T.all zna (zaa (zbt (zbl (N' := ["_law_one", "_law_two"]) (own := ["_law_one", "_law_two"]) (fr := []) (by kernel_rfl)) rfl (zqz (K := K) rfl rfl T.zip (zaa (bv 0) (zaa (bv 1) zac (by rfl)) (by rfl)) (by rfl) (by rfl)) ?hb2 (by intro _; rfl)) zac (by rfl)) (by decide) (by decide) (zab (by rfl)) (by rfl))))) zch)
  (zam (zaz (znw (zbe (zfo (K := K) rfl) (by rfl) T.isinstance zbz (zaa (bv 1) (zaa (zhc (v := .ty "int") (by rfl) T.int zakb rfl (by decide) (by decide)) zac (by rfl)) (by rfl)) (by decide) (by decide) (zab (by rfl)) (by rfl)) (znw (zamw (zbe (zfo (K := K) rfl) (by rfl) T.isinstance zbz (zaa (bv 1) (zaa (zhc (v := .ty "bool") (by rfl) T.bool zaha rfl (by decide) (by decide)) zac (by rfl)) (by rfl)) (by decide) (by decide) (zab (by rfl)) (by rfl))) (zqw (zml (ztc (K := K) rfl hr.units) (bv 1) (bv 0) (zgx _))))))))))
    case hb1 => (intro cl C s H fp; refine' ⟨Bx.out (zdb (K := K) (n := 2) rfl rfl (zav (zao (i := 0) zlr rfl (Or.inl rfl) (by first | exact .inl rfl | exact .inr rfl | assumption)) (zav (zao (i := 1) zlr rfl (Or.inl rfl) (by first | exact .inl rfl | exact .inr rfl | assumption)) zda (by rfl)) (by rfl)) (by rfl) (by rfl)), Bx.out zdh, Bx.out (zay D_law_same (hr.mono (Nat.le_refl _)) (by rfl) (zaa (bv 0) (zaa (bv 1) zac (by rfl)) (by rfl)) (by decide) (zab (by rfl)) (by rfl))⟩)
    case hb2 => (intro cl C s H fp; refine' ⟨Bx.out (zdb (K := K) (n := 2) rfl rfl (zav (zao (i := 0) zls rfl (Or.inl rfl) (by first | exact .inl rfl | exact .inr rfl | assumption)) (zav (zao (i := 1) zls rfl (Or.inl rfl) (by first | exact .inl rfl | exact .inr rfl | assumption)) zda (by rfl)) (by rfl)) (by rfl) (by rfl)), Bx.out zdh, Bx.out (zay D_law_same (hr.mono (Nat.le_refl _)) (by rfl) (zaa (bv 0) (zaa (bv 1) zac (by rfl)) (by rfl)) (by decide) (zab (by rfl)) (by rfl))⟩)
  exact fn_d (f := zod (zfc n)) ((zcc (znu (zin (zmk (zae 0) zafg)) (zcu (ztb (zmk (zae 1) zafg) (zcs zacy (zae 1) (zae 0)))) ziq) (zcc (znu (zin (zmk (zae 0) zabl)) (zcc (znu (zamp (zql (zin (zmk (zae 1) zabl))) (st_t (zcs zzm (zhu zmi (zaf (zae 1) zap)) (zhu zmi (zaf (zae 0) zap))))) (zcu (se_c fun _ => zbu)) ziq) (zcu (zhu zqm (zaf (zdf (zxc (zaf (zae 0) (zaf (zae 1) zap))) (zgy (zax (zax zeq))) (zlm (zcg (by decide) (zcg (by decide) zik))) zes (zbg (zaf (zae 0) (zaf (zae 1) zap)))) zap)))) ziq) (zcc (znu (zin (zmk (zae 0) zqn)) (zcc (znu (zamp (zql (zin (zmk (zae 1) zqn))) (st_t (zcs zzm (zhu zmi (zaf (zae 1) zap)) (zhu zmi (zaf (zae 0) zap))))) (zcu (se_c fun _ => zbu)) ziq) (zcu (zhu zqm (zaf (zdf (zxc (zaf (zae 0) (zaf (zae 1) zap))) (zgy (zax (zax zeq))) (zlm (zcg (by decide) (zcg (by decide) zik))) zes (zbg (zaf (zae 0) (zaf (zae 1) zap)))) zap)))) ziq) (zcu (ztb (zmk (zae 1) zamq) (ztb (zapn (zmk (zae 1) zaiv)) (zcs zacy (zae 1) (zae 0))))))))) h
theorem zaaw {f : Addr} {fd : FuncData} (F : Fun K "_law_copy" "_law_copy" zhr f fd) (T : Txt mg)  : FnOk P w K mg base CX0 1 f fd ["_law_book_here"] (spD 1 ziw) := by
  refine F.ok zaam (fun vs H Q E h => zcb h) (fun cdv A outer s H vs Q E hr h => ?_)
  have hu := zep hr
  apply Exists.intro
  apply And.intro
  · refine' Bx.out (zam (zaz (zed (zaa (zbt (zbl (N' := ["_law_name_here", "_law_elders"]) (own := ["_law_name_here", "_law_elders"]) (fr := []) (by kernel_rfl)) rfl (zbn (K := K) rfl (zbx (zdp (K := K) rfl) (bv 0) zal (fun _ _ => rfl))) ?hb1 (by intro _; rfl)) (zaa (zbx (zdp (K := K) rfl) (bv 0) zal (fun _ _ => rfl)) (zaa (zfg (zla (K := K) rfl) (by rfl) T.list zix (zaa (zbx (zdp (K := K) rfl) (bv 0) zal (fun _ _ => rfl)) zac (by rfl)) (by decide) (by decide) (zab (by rfl)) (by rfl)) zac (by rfl)) (by rfl)) (by rfl)))))
    case hb1 => (intro cl C s H fp; refine' ⟨Bx.out (zdb (K := K) (n := 2) rfl rfl (zav (zao (i := 0) zlt rfl (Or.inl rfl) (by first | exact .inl rfl | exact .inr rfl | assumption)) (zav (zao (i := 1) zlt rfl (Or.inl rfl) (by first | exact .inl rfl | exact .inr rfl | assumption)) zda (by rfl)) (by rfl)) (by rfl) (by rfl)), Bx.out zdh, Bx.out (zed (zaa (bv 0) (zaa (zfg (zla (K := K) rfl) (by rfl) T.list zix (zaa (bv 1) zac (by rfl)) (by decide) (by decide) (zab (by rfl)) (by rfl)) zac (by rfl)) (by rfl)))⟩)
  exact fn_d (f := ztp) ((zcu (zgp (zaf (zdf (zdj (zfq (se_c fun _ => zag))) (zgy (zax (zax zeq))) (zlm (zcg (by decide) (zcg (by decide) zik))) zes (zgp (zaf (zae 0) (zaf (zhu zuw (zaf (zae 1) zap)) zap)))) (zaf (zfq (se_c fun _ => zag)) (zaf (zhu zuw (zaf (zfq (se_c fun _ => zag)) zap)) zap)))))) h
theorem zadr {f : Addr} {fd : FuncData} (F : Fun K "_law_due" "_law_due" zjd f fd) (T : Txt mg) (D_law_calls : zsh P w K mg base) (D_law_told : zue P w K mg base) (D_law_up : zacl P w K mg base) : FnOk P w K mg base CX0 3 f fd ["_law_book_here"] (spD 1 zdc) := by
  refine F.ok zadm (fun vs H Q E h => zcb h) (fun cdv A outer s H vs Q E hr h => ?_)
  have hu := zep hr
  apply Exists.intro
  apply And.intro
  · refine' Bx.out (zah (zbb (i := 1) zub rfl (Or.inr rfl) (zay D_law_up (hr.mono (by decide)) (by rfl) (zaa (zbx (zdp (K := K) rfl) (bv 0) zal (fun _ _ => rfl)) zac (by rfl)) (by decide) (zab (by rfl)) (by rfl)) (by rfl) (.inl rfl))
  (zam (zaz (zbt (zbl (N' := ["_law_call", "_law_book_here", "_law_up_here"]) (own := ["_law_call"]) (fr := [0, 1]) (by kernel_rfl)) rfl (zbn (K := K) rfl (zay D_law_calls (hr.mono (by decide)) (by rfl) (zaa (bv 0) zac (by rfl)) (by decide) (zab (by rfl)) (by rfl))) ?hb1 (by intro _; rfl)))))
    case hb1 => (intro cl C s H fp; refine' ⟨Bx.out (zao (i := 0) zvw rfl (Or.inl rfl) (by first | exact .inl rfl | exact .inr rfl | assumption)), Bx.out zdh, Bx.out (zay D_law_told (hr.mono (by decide)) (by rfl) (zaa (bv 2) (zaa (zbx (zdp (K := K) rfl) (bv 1) zal (fun _ _ => rfl)) (zaa (bv 0) zac (by rfl)) (by rfl)) (by rfl)) (by decide) (zab (by rfl)) (by rfl))⟩)
  exact fn_d (f := zmz) ((zcc (zhv (zbg (zaf (zfq (se_c fun _ => zag)) zap))) (zcu (zdf (zdj (zbg (zaf (zae 0) zap))) zcv (zgt (by decide)) zes (zbg (zaf (zae 2) (zaf (zfq (se_c fun _ => zag)) (zaf (zae 0) zap)))))))) h
end
end Bc
namespace Bc
open PySem L2
theorem zfx {w : OF} {a b : EF} {env : DEnv} {x y : Val} {d : PyData} {fr : Bool} (h1 : a env = some x) (h2 : b env = some y) (h3 : w x.d y.d = some (d, fr)) : eOp w a b env = some ⟨d, fr, bsOf d (x.bs ++ y.bs)⟩ := by unfold eOp; rw [h1, h2]; show ((w x.d y.d).bind _) = _; rw [h3]; rfl
structure PenB (n : Nat) (st : Pen) : Prop where
  few : st.cells.length ≤ 63
  lo : 0 ≤ st.cnt
  hi : st.cnt + n ≤ 1000000
theorem PenB.mono {n m : Nat} {st : Pen} (h : PenB m st) (l : n ≤ m) : PenB n st := ⟨h.few, h.lo, by have := h.hi; omega⟩
noncomputable abbrev drE (k : Int) (s : Sl) : DEnv := [.no, .pl (.int k), s]
noncomputable abbrev drC : TFr Pen := qAnd (qB (rOp ltD (rGet 1) (zaq (eOp powB (eC (.int 10)) (eC (.int 18)))))) ztd
noncomputable abbrev drB : SFr Pen := rPut 1 (rOp modD zagg (zaq (eOp powB (eOp powB (eC (.int 10)) (eC (.int 50))) (eC (.int 8)))))
theorem zaqt (env : DEnv) : eOp powB (eC (.int 10)) (eC (.int 18)) env = some ⟨.int 1000000000000000000, false, []⟩ := by
  have e : powB (.int 10) (.int 18) = some (.int 1000000000000000000, false) := by
    unfold powB intD
    dsimp only
    rw [if_pos (by decide +kernel)]
    rfl
  exact zfx rfl rfl e
theorem zaqu (env : DEnv) : ∃ N : Int, 0 < N ∧ eOp powB (eOp powB (eC (.int 10)) (eC (.int 50))) (eC (.int 8)) env = some ⟨.int N, false, []⟩ := by
  have e1 : powB (.int 10) (.int 50) = some (.int (10 ^ 50), false) := by
    unfold powB intD
    dsimp only
    rw [if_pos (by decide +kernel)]
    rfl
  have e2 : powB (.int (10 ^ 50)) (.int 8) = some (.int ((10 ^ 50) ^ 8), false) := by
    unfold powB intD
    dsimp only
    rw [if_pos (by decide +kernel)]
    rfl
  exact ⟨(10 ^ 50) ^ 8, by decide +kernel, zfx (zfx rfl rfl e1) rfl e2⟩
theorem zuh {k : Int} {s : Sl} : ∀ (n : Nat) (st : Pen), st.cells.length < n → st.cells.length ≤ 63 → ∃ st', zjr drC drB n (drE k s) st = some (.nx (drE k s) st') ∧ st'.cells.length ≤ 63 ∧ st'.cnt = st.cnt
  | 0, st, h, _ => absurd h (Nat.not_lt_zero _)
  | n + 1, st, h, hl => by
    have c1 : qB (rOp ltD (rGet 1) (zaq (eOp powB (eC (.int 10)) (eC (.int 18))))) (drE k s) st = some (decide (st.acc < 1000000000000000000), st) := by
      unfold qB
      rw [zdt (T := Pen) (x := ⟨.int st.acc, false, []⟩) (s1 := st) rfl (zcn (zaqt _)) rfl]
      rfl
    have c2 : ztd (drE k s) st = some (!st.cells.isEmpty, st) := by unfold ztd; rw [if_pos (by omega)]
    by_cases h1 : st.acc < 1000000000000000000
    · have c3 : drC (drE k s) st = some (!st.cells.isEmpty, st) := by
        show qAnd _ _ _ _ = _
        unfold qAnd
        rw [c1, decide_eq_true h1]
        exact c2
      cases hc : st.cells with
      | nil =>
        refine ⟨st, ?_, hl, rfl⟩
        unfold zjr
        rw [c3, hc]; rfl
      | cons c cs =>
        obtain ⟨N, hN, eN⟩ := zaqu (drE k s)
        have b1 : drB (drE k s) st = some (.nx (drE k s) ⟨cs, c % N, st.seed, st.cnt⟩) := by
          show rPut _ _ _ _ = _
          unfold rPut
          rw [zdt (T := Pen) (x := ⟨.int c, false, []⟩) (s1 := { st with cells := cs }) (by unfold zagg; rw [hc]) (zcn eN) (show modD (.int c) (.int N) = some (.int (c % N), false) by unfold modD intD; dsimp only; rw [if_pos (decide_eq_true hN)])]
          rfl
        have hl' : cs.length < n := by rw [hc] at h; exact Nat.lt_of_succ_lt_succ h
        have hl2 : cs.length ≤ 63 := by rw [hc] at hl; exact Nat.le_of_succ_le hl
        obtain ⟨st', w1, w2, w3⟩ := zuh n (⟨cs, c % N, st.seed, st.cnt⟩ : Pen) hl' hl2
        refine ⟨st', ?_, w2, w3⟩
        unfold zjr
        rw [c3, hc]
        show ((drB (drE k s) st).bind _) = _
        rw [b1]
        exact w1
    · refine ⟨st, ?_, hl, rfl⟩
      have c3 : drC (drE k s) st = some (false, st) := by
        show qAnd _ _ _ _ = _
        unfold qAnd
        rw [c1, decide_eq_false h1]
        rfl
      unfold zjr
      rw [c3]; rfl
theorem zui {i j : Int} (h : 0 < j) : modD (.int i) (.int j) = some (.int (i % j), false) := by unfold modD intD; dsimp only; rw [if_pos (decide_eq_true h)]
theorem zaax {i j : Int} (h : 0 < j) (h2 : j < 1073741824) : zwu (.int i) (.int j) = some (.int (i / j), false) := by unfold zwu intD; dsimp only; rw [if_pos (decide_eq_true ⟨h, h2⟩)]
theorem zwb {i j : Int} (h1 : -(2 ^ 64) < j) (h2 : j < 2 ^ 64) : mulD (.int i) (.int j) = some (.int (i * j), false) := by unfold mulD; dsimp only; rw [if_pos (.inr ⟨h1, h2⟩)]
theorem zanm {i : Int} (h1 : 0 ≤ i) (h2 : i < 2147483647) : powB (.int i) (.int 3) = some (.int (i ^ 3), false) := by
  unfold powB intD
  dsimp only
  rw [if_pos ?_]
  · rfl
  · rw [Bool.and_eq_true]
    refine ⟨by decide, decide_eq_true ?_⟩
    have : i.natAbs < 2147483647 := by omega
    exact Nat.lt_of_lt_of_le this (by decide +kernel)
theorem zaqv {n : Nat} {st : Pen} (h : PenB (n + 1) st) {k : Int} (k1 : 1 ≤ k) (k2 : k ≤ 1000) : ∃ r st', zar [.int k] st = some (.int r, false, st') ∧ 0 ≤ r ∧ r < k ∧ PenB n st' := by
  obtain ⟨s1, w1, l1, c1⟩ := zuh (k := k) (s := .no) 1000 st (by have := h.few; omega) h.few
  have lo : 0 ≤ s1.cnt := by rw [c1]; exact h.lo
  have hi : s1.cnt + (n + 1 : Nat) ≤ 1000000 := by rw [c1]; exact h.hi
  have t1 : qB (rOp geD (rGet 1) (zaq (eOp powB (eC (.int 10)) (eC (.int 18))))) (drE k .no) s1 = some (decide (1000000000000000000 ≤ s1.acc), s1) := by
    unfold qB
    rw [zdt (T := Pen) (x := ⟨.int s1.acc, false, []⟩) (s1 := s1) rfl (zcn (zaqt _)) rfl]
    rfl
  by_cases hA : 1000000000000000000 ≤ s1.acc
  · rw [decide_eq_true hA] at t1
    refine ⟨s1.acc % k, { s1 with acc := s1.acc / k }, ?_, Int.emod_nonneg _ (by omega), Int.emod_lt_of_pos _ (by omega), ⟨l1, lo, by show s1.cnt + (n : Int) ≤ _; omega⟩⟩
    refine zxn (env := drE k .no) rfl (zba w1 (zanh (zadg t1 ?_)))
    refine zba (e1 := drE k (.pl (.int (s1.acc % k)))) (s1 := s1) (zdx (zdt (T := Pen) (x := ⟨.int s1.acc, false, []⟩) (y := ⟨.int k, false, []⟩) (s1 := s1) rfl rfl (zui (by omega)))) ?_
    refine zba (e1 := drE k (.pl (.int (s1.acc % k)))) (s1 := { s1 with acc := s1.acc / k }) ?_ rfl
    unfold rPut
    rw [zdt (T := Pen) (x := ⟨.int s1.acc, false, []⟩) (y := ⟨.int k, false, []⟩) (s1 := s1) rfl rfl (zaax (by omega) (by omega))]
    rfl
  · rw [decide_eq_false hA] at t1
    have m1 : 0 ≤ (s1.seed * 48271 + (s1.cnt + 1) * (s1.cnt + 1) + 11) % 2147483647 := Int.emod_nonneg _ (by decide)
    have m2 : (s1.seed * 48271 + (s1.cnt + 1) * (s1.cnt + 1) + 11) % 2147483647 < 2147483647 := Int.emod_lt_of_pos _ (by decide)
    generalize hsd : (s1.seed * 48271 + (s1.cnt + 1) * (s1.cnt + 1) + 11) % 2147483647 = sd at m1 m2
    refine ⟨sd ^ 3 % 2305843009213693951 / 64 % k, ⟨s1.cells, s1.acc, sd, s1.cnt + 1⟩, ?_, Int.emod_nonneg _ (by omega), Int.emod_lt_of_pos _ (by omega), ⟨l1, by show 0 ≤ s1.cnt + 1; omega, by show s1.cnt + 1 + (n : Int) ≤ _; omega⟩⟩
    refine zxn (env := drE k .no) rfl (zba w1 (zba (zzw t1 rfl) ?_))
    refine zba (e1 := drE k .no) (s1 := { s1 with cnt := s1.cnt + 1 }) rfl ?_
    refine zba (e1 := drE k .no) (s1 := ⟨s1.cells, s1.acc, sd, s1.cnt + 1⟩) ?_ ?_
    · unfold rPut
      rw [zdt (T := Pen) (x := ⟨.int (s1.seed * 48271 + (s1.cnt + 1) * (s1.cnt + 1) + 11), false, []⟩) (y := ⟨.int 2147483647, false, []⟩) (s1 := { s1 with cnt := s1.cnt + 1 })
        (zdt (T := Pen) (x := ⟨.int (s1.seed * 48271 + (s1.cnt + 1) * (s1.cnt + 1)), false, []⟩) (y := ⟨.int 11, false, []⟩) (s1 := { s1 with cnt := s1.cnt + 1 })
          (zdt (T := Pen) (x := ⟨.int (s1.seed * 48271), false, []⟩) (y := ⟨.int ((s1.cnt + 1) * (s1.cnt + 1)), false, []⟩) (s1 := { s1 with cnt := s1.cnt + 1 })
            (zdt (T := Pen) (x := ⟨.int s1.seed, false, []⟩) (y := ⟨.int 48271, false, []⟩) (s1 := { s1 with cnt := s1.cnt + 1 }) rfl rfl (zwb (by decide) (by decide)))
            (zdt (T := Pen) (x := ⟨.int (s1.cnt + 1), false, []⟩) (y := ⟨.int (s1.cnt + 1), false, []⟩) (s1 := { s1 with cnt := s1.cnt + 1 }) rfl rfl (zwb (by omega) (by omega))) rfl) rfl rfl) rfl (zui (by decide))]
      rw [hsd]; rfl
    · refine zzv (zdt (T := Pen) (x := ⟨.int (sd ^ 3 % 2305843009213693951 / 64), false, []⟩) (y := ⟨.int k, false, []⟩) (s1 := ⟨s1.cells, s1.acc, sd, s1.cnt + 1⟩) ?_ rfl (zui (by omega)))
      refine zdt (T := Pen) (x := ⟨.int (sd ^ 3 % 2305843009213693951), false, []⟩) (y := ⟨.int 64, false, []⟩) (s1 := ⟨s1.cells, s1.acc, sd, s1.cnt + 1⟩) ?_ rfl (zaax (by decide) (by decide))
      refine zdt (T := Pen) (x := ⟨.int (sd ^ 3), false, []⟩) (y := ⟨.int 2305843009213693951, false, []⟩) (s1 := ⟨s1.cells, s1.acc, sd, s1.cnt + 1⟩) ?_ rfl (zui (by decide))
      exact zdt (T := Pen) (x := ⟨.int sd, false, []⟩) (y := ⟨.int 3, false, []⟩) (s1 := ⟨s1.cells, s1.acc, sd, s1.cnt + 1⟩) rfl rfl (zanm m1 m2)
end Bc
namespace Bc
open PySem L2
end Bc
namespace Bc
open PySem L2
end Bc
namespace Bc
open PySem L2
end Bc
namespace Bc
open PySem L2
theorem zaqw {a b : EF} {env : DEnv} {x y : List Str} {f1 f2 : Bool} {b1 b2 : List Nat} (ha : a env = some ⟨zak x, f1, b1⟩) (hb : b env = some ⟨zak y, f2, b2⟩) (h : x.length + y.length ≤ 100000) : eOp addD a b env = some ⟨zak (x ++ y), true, b1 ++ b2⟩ := by
  unfold eOp
  rw [ha, hb]
  show ((if (x.map PyData.str).length + (y.map PyData.str).length ≤ 100000 then some (PyData.list (x.map .str ++ y.map .str), true) else none).bind fun z => some (⟨z.1, z.2, bsOf z.1 (b1 ++ b2)⟩ : Val)) = _
  rw [if_pos (by rw [List.length_map, List.length_map]; exact h), ← List.map_append]
  rfl
end Bc
namespace Bc
open PySem L2
end Bc
namespace Bc
open PySem L2
end Bc
namespace Bc
open PySem L2
section
variable {A0 A2 A6 s8 s9 : Sl} {ds : List PyData} {xs : List Str} {r : Int} {n at_ : Nat}
end
end Bc
namespace Bc
open PySem L2
end Bc
namespace Bc
open PySem L2
section
variable {A0 A2 A6 s8 s9 : Sl} {ds : List PyData} {xs : List Str} {r : Int} {n at_ : Nat}
end
end Bc
namespace Bc
open PySem L2
theorem zyu : ∀ (l : List (List Str)), (∀ ks ∈ l, LowS ks) → PyData.canLayAll0 (l.map zai) = true ∧ PyData.depthAll (l.map zai) ≤ 1
  | [], _ => ⟨rfl, by simp [PyData.depthAll]⟩
  | ks :: l, h => by
    obtain ⟨h1, h2⟩ := zyu l fun x hx => h x (List.mem_cons_of_mem _ hx)
    obtain ⟨g1, g2⟩ := zpy ks (h ks List.mem_cons_self)
    constructor
    · rw [List.map_cons]
      simp only [PyData.canLayAll0, zai, PyData.canLay0, Bool.and_eq_true]
      exact ⟨g1, h1⟩
    · rw [List.map_cons]
      simp only [PyData.depthAll, zai, PyData.depth]
      rw [g2]
      have : PyData.depthAll (l.map fun ks => PyData.tuple (ks.map .str)) ≤ 1 := h2
      omega
theorem zaay {l : List (List Str)} (h : ∀ ks ∈ l, LowS ks) : SeqAt.shaped (.list (l.map zai)) = true := by
  obtain ⟨h1, h2⟩ := zyu l h
  unfold SeqAt.shaped
  rw [Bool.and_eq_true]
  refine ⟨by simpa [PyData.canLay0] using h1, decide_eq_true ?_⟩
  simp only [PyData.depth]
  omega
theorem zahg (l : List (List Str)) (ks : List Str) : ((l.map zai).any fun e => PyData.eqv e (zai ks)) = decide (ks ∈ l) := by
  rw [List.any_map, Bool.eq_iff_iff, List.any_eq_true, decide_eq_true_iff]
  have e : ∀ a b : List Str, PyData.eqv (zai a) (zai b) = (a == b) := fun a b => by
    unfold zai
    simp only [PyData.eqv]
    exact zvm a b
  constructor
  · rintro ⟨y, hy, h⟩
    have h : PyData.eqv (zai y) (zai ks) = true := h
    rw [e, beq_iff_eq] at h
    rw [← h]; exact hy
  · intro h
    refine ⟨ks, h, ?_⟩
    show PyData.eqv (zai ks) (zai ks) = true
    rw [e]; exact beq_self_eq_true _
theorem zann {neg : Bool} {l : List (List Str)} {ks : List Str} (h : ∀ x ∈ l, LowS x) (hk : LowS ks) : inS neg (zai ks) (.list (l.map zai)) = some (.bool (if neg then !decide (ks ∈ l) else decide (ks ∈ l)), false) := by
  unfold inS
  simp only [zgo]
  rw [if_pos ⟨zkp hk, zaay h⟩, zahg]
end Bc
namespace Bc
open PySem L2
end Bc
namespace Bc
open PySem L2
noncomputable abbrev Rule := Str × List Str
end Bc
namespace Bc
open PySem L2
theorem zjo {xs : List Str} (h : ∀ x ∈ xs, PyData.strOk x = true) : SeqAt.shaped (zak xs) = true := by
  obtain ⟨h1, h2⟩ := zpy xs h
  unfold SeqAt.shaped zak
  rw [Bool.and_eq_true]
  refine ⟨h1, decide_eq_true ?_⟩
  show PyData.depthAll (xs.map .str) + 1 ≤ 64
  omega
end Bc
namespace Bc
open PySem L2
end Bc
namespace Bc
open PySem L2
theorem zwc {α : Type} {l : List α} {i : Int} (h0 : 0 ≤ i) (h1 : i < l.length) : ∃ x, atI l i = some x ∧ x ∈ l := by
  have hn : i.toNat < l.length := by omega
  refine ⟨l[i.toNat], ?_, List.getElem_mem _⟩
  have := zun (xs := l) (j := i.toNat) (List.getElem?_eq_getElem hn)
  rw [show ((i.toNat : Nat) : Int) = i by omega] at this
  exact this
end Bc
namespace Bc
open PySem L2
theorem znf {n : Nat} {a : EFr Pen} {env : DEnv} {st s1 : Pen} {k : Int} {bs : List Nat} (ha : a env st = some (⟨.int k, false, bs⟩, s1)) (h : PenB (n + 1) s1) (k1 : 1 ≤ k) (k2 : k ≤ 1000) :
    ∃ r s2, zbo 2 zar (zbq a rNil) env st = some (vi r, s2) ∧ 0 ≤ r ∧ r < k ∧ PenB n s2 := by
  obtain ⟨r, s2, e, r0, r1, hb⟩ := zaqv h k1 k2
  exact ⟨r, s2, zkj (zev ha rfl) rfl e, r0, r1, hb⟩
noncomputable abbrev letE : EFr Pen := rOp ixD (zaq (eVar 2)) (zbo 2 zar (zbq (zaq (eC (.int 26))) rNil))
theorem zaqx {i : Int} (h0 : 0 ≤ i) (h1 : i < 26) : ixD (.str abc) (.int i) = some (.str (ltr i), false) := by
  unfold ixD
  dsimp only
  rw [if_pos (by rw [zagw]; decide), zaqo h0 h1]
  simp [ltr]
theorem zahh : ∀ (l : List Nat) (n : Nat) (st : Pen), PenB (n + l.length) st → ∃ (cs : List Int) (st' : Pen), zki (gN 0) zca letE [.no, .no, .pl (.str abc)] (l.map fun (k : Nat) => PyData.int (k : Int)) st = some (cs.map (fun c => .str (ltr c)), st') ∧ cs.length = l.length ∧ (∀ c ∈ cs, 0 ≤ c ∧ c < 26) ∧ PenB n st'
  | [], n, st, h => ⟨[], st, rfl, rfl, (fun c hc => nomatch hc), h⟩
  | k :: l, n, st, h => by
    obtain ⟨r, s2, e, r0, r1, hb⟩ := znf (n := n + l.length) (a := zaq (eC (.int 26))) (env := [.pl (.int (k : Int)), .no, .pl (.str abc)]) (st := st) (s1 := st) (bs := []) rfl (h.mono (by simp; omega)) (by decide) (by decide)
    obtain ⟨cs, st', e2, l2, c2, h2⟩ := zahh l n s2 hb
    refine ⟨r :: cs, st', ?_, by simp [l2], fun c hc => ?_, h2⟩
    · have e1 : letE [.pl (.int (k : Int)), .no, .pl (.str abc)] st = some (vs (ltr r), s2) := zdt (T := Pen) (x := vs abc) (y := vi r) (s1 := st) rfl e (zaqx r0 r1)
      rw [List.map_cons]
      unfold zki
      show ((letE [.pl (.int (k : Int)), .no, .pl (.str abc)] st).bind _) = _
      rw [e1]
      show ((zki (gN 0) zca letE [.no, .no, .pl (.str abc)] (l.map fun (k : Nat) => PyData.int (k : Int)) s2).map _) = _
      rw [e2]; rfl
    · rcases List.mem_cons.mp hc with rfl | hc
      · exact ⟨r0, r1⟩
      · exact c2 c hc
theorem zacn : ∀ (xs : List Str), zxk.unT (xs.map .str) = some xs
  | [] => rfl
  | x :: xs => by
    show ((zxk.unT (xs.map .str)).map _) = _
    rw [zacn xs]; rfl
theorem zakd {cs : List Int} (h : cs.length ≤ 3) (hc : ∀ c ∈ cs, 0 ≤ c ∧ c < 26) : ∃ w : Str, zxk (.list (cs.map fun c => .str (ltr c))) = some (.str w) ∧ Low w ∧ w.length ≤ 3 := by
  have e : cs.map (fun c => PyData.str (ltr c)) = (cs.map ltr).map .str := by rw [List.map_map]; rfl
  have hlow : ∀ {i : Int}, 0 ≤ i → i < 26 → 97 + i.toNat < 128 := fun {i} h0 h1 => by omega
  have e0 : (Str.ofString "").cps = #[] := rfl
  have key : Low (zmr (cs.map ltr)) ∧ (zmr (cs.map ltr)).length ≤ 3 ∧ (cs.map ltr).foldl (fun n z => n + z.length + 0) 0 ≤ 3 := by
    match cs, h, hc with
    | [], _, _ => exact ⟨fun c hc => (nomatch hc), by decide, by decide⟩
    | [a], _, hc =>
      have ha := hc a (by simp)
      exact ⟨fun c hc' => Low.ltr ha.1 ha.2 c hc', by show (ltr a).length ≤ 3; exact Nat.le_succ_of_le (Nat.le_succ 1), by show 0 + (ltr a).length + 0 ≤ 3; exact Nat.le_succ_of_le (Nat.le_succ 1)⟩
    | [a, b], _, hc =>
      have ha := hc a (by simp); have hb := hc b (by simp)
      refine ⟨fun c hc' => ?_, ?_, ?_⟩
      · have : c ∈ (ltr a).cps.toList ++ (ltr b).cps.toList := by simpa [zmr, Builtin.Str.glued, e0] using hc'
        rcases List.mem_append.mp this with z | z
        · exact Low.ltr ha.1 ha.2 c z
        · exact Low.ltr hb.1 hb.2 c z
      · show ((ltr a).cps ++ ("" : Str).cps ++ (ltr b).cps).size ≤ 3
        rw [Array.size_append, Array.size_append]
        exact Nat.le_succ 2
      · show 0 + (ltr a).length + 0 + (ltr b).length + 0 ≤ 3
        exact Nat.le_succ 2
    | [a, b, c], _, hc =>
      have ha := hc a (by simp); have hb := hc b (by simp); have hcc := hc c (by simp)
      refine ⟨fun d hd' => ?_, ?_, ?_⟩
      · have : d ∈ (ltr a).cps.toList ++ ((ltr b).cps.toList ++ (ltr c).cps.toList) := by simpa [zmr, Builtin.Str.glued, e0] using hd'
        rcases List.mem_append.mp this with z | z
        · exact Low.ltr ha.1 ha.2 d z
        · rcases List.mem_append.mp z with z | z
          · exact Low.ltr hb.1 hb.2 d z
          · exact Low.ltr hcc.1 hcc.2 d z
      · show ((ltr a).cps ++ ("" : Str).cps ++ (ltr b).cps ++ ("" : Str).cps ++ (ltr c).cps).size ≤ 3
        rw [Array.size_append, Array.size_append, Array.size_append, Array.size_append]
        exact Nat.le_refl 3
      · show 0 + (ltr a).length + 0 + (ltr b).length + 0 + (ltr c).length + 0 ≤ 3
        exact Nat.le_refl 3
    | a :: b :: c :: d :: r, h, _ => exact absurd h (by simp)
  refine ⟨zmr (cs.map ltr), ?_, key.1, key.2.1⟩
  rw [e]
  show ((zxk.unT ((cs.map ltr).map .str)).bind _) = _
  rw [zacn]
  show (if _ ∧ _ then _ else _) = _
  rw [if_pos ⟨Nat.le_trans key.2.2 (by decide), Nat.le_trans key.2.1 (by decide)⟩]
theorem zano {A : List Str} (h : ∀ x ∈ A, Low x) : neD (zak A) (.list []) = some (.bool (!A.isEmpty), false) := by
  unfold neD eqOk
  have s1 := zjo (xs := A) fun x hx => zrk (h x hx)
  have s2 : SeqAt.shaped (.list []) = true := zjo (xs := []) fun x hx => by cases hx
  rw [s1, s2, if_pos (by simp)]
  cases A with
  | nil => rfl
  | cons a A => rfl
theorem zaaz {A : List Str} (h : A.length ≤ 25) : ∃ i : Nat, i < 26 ∧ ltr (i : Int) ∉ A := by
  refine Classical.byContradiction fun hn => ?_
  have all : ∀ i : Nat, i < 26 → ltr (i : Int) ∈ A := fun i hi => Classical.byContradiction fun z => hn ⟨i, hi, z⟩
  have nd : ((List.range 26).map fun (i : Nat) => ltr (i : Int)).Nodup := zrl fun a b ha hb e => by
    have := congrArg (fun x : Str => x.cps.toList) e
    have : [97 + a] = [97 + b] := by simpa [ltr] using this
    have : 97 + a = 97 + b := by simpa using this
    omega
  have := zim _ A nd fun x hx => by
    obtain ⟨i, hi, rfl⟩ := List.mem_map.mp hx
    exact all i (List.mem_range.mp hi)
  rw [List.length_map, List.length_range] at this
  omega
theorem zahi {A : List Str} (h : A.length ≤ 25) {env : DEnv} (h1 : env[1]? = some (.pl (zak A))) (h2 : env[2]? = some (.pl (.str abc))) :
    ∃ x : Str, eOp ixD (zdq ["_law_sign"] [1] (zqv (eVar 2)) (gN 0) (zcy (eOp (inD true) (eVar 0) (eVar 1))) (eVar 0)) (eC (.int 0)) env = some (vs x) ∧ Low x ∧ x.length ≤ 8 ∧ x ∉ A := by
  have it : zqv (eVar 2) env = some (abc.cps.toList.map fun c => PyData.str ⟨#[c]⟩, []) := by
    unfold zqv eVar
    rw [h2]; rfl
  have eb : envB ["_law_sign"] [1] env = [.no, .pl (zak A)] := by
    unfold envB
    simp [List.getD_eq_getElem?_getD, h1]
    rfl
  have cm : zdk (gN 0) (zcy (eOp (inD true) (eVar 0) (eVar 1))) (eVar 0) (envB ["_law_sign"] [1] env) (abc.cps.toList.map fun c => PyData.str ⟨#[c]⟩) = some ((abc.cps.toList.filter fun c => !decide ((⟨#[c]⟩ : Str) ∈ A)).map fun c => PyData.str ⟨#[c]⟩) := by
    rw [eb]
    refine zeh (fun c => !decide ((⟨#[c]⟩ : Str) ∈ A)) fun c hc => ⟨[.pl (.str ⟨#[c]⟩), .pl (zak A)], rfl, zjs (e_in (neg := true) rfl rfl), fun _ => ⟨_, rfl, rfl⟩⟩
  obtain ⟨i, hi, hn⟩ := zaaz h
  have lc : ltr (i : Int) = ⟨#[97 + i]⟩ := rfl
  have ei := List.all_eq_true.mp zagv i (List.mem_range.mpr hi)
  have mem : 97 + i ∈ abc.cps.toList.filter fun c => !decide ((⟨#[c]⟩ : Str) ∈ A) := by
    refine List.mem_filter.mpr ⟨List.mem_of_getElem? (eq_of_beq ei), ?_⟩
    rw [← lc, decide_eq_false hn]; rfl
  cases hf : abc.cps.toList.filter fun c => !decide ((⟨#[c]⟩ : Str) ∈ A) with
  | nil => rw [hf] at mem; cases mem
  | cons c cs =>
    rw [hf] at cm
    refine ⟨⟨#[c]⟩, zfx (zdy it (by rw [List.length_map]; show abc.length < _; rw [zagw]; decide) cm) rfl ?_, fun d hd => ?_, by show 1 ≤ 8; decide, fun hin => ?_⟩
    · show ((atI (List.map (fun c => PyData.str ⟨#[c]⟩) (c :: cs)) ((0 : Nat) : Int)).map _) = _
      rw [zaqn (fun c : Nat => PyData.str ⟨#[c]⟩) (l := c :: cs) (n := 0) rfl]; rfl
    · have hd : d = c := by simpa using hd
      have hm : c ∈ abc.cps.toList := (List.mem_filter.mp (by rw [hf]; exact List.mem_cons_self ..) : _ ∧ _).1
      have al : ∀ z ∈ abc.cps.toList, z < 128 := by decide +kernel
      rw [hd]
      exact al c hm
    · have h3 := (List.mem_filter.mp (by rw [hf]; exact List.mem_cons_self ..) : c ∈ abc.cps.toList ∧ (!decide ((⟨#[c]⟩ : Str) ∈ A)) = true).2
      rw [decide_eq_true hin] at h3
      cases h3
noncomputable abbrev naE (A : List Str) (s3 s4 s5 s6 : Sl) : DEnv := [.no, .pl (zak A), .pl (.str abc), s3, s4, s5, s6]
theorem zasd {A : List Str} (env : DEnv) (h : env[1]? = some (.pl (zak A))) (st : Pen) : zaq (eCB lenD (zad (eVar 1) aNil)) env st = some (vi (A.length : Int), st) := by
  have : eVar 1 env = some ⟨.list (A.map .str), false, []⟩ := by unfold eVar; rw [h]; rfl
  have := zacc this
  rw [List.length_map] at this
  exact zcn this
noncomputable abbrev poE : EF := eOp addD (eOp repD (eLst (zad (eVar 3) aNil)) (eC (.int 5))) (eLst (zad (eC (.str "none")) (zad (eC (.str "rule")) (zad (eC (.str "quarrel")) (zad (eC (.str "kind")) (zad (eC (.str "own")) aNil))))))
noncomputable abbrev zop (w : Str) : List Str := [w, w, w, w, w, "none", "rule", "quarrel", "kind", "own"]
theorem zake : ∀ x ∈ (["none", "rule", "quarrel", "kind", "own"] : List Str), x.cps.toList.all (fun c => decide (c < 128)) = true ∧ x.length ≤ 8 := by decide +kernel
theorem zakf {w : Str} (h : Low w) {m : Nat} (hl : w.length ≤ m) (hm : 8 ≤ m) : ∀ x ∈ zop w, Low x ∧ x.length ≤ m := fun x hx => by
  have five : ∀ x ∈ (["none", "rule", "quarrel", "kind", "own"] : List Str), Low x ∧ x.length ≤ m := fun x hx => by
    obtain ⟨h1, h2⟩ := zake x hx
    exact ⟨fun c hc => of_decide_eq_true (List.all_eq_true.mp h1 c hc), Nat.le_trans h2 hm⟩
  rcases List.mem_append.mp (show x ∈ [w, w, w, w, w] ++ (["none", "rule", "quarrel", "kind", "own"] : List Str) from hx) with hx | hx
  · have : x = w := by simpa using hx
    exact ⟨this ▸ h, this ▸ hl⟩
  · exact five x hx
theorem zale {n : Nat} {st : Pen} (h : PenB (n + 7) st) {A : List Str} {L : Nat} (hl : A.length ≤ 25) (hA : ∀ x ∈ A, Low x ∧ x.length ≤ L) (hL : L ≤ 1000) :
    ∃ x st', zel [zak A] st = some (.str x, false, st') ∧ Low x ∧ x.length ≤ L + 8 ∧ PenB n st' ∧ x ∉ A := by
  obtain ⟨r1, s1, e1, a1, b1, p1⟩ := znf (n := n + 6) (a := zaq (eC (.int 3))) (env := naE A .no .no .no .no) (st := st) (s1 := st) (bs := []) rfl h (by decide) (by decide)
  obtain ⟨cs, s2, e2, l2, c2, p2⟩ := zahh (List.range (1 + r1).toNat) (n + 3) s1 (p1.mono (by rw [List.length_range]; omega))
  obtain ⟨w, ew, lw, nw⟩ := zakd (cs := cs) (by rw [l2, List.length_range]; omega) c2
  have x1 : zfz (zbq (rOp addD (zaq (eC (.int 1))) (zbo 2 zar (zbq (zaq (eC (.int 3))) rNil))) rNil) (naE A .no .no .no .no) st = some ((List.range (1 + r1).toNat).map (fun (k : Nat) => PyData.int (k : Int)), [], s1) := by
    unfold zfz
    rw [zev (T := Pen) (x := vi (1 + r1)) (xs := []) (s2 := s1) (zdt (T := Pen) (x := vi 1) (y := vi r1) (s1 := st) rfl e1 rfl) rfl]
    show (if _ ∧ _ then _ else _) = _
    rw [if_pos ⟨by omega, by omega⟩, zmt]
  have x2 : zxl (zage ["_law_k"] [0, 2] (zfz (zbq (rOp addD (zaq (eC (.int 1))) (zbo 2 zar (zbq (zaq (eC (.int 3))) rNil))) rNil)) (gN 0) zca letE) (naE A .no .no .no .no) st = some (vs w, s2) := by
    unfold zxl zage
    rw [x1]
    show (((if _ < 100000 then _ else _) : Option (Val × Pen)).bind _) = _
    rw [if_pos (by rw [List.length_map, List.length_range]; omega)]
    show (((zki (gN 0) zca letE [.no, .no, .pl (.str abc)] ((List.range (1 + r1).toNat).map (fun (k : Nat) => PyData.int (k : Int))) s1).map _).bind _) = _
    rw [e2]
    show ((zxk (.list (cs.map fun c => .str (ltr c)))).map _) = _
    rw [ew]; rfl
  obtain ⟨r3, s3, e3, a3, b3, p3⟩ := znf (n := n + 2) (a := zaq (eC (.int 4))) (env := naE A (.pl (.str w)) .no .no .no) (st := s2) (s1 := s2) (bs := []) rfl p2 (by decide) (by decide)
  have step4 : ∃ (w2 : Str) (s4 : Pen) (sb : Sl), rIf (znx (zsj (zcy (eOp neD (eVar 1) (eLst aNil))) (zcy (eOp ltD (eVar 4) (eC (.int 2)))))) (rSeq (rSet 5 (rOp ixD (zaq (eVar 1)) (zbo 2 zar (zbq (zaq (eCB lenD (zad (eVar 1) aNil))) rNil))))
    (rSet 3 (zaq (eSl (eOp ixD (eLst (zad (eOp addD (eVar 5) (eVar 3)) (zad (eOp addD (eVar 3) (eVar 5)) aNil))) (eVar 4)) zzp (zwy (eC (.int 8))))))) rNx (naE A (.pl (.str w)) (.pl (.int r3)) .no .no) s3 = some (.nx (naE A (.pl (.str w2)) (.pl (.int r3)) sb .no) s4) ∧ Low w2 ∧ w2.length ≤ L + 8 ∧ PenB (n + 1) s4 := by
    have t1 : zcy (eOp neD (eVar 1) (eLst aNil)) (naE A (.pl (.str w)) (.pl (.int r3)) .no .no) = some (!A.isEmpty) := zjs (zfx (x := ⟨zak A, false, []⟩) (y := ⟨.list [], true, []⟩) rfl rfl (zano fun x hx => (hA x hx).1))
    have t2 : zcy (eOp ltD (eVar 4) (eC (.int 2))) (naE A (.pl (.str w)) (.pl (.int r3)) .no .no) = some (decide (r3 < 2)) := rfl
    have no : ∀ b, zsj (zcy (eOp neD (eVar 1) (eLst aNil))) (zcy (eOp ltD (eVar 4) (eC (.int 2)))) (naE A (.pl (.str w)) (.pl (.int r3)) .no .no) = some b → b = false → ∃ (w2 : Str) (s4 : Pen) (sb : Sl), rIf (znx (zsj (zcy (eOp neD (eVar 1) (eLst aNil))) (zcy (eOp ltD (eVar 4) (eC (.int 2)))))) (rSeq (rSet 5 (rOp ixD (zaq (eVar 1)) (zbo 2 zar (zbq (zaq (eCB lenD (zad (eVar 1) aNil))) rNil))))
        (rSet 3 (zaq (eSl (eOp ixD (eLst (zad (eOp addD (eVar 5) (eVar 3)) (zad (eOp addD (eVar 3) (eVar 5)) aNil))) (eVar 4)) zzp (zwy (eC (.int 8))))))) rNx (naE A (.pl (.str w)) (.pl (.int r3)) .no .no) s3 = some (.nx (naE A (.pl (.str w2)) (.pl (.int r3)) sb .no) s4) ∧ Low w2 ∧ w2.length ≤ L + 8 ∧ PenB (n + 1) s4 := fun b eb hb => by
      subst hb
      exact ⟨w, s3, .no, zzw (zif eb) rfl, lw, by omega, p3.mono (by omega)⟩
    cases hE : A.isEmpty with
    | true => exact no false (by unfold zsj; rw [t1, hE]; rfl) rfl
    | false =>
      by_cases hr : r3 < 2
      · have tt : zsj (zcy (eOp neD (eVar 1) (eLst aNil))) (zcy (eOp ltD (eVar 4) (eC (.int 2)))) (naE A (.pl (.str w)) (.pl (.int r3)) .no .no) = some true := by
          unfold zsj; rw [t1, hE, t2, decide_eq_true hr]; rfl
        have hpos : 0 < A.length := by
          cases A with
          | nil => cases hE
          | cons a A => simp
        obtain ⟨r4, s4, e4, a4, b4, p4⟩ := znf (n := n + 1) (a := zaq (eCB lenD (zad (eVar 1) aNil))) (env := naE A (.pl (.str w)) (.pl (.int r3)) .no .no) (st := s3) (bs := []) (zasd _ rfl s3) p3 (by omega) (by omega)
        obtain ⟨d, ed, md⟩ := zwc (l := A.map PyData.str) a4 (by rw [List.length_map]; exact b4)
        obtain ⟨b, hb, rfl⟩ := List.mem_map.mp md
        have ix : ixD (zak A) (.int r4) = some (.str b, false) := by
          show ((atI (A.map PyData.str) r4).map _) = _
          rw [ed]; rfl
        have q1 : rSet 5 (rOp ixD (zaq (eVar 1)) (zbo 2 zar (zbq (zaq (eCB lenD (zad (eVar 1) aNil))) rNil))) (naE A (.pl (.str w)) (.pl (.int r3)) .no .no) s3 = some (.nx (naE A (.pl (.str w)) (.pl (.int r3)) (.pl (.str b)) .no) s4) := zdx (zdt (T := Pen) (x := ⟨zak A, false, []⟩) (s1 := s3) rfl e4 ix)
        have lb := hA b hb
        have ad : ∀ {x y : Str}, x.length ≤ 1000 → y.length ≤ 1000 → addD (.str x) (.str y) = some (.str (x ++ y), false) := fun {x y} h1 h2 => by
          unfold addD
          dsimp only
          rw [if_pos (by omega)]
        have f1 : eOp addD (eVar 5) (eVar 3) (naE A (.pl (.str w)) (.pl (.int r3)) (.pl (.str b)) .no) = some (vs (b ++ w)) := zfx (x := vs b) (y := vs w) rfl rfl (ad (by omega) (by omega))
        have f2 : eOp addD (eVar 3) (eVar 5) (naE A (.pl (.str w)) (.pl (.int r3)) (.pl (.str b)) .no) = some (vs (w ++ b)) := zfx (x := vs w) (y := vs b) rfl rfl (ad (by omega) (by omega))
        have f3 : eLst (zad (eOp addD (eVar 5) (eVar 3)) (zad (eOp addD (eVar 3) (eVar 5)) aNil)) (naE A (.pl (.str w)) (.pl (.int r3)) (.pl (.str b)) .no) = some ⟨.list [.str (b ++ w), .str (w ++ b)], true, []⟩ := by
          unfold eLst
          rw [zcm f1 (zgv f2)]; rfl
        have f4 : ∃ y : Str, eOp ixD (eLst (zad (eOp addD (eVar 5) (eVar 3)) (zad (eOp addD (eVar 3) (eVar 5)) aNil))) (eVar 4) (naE A (.pl (.str w)) (.pl (.int r3)) (.pl (.str b)) .no) = some (vs y) ∧ Low y ∧ y.length ≤ L + 3 := by
          rcases (show r3 = 0 ∨ r3 = 1 by omega) with rfl | rfl
          · exact ⟨b ++ w, zfx f3 (y := vi 0) rfl rfl, lb.1.app lw, by rw [zagx]; omega⟩
          · exact ⟨w ++ b, zfx f3 (y := vi 1) rfl rfl, lw.app lb.1, by rw [zagx]; omega⟩
        obtain ⟨y, ey, ly, ny⟩ := f4
        refine ⟨Txt.slice y none (some 8), s4, .pl (.str b), zadg (zif tt) (zba q1 (zdx (zcn (zasb ey rfl rfl (by omega))))), ly.slice _ _, Nat.le_trans (Txt.slice_le y none (some 8)) (by omega), p4⟩
      · exact no false (by unfold zsj; rw [t1, hE, t2, decide_eq_false hr]; rfl) rfl
  obtain ⟨w2, s4, sb, e4, lw2, nw2, p4⟩ := step4
  have e5 : poE (naE A (.pl (.str w2)) (.pl (.int r3)) sb .no) = some ⟨zak (zop w2), true, []⟩ := rfl
  obtain ⟨r6, s6, e6, a6, b6, p6⟩ := znf (n := n) (a := zaq (eC (.int 10))) (env := naE A (.pl (.str w2)) (.pl (.int r3)) sb (.ac (zak (zop w2)))) (st := s4) (s1 := s4) (bs := []) rfl p4 (by decide) (by decide)
  obtain ⟨d, ed, md⟩ := zwc (l := (zop w2).map PyData.str) a6 (by rw [List.length_map]; exact b6)
  obtain ⟨w3, hw3, rfl⟩ := List.mem_map.mp md
  obtain ⟨lw3, nw3⟩ := zakf lw2 nw2 (by omega) w3 hw3
  have ix : ixD (zak (zop w2)) (.int r6) = some (.str w3, false) := by
    show ((atI ((zop w2).map PyData.str) r6).map _) = _
    rw [ed]; rfl
  have last : ∃ x : Str, rIf (znx (zcy (eOp (inD false) (eVar 3) (eVar 1)))) (rSet 3 (zaq (eOp ixD (zdq ["_law_sign"] [1] (zqv (eVar 2)) (gN 0) (zcy (eOp (inD true) (eVar 0) (eVar 1))) (eVar 0)) (eC (.int 0))))) rNx (naE A (.pl (.str w3)) (.pl (.int r3)) sb (.ac (zak (zop w2)))) s6 = some (.nx (naE A (.pl (.str x)) (.pl (.int r3)) sb (.ac (zak (zop w2)))) s6) ∧ Low x ∧ x.length ≤ L + 8 ∧ x ∉ A := by
    have t : zcy (eOp (inD false) (eVar 3) (eVar 1)) (naE A (.pl (.str w3)) (.pl (.int r3)) sb (.ac (zak (zop w2)))) = some (decide (w3 ∈ A)) := zjs (e_in (neg := false) rfl rfl)
    by_cases hm : w3 ∈ A
    · rw [decide_eq_true hm] at t
      obtain ⟨x, ex, lx, nx, mx⟩ := zahi hl (env := naE A (.pl (.str w3)) (.pl (.int r3)) sb (.ac (zak (zop w2)))) rfl rfl
      exact ⟨x, zadg (zif t) (zdx (zcn ex)), lx, by omega, mx⟩
    · rw [decide_eq_false hm] at t
      exact ⟨w3, zzw (zif t) rfl, lw3, nw3, hm⟩
  obtain ⟨x, ex, lx, nx, mx⟩ := last
  refine ⟨x, s6, zxn (env := [.no, .pl (zak A), .no, .no, .no, .no, .no]) rfl ?_, lx, nx, p6, mx⟩
  refine zba (e1 := naE A .no .no .no .no) (s1 := st) rfl ?_
  refine zba (zdx x2) ?_
  refine zba (e1 := naE A (.pl (.str w)) (.pl (.int r3)) .no .no) (zdx e3) ?_
  refine zba e4 ?_
  refine zba (e1 := naE A (.pl (.str w2)) (.pl (.int r3)) sb (.ac (zak (zop w2)))) (zdx (zcn e5)) ?_
  refine zba (e1 := naE A (.pl (.str w3)) (.pl (.int r3)) sb (.ac (zak (zop w2)))) (zdx (zdt (T := Pen) (x := ⟨zak (zop w2), false, [6]⟩) (s1 := s4) rfl e6 ix)) ?_
  exact zba ex rfl
end Bc
namespace Bc
open PySem L2
theorem zanp {a : EF} {env : DEnv} {i : Int} {bs : List Nat} (ha : a env = some ⟨.int i, false, bs⟩) (h1 : -4611686018427387904 ≤ i) (h2 : i < 4611686018427387904) : zjg (zad a aNil) env = some ((List.range i.toNat).map (fun (k : Nat) => PyData.int (k : Int)), []) := by
  unfold zjg
  rw [zgv ha]
  simp only [Option.bind_some]
  rw [if_pos ⟨h1, h2⟩, zmt]
structure WbOk (W : Web) (m : Nat) : Prop where
  low : ∀ p ∈ W, Low p.1 ∧ p.1.length ≤ m
  few : ∀ p ∈ W, p.2.length ≤ 100
theorem zoq {i : Nat} {g : EFr Pen} {env : DEnv} {st s1 : Pen} {ds : List PyData} {d : PyData} {fr : Bool} {bs : List Nat} (he : env[i]? = some (.ac (.list ds))) (hg : g env st = some (⟨d, fr, bs⟩, s1)) (hl : ds.length < 100000) (hb : i ∉ bs) : rApp i g env st = some (.nx ((frzs env bs).set i (.ac (.list (ds ++ [d])))) s1) := by
  unfold rApp
  rw [he]
  show ((g env st).bind _) = _
  rw [hg]
  show (if _ ∧ _ then _ else _) = _
  rw [if_pos ⟨hl, hb⟩]
noncomputable abbrev wbE (s : Int) (W : Web) (s4 s5 s6 s7 : Sl) : DEnv := [.no, .pl (.int s), .ac (webD W), .ac (zak (nm W)), s4, s5, s6, s7]
noncomputable abbrev wbI : SFr Pen := (rSeq (rSet 7 (rOp ixD (zaq (eVar 3)) (zbo 2 zar (zbq (zaq (eVar 4)) rNil))))
    (rIf (znx (zcy (eOp (inD true) (eVar 7) (eVar 5)))) (rApp 5 (zaq (eVar 7))) rNx))
noncomputable abbrev wbT : IFr Pen := zfz (zbq (rCB minD (zbq (zaq (eVar 4)) (zbq (zbo 2 zar (zbq (zaq (eC (.int 5))) rNil)) rNil))) rNil)
theorem zahj {n : Nat} {st : Pen} {s : Int} {W : Web} {s6 s7 : Sl} (hW : W.length ≤ 100) (h : PenB (n + 5) st) :
    ∃ (es : List Str) (t6 t7 : Sl) (st' : Pen), rFor wbT (gN 6) wbI (wbE s W (.pl (.int (W.length : Int))) (.ac (zak [])) s6 s7) st = some (.nx (wbE s W (.pl (.int (W.length : Int))) (.ac (zak es)) t6 t7) st') ∧ es.length ≤ 4 ∧ PenB n st' ∧ ∀ e ∈ es, e ∈ nm W := by
  obtain ⟨r, s1, e1, a1, b1, p1⟩ := znf (n := n + 4) (a := zaq (eC (.int 5))) (env := wbE s W (.pl (.int (W.length : Int))) (.ac (zak [])) s6 s7) (st := st) (s1 := st) (bs := []) rfl h (by decide) (by decide)
  generalize hj : (if r < (W.length : Int) then r else (W.length : Int)) = j
  have j0 : 0 ≤ j ∧ j ≤ 4 ∧ j ≤ (W.length : Int) := by
    rw [← hj]; split <;> omega
  have it : wbT (wbE s W (.pl (.int (W.length : Int))) (.ac (zak [])) s6 s7) st = some ((List.range j.toNat).map (fun (k : Nat) => PyData.int (k : Int)), [], s1) := by
    show zfz _ _ _ = _
    unfold zfz
    have ea : rCB minD (zbq (zaq (eVar 4)) (zbq (zbo 2 zar (zbq (zaq (eC (.int 5))) rNil)) rNil)) (wbE s W (.pl (.int (W.length : Int))) (.ac (zak [])) s6 s7) st = some (vi j, s1) := by
      unfold rCB
      rw [zev (T := Pen) (x := vi (W.length : Int)) (xs := [vi r]) (s1 := st) (s2 := s1) rfl (zev e1 rfl), ← hj]
      rfl
    rw [zev (T := Pen) (x := vi j) (xs := []) (s2 := s1) ea rfl]
    show (if _ ∧ _ then _ else _) = _
    rw [if_pos ⟨by omega, by omega⟩, zmt]
  obtain ⟨e', s', lp, es, t6, t7, rfl, hes, hp, hin⟩ := zkk (T := Pen) (enc := fun (k : Nat) => PyData.int (k : Int)) (g := gN 6) (body := wbI) (l := List.range j.toNat) (env := wbE s W (.pl (.int (W.length : Int))) (.ac (zak [])) s6 s7) (st := s1)
    (fun pre env st => ∃ (es : List Str) (t6 t7 : Sl), env = wbE s W (.pl (.int (W.length : Int))) (.ac (zak es)) t6 t7 ∧ es.length ≤ pre.length ∧ PenB (n + (4 - pre.length)) st ∧ ∀ e ∈ es, e ∈ nm W)
    ⟨[], s6, s7, rfl, Nat.le_refl _, p1, fun e he => (nomatch he)⟩ (by
      rintro pre x post env st hpre ⟨es, t6, t7, rfl, hes, hp, hin⟩
      have hlen : pre.length + 1 ≤ j.toNat := by
        have := congrArg List.length hpre
        rw [List.length_append, List.length_cons, List.length_range] at this
        omega
      obtain ⟨r2, s2, e2, a2, b2, p2⟩ := znf (n := n + (4 - (pre.length + 1))) (a := zaq (eVar 4)) (env := wbE s W (.pl (.int (W.length : Int))) (.ac (zak es)) (.pl (.int (x : Int))) t7) (st := st) (s1 := st) (bs := []) rfl (hp.mono (by omega)) (by omega) (by omega)
      obtain ⟨d, ed, md⟩ := zwc (l := (nm W).map PyData.str) a2 (by rw [List.length_map]; show r2 < ((W.map _).length : Int); rw [List.length_map]; exact b2)
      obtain ⟨w, hw, rfl⟩ := List.mem_map.mp md
      have ix : ixD (zak (nm W)) (.int r2) = some (.str w, false) := by
        show ((atI ((nm W).map PyData.str) r2).map _) = _
        rw [ed]; rfl
      have q1 : rSet 7 (rOp ixD (zaq (eVar 3)) (zbo 2 zar (zbq (zaq (eVar 4)) rNil))) (wbE s W (.pl (.int (W.length : Int))) (.ac (zak es)) (.pl (.int (x : Int))) t7) st = some (.nx (wbE s W (.pl (.int (W.length : Int))) (.ac (zak es)) (.pl (.int (x : Int))) (.pl (.str w))) s2) :=
        zdx (zdt (T := Pen) (x := ⟨zak (nm W), false, [3]⟩) (s1 := st) rfl e2 ix)
      have t : zcy (eOp (inD true) (eVar 7) (eVar 5)) (wbE s W (.pl (.int (W.length : Int))) (.ac (zak es)) (.pl (.int (x : Int))) (.pl (.str w))) = some (!decide (w ∈ es)) := zjs (e_in (neg := true) rfl rfl)
      by_cases hm : w ∈ es
      · rw [decide_eq_true hm] at t
        exact ⟨_, _, _, rfl, zba q1 (zzw (zif t) rfl), es, _, _, rfl, by rw [List.length_append]; omega, by rw [List.length_append]; exact p2, hin⟩
      · rw [decide_eq_false hm] at t
        refine ⟨_, _, _, rfl, zba q1 (zadg (zif t) (zoq (ds := es.map .str) (d := .str w) (fr := false) (bs := []) rfl rfl (by rw [List.length_map]; omega) (by simp))), es ++ [w], .pl (.int (x : Int)), .pl (.str w), ?_, by rw [List.length_append, List.length_append]; simp; exact hes, by rw [List.length_append]; exact p2, fun e he => (List.mem_append.mp he).elim (hin e) fun z => by rw [List.mem_singleton.mp z]; exact hw⟩
        rw [show zak (es ++ [w]) = .list (es.map .str ++ [.str w]) by unfold zak; rw [List.map_append]; rfl]
        rfl)
  refine ⟨es, t6, t7, s', zri it lp, ?_, hp.mono (by omega), hin⟩
  rw [List.length_range] at hes
  omega
noncomputable abbrev wbO : SFr Pen := (rSeq (rSet 5 (zaq (eLst aNil)))
    (rSeq (rFor wbT (gN 6) wbI)
    (rSeq (rApp 3 (zbo 2 zel (zbq (zaq (eVar 3)) rNil)))
    (rApp 2 (zaq (eTup (zad (eIxV 3 (eVar 4)) (zad (eVar 5) aNil))))))))
theorem zads {W : Web} {w : Str} {es : List Str} (h : WebOk W) (hw : w ∉ nm W) (he : ∀ e ∈ es, e ∈ nm W) (hl : es.length ≤ 4) (hn : W.length < 12) : WebOk (W ++ [(w, es)]) := by
  refine ⟨?_, fun i n fs e x hx => ?_, fun p hp => ?_, by rw [List.length_append]; simp; omega⟩
  · rw [zob, List.nodup_append]
    refine ⟨h.nd, by simp, fun a ha b hb => ?_⟩
    intro z
    rw [z, List.mem_singleton.mp hb] at ha
    exact hw ha
  · by_cases hi : i < W.length
    · rw [List.getElem?_append_left hi] at e
      rw [List.take_append_of_le_length (Nat.le_of_lt hi)]
      exact h.el i n fs e x hx
    · rw [List.getElem?_append_right (by omega)] at e
      have hi2 : i - W.length = 0 := by
        have := List.getElem?_eq_some_iff.mp e
        obtain ⟨q, _⟩ := this
        simp at q
        omega
      rw [hi2] at e
      cases e
      have : i = W.length := by omega
      rw [this, List.take_left]
      exact he x hx
  · rcases List.mem_append.mp hp with hp | hp
    · exact h.few p hp
    · rw [List.mem_singleton.mp hp]; exact hl
theorem zase {n : Nat} {st : Pen} {s : Nat} (hs : s ≤ 12) (h : PenB (n + 12 * s) st) : ∃ (W : Web) (st' : Pen), zem [.int (s : Int)] st = some (webD W, true, st') ∧ W.length = s ∧ WbOk W (8 * s) ∧ PenB n st' ∧ WebOk W := by
  obtain ⟨e', s', lp, W, s4, s5, s6, s7, rfl, hl, ok, hp, wok⟩ := zkk (T := Pen) (enc := fun (k : Nat) => PyData.int (k : Int)) (g := gN 4) (body := wbO) (l := List.range s) (env := wbE (s : Int) [] .no .no .no .no) (st := st)
    (fun pre env st => ∃ (W : Web) (s4 s5 s6 s7 : Sl), env = wbE (s : Int) W s4 s5 s6 s7 ∧ W.length = pre.length ∧ WbOk W (8 * pre.length) ∧ PenB (n + 12 * (s - pre.length)) st ∧ WebOk W)
    ⟨[], .no, .no, .no, .no, rfl, rfl, ⟨fun p hp => (nomatch hp), fun p hp => (nomatch hp)⟩, h, ⟨by simp [nm], fun i n es e => (nomatch e), fun p hp => (nomatch hp), by simp⟩⟩ (by
      rintro pre x post env st hpre ⟨W, s4, s5, s6, s7, rfl, hl, ok, hp, wok⟩
      have hlen : pre.length + 1 ≤ s := by
        have := congrArg List.length hpre
        rw [List.length_append, List.length_cons, List.length_range] at this
        omega
      have hx : x = W.length := by
        have h1 : (List.range s)[pre.length]? = some x := by rw [← hpre, List.getElem?_append_right (Nat.le_refl _), Nat.sub_self]; rfl
        rw [List.getElem?_range (by omega)] at h1
        cases h1
        exact hl.symm
      subst hx
      obtain ⟨es, t6, t7, s1, e1, l1, p1, hin⟩ := zahj (n := n + 12 * (s - (pre.length + 1)) + 7) (st := st) (s := (s : Int)) (W := W) (s6 := s6) (s7 := s7) (by omega) (hp.mono (by omega))
      have nml : (nm W).length = W.length := List.length_map ..
      obtain ⟨w, s2, e2, lw, nw, p2, mw⟩ := zale (A := nm W) (L := 8 * pre.length) p1 (by rw [nml]; omega) (fun y hy => by
        obtain ⟨p, hp1, rfl⟩ := List.mem_map.mp hy
        exact ok.low p hp1) (by omega)
      refine ⟨_, wbE (s : Int) (W ++ [(w, es)]) (.pl (.int (W.length : Int))) (.pl (zak es)) t6 t7, s2, rfl, zba rfl (zba e1 (zba (zoq (ds := (nm W).map .str) (d := .str w) (fr := false) (bs := []) rfl (zkj (zev (x := ⟨zak (nm W), false, [3]⟩) rfl rfl) rfl e2) (by rw [List.length_map, nml]; omega) (by simp)) ?_)), W ++ [(w, es)], _, _, _, _, rfl, by rw [List.length_append, List.length_append, hl]; rfl, ?_, by rw [List.length_append]; exact p2, zads wok mw hin l1 (by omega)⟩
      · have ix : eIxV 3 (eVar 4) ([.no, .pl (.int (s : Int)), .ac (webD W), .ac (.list ((nm W).map PyData.str ++ [.str w])), .pl (.int (W.length : Int)), .ac (zak es), t6, t7] : DEnv) = some ⟨.str w, false, []⟩ := by
          refine zasc (k := 3) (n := W.length) (ds := (nm W).map PyData.str ++ [.str w]) rfl rfl ?_
          rw [List.getElem?_append_right (by rw [List.length_map, nml]; exact Nat.le_refl _), List.length_map, nml, Nat.sub_self]; rfl
        have tp : eTup (zad (eIxV 3 (eVar 4)) (zad (eVar 5) aNil)) ([.no, .pl (.int (s : Int)), .ac (webD W), .ac (.list ((nm W).map PyData.str ++ [.str w])), .pl (.int (W.length : Int)), .ac (zak es), t6, t7] : DEnv) = some ⟨.tuple [.str w, zak es], false, [5]⟩ := by
          unfold eTup
          rw [zcm ix (zgv (r := ⟨zak es, false, [5]⟩) rfl)]; rfl
        have := zoq (i := 2) (ds := W.map rowD) (st := s2) (d := .tuple [.str w, zak es]) (fr := false) (bs := [5]) (env := ([.no, .pl (.int (s : Int)), .ac (webD W), .ac (.list ((nm W).map PyData.str ++ [.str w])), .pl (.int (W.length : Int)), .ac (zak es), t6, t7] : DEnv)) rfl (zcn tp) (by rw [List.length_map]; omega) (by decide)
        refine this.trans ?_
        show _ = some (OutR.nx [.no, .pl (.int (s : Int)), .ac (webD (W ++ [(w, es)])), .ac (zak (nm (W ++ [(w, es)]))), .pl (.int (W.length : Int)), .pl (zak es), t6, t7] s2)
        rw [show webD (W ++ [(w, es)]) = .list (W.map rowD ++ [rowD (w, es)]) by unfold webD; rw [List.map_append]; rfl, show zak (nm (W ++ [(w, es)])) = .list ((nm W).map .str ++ [.str w]) by unfold zak nm; rw [List.map_append, List.map_append]; rfl]
        rfl
      · refine ⟨fun p hp1 => ?_, fun p hp1 => ?_⟩
        · rcases List.mem_append.mp hp1 with hp1 | hp1
          · have := ok.low p hp1
            exact ⟨this.1, by rw [List.length_append]; have := this.2; simp; omega⟩
          · cases List.mem_singleton.mp hp1
            exact ⟨lw, by rw [List.length_append]; simp; omega⟩
        · rcases List.mem_append.mp hp1 with hp1 | hp1
          · exact ok.few p hp1
          · cases List.mem_singleton.mp hp1
            show es.length ≤ 100
            omega)
  rw [List.length_range] at hl ok hp
  refine ⟨W, s', zxn (env := [.no, .pl (.int (s : Int)), .no, .no, .no, .no, .no, .no]) rfl ?_, hl, ok, hp.mono (by omega), wok⟩
  refine zba (e1 := [.no, .pl (.int (s : Int)), .ac (.list []), .no, .no, .no, .no, .no]) (s1 := st) rfl ?_
  refine zba (e1 := wbE (s : Int) [] .no .no .no .no) (s1 := st) rfl ?_
  refine zba (zri (ds := (List.range s).map (fun (k : Nat) => PyData.int (k : Int))) (bs := []) (s1 := st) ?_ lp) rfl
  unfold rIP
  rw [zanp (i := (s : Int)) rfl (by omega) (by omega)]
  show some _ = some _
  rw [Int.toNat_natCast]
end Bc
namespace Bc
open PySem L2
noncomputable def szB (p s : Nat) : Prop := 1 ≤ s ∧ 1 ≤ p ∧ ((p ≤ 2 ∧ s ≤ 10) ∨ (p = 3 ∧ s ≤ 6))
theorem szB.pow {p s : Nat} (h : szB p s) : s ^ p ≤ 216 := by
  obtain ⟨h1, h2, h3⟩ := h
  have a : ∀ s, s < 11 → s ^ 1 ≤ 216 ∧ s ^ 2 ≤ 216 := by decide
  have b : ∀ s, s < 7 → s ^ 3 ≤ 216 := by decide
  rcases h3 with ⟨h3, h4⟩ | ⟨rfl, h4⟩
  · rcases (show p = 1 ∨ p = 2 by omega) with rfl | rfl
    · exact (a s (by omega)).1
    · exact (a s (by omega)).2
  · exact b s (by omega)
noncomputable abbrev bkE (s1 s2 s3 s4 s5 s6 s7 s8 : Sl) : DEnv := [.no, s1, s2, s3, s4, s5, s6, s7, s8]
theorem zasf {p : Nat} (h1 : 1 ≤ p) (h2 : p ≤ 3) (s2 s3 s4 s5 s6 s7 s8 : Sl) : ∃ m : Nat, eOp ixD (eLst (zad (eC (.int 6)) (zad (eC (.int 5)) (zad (eC (.int 4)) aNil)))) (eOp subD (eVar 1) (eC (.int 1))) (bkE (.pl (.int (p : Int))) s2 s3 s4 s5 s6 s7 s8) = some (vi (m : Int)) ∧ 1 ≤ m ∧ szB p m := by
  rcases (show p = 1 ∨ p = 2 ∨ p = 3 by omega) with rfl | rfl | rfl
  · exact ⟨6, rfl, by decide, by unfold szB; omega⟩
  · exact ⟨5, rfl, by decide, by unfold szB; omega⟩
  · exact ⟨4, rfl, by decide, by unfold szB; omega⟩
theorem zaqy {p : Nat} (h1 : 1 ≤ p) (h2 : p ≤ 3) (s2 s3 s4 s5 s6 s7 s8 : Sl) : ∃ m : Nat, eOp ixD (eLst (zad (eC (.int 10)) (zad (eC (.int 10)) (zad (eC (.int 6)) aNil)))) (eOp subD (eVar 1) (eC (.int 1))) (bkE (.pl (.int (p : Int))) s2 s3 s4 s5 s6 s7 s8) = some (vi (m : Int)) ∧ szB p m := by
  rcases (show p = 1 ∨ p = 2 ∨ p = 3 by omega) with rfl | rfl | rfl
  · exact ⟨10, rfl, by unfold szB; omega⟩
  · exact ⟨10, rfl, by unfold szB; omega⟩
  · exact ⟨6, rfl, by unfold szB; omega⟩
theorem zyv {r : Int} (h : 0 ≤ r) : ∃ k : Nat, r = (k : Int) := ⟨r.toNat, by omega⟩
noncomputable abbrev bkI : SFr Pen := (rSeq (rSet 8 (zbo 2 zar (zbq (zaq (eVar 2)) rNil)))
    (rApp 6 (rOp ixD (rOp ixD (zaq (eVar 3)) (rOp zwu (zaq (eVar 8)) (rOp addD (zaq (eC (.int 1))) (zbo 2 zar (zbq (zaq (eC (.int 2))) rNil))))) (zaq (eC (.int 0))))))
theorem zadt {n : Nat} {st : Pen} {p : Nat} {W : Web} {m : Nat} (hp : p ≤ 3) (hW : 1 ≤ W.length) (hW2 : W.length ≤ 100) (ok : WbOk W m) (h : PenB (n + 6) st) {s4 s5 s7 s8 : Sl} :
    ∃ (ks : List Str) (t7 t8 : Sl) (st' : Pen), rFor (rIP (zjg (zad (eVar 1) aNil))) (gN 7) bkI (bkE (.pl (.int (p : Int))) (.pl (.int (W.length : Int))) (.ac (webD W)) s4 s5 (.ac (zak [])) s7 s8) st = some (.nx (bkE (.pl (.int (p : Int))) (.pl (.int (W.length : Int))) (.ac (webD W)) s4 s5 (.ac (zak ks)) t7 t8) st') ∧ ks.length = p ∧ LowS ks ∧ PenB n st' ∧ ∀ k ∈ ks, k ∈ nm W := by
  obtain ⟨e', s', lp, ks, t7, t8, rfl, hk, lo, hb, hin⟩ := zkk (T := Pen) (enc := fun (k : Nat) => PyData.int (k : Int)) (g := gN 7) (body := bkI) (l := List.range p) (env := bkE (.pl (.int (p : Int))) (.pl (.int (W.length : Int))) (.ac (webD W)) s4 s5 (.ac (zak [])) s7 s8) (st := st)
    (fun pre env st => ∃ (ks : List Str) (t7 t8 : Sl), env = bkE (.pl (.int (p : Int))) (.pl (.int (W.length : Int))) (.ac (webD W)) s4 s5 (.ac (zak ks)) t7 t8 ∧ ks.length = pre.length ∧ LowS ks ∧ PenB (n + 2 * (3 - pre.length)) st ∧ ∀ k ∈ ks, k ∈ nm W)
    ⟨[], s7, s8, rfl, rfl, fun k hk => (nomatch hk), h, fun k hk => (nomatch hk)⟩ (by
      rintro pre x post env st hpre ⟨ks, t7, t8, rfl, hk, lo, hb, hin⟩
      have hlen : pre.length + 1 ≤ p := by
        have := congrArg List.length hpre
        rw [List.length_append, List.length_cons, List.length_range] at this
        omega
      obtain ⟨r1, s1, e1, a1, b1, p1⟩ := znf (n := n + 2 * (3 - (pre.length + 1)) + 1) (a := zaq (eVar 2)) (env := bkE (.pl (.int (p : Int))) (.pl (.int (W.length : Int))) (.ac (webD W)) s4 s5 (.ac (zak ks)) (.pl (.int (x : Int))) t8) (st := st) (s1 := st) (bs := []) rfl (hb.mono (by omega)) (by omega) (by omega)
      obtain ⟨r2, s2, e2, a2, b2, p2⟩ := znf (n := n + 2 * (3 - (pre.length + 1))) (a := zaq (eC (.int 2))) (env := bkE (.pl (.int (p : Int))) (.pl (.int (W.length : Int))) (.ac (webD W)) s4 s5 (.ac (zak ks)) (.pl (.int (x : Int))) (.pl (.int r1))) (st := s1) (s1 := s1) (bs := []) rfl p1 (by decide) (by decide)
      have q0 : 0 ≤ r1 / (1 + r2) := Int.ediv_nonneg a1 (by omega)
      have q1 : r1 / (1 + r2) ≤ r1 := Int.ediv_le_self _ a1
      obtain ⟨d, ed, md⟩ := zwc (l := W.map rowD) q0 (by rw [List.length_map]; omega)
      obtain ⟨row, hrow, rfl⟩ := List.mem_map.mp md
      have i1 : ixD (webD W) (.int (r1 / (1 + r2))) = some (rowD row, false) := by
        show ((atI (W.map rowD) (r1 / (1 + r2))).map _) = _
        rw [ed]; rfl
      have ev : rOp ixD (rOp ixD (zaq (eVar 3)) (rOp zwu (zaq (eVar 8)) (rOp addD (zaq (eC (.int 1))) (zbo 2 zar (zbq (zaq (eC (.int 2))) rNil))))) (zaq (eC (.int 0))) (bkE (.pl (.int (p : Int))) (.pl (.int (W.length : Int))) (.ac (webD W)) s4 s5 (.ac (zak ks)) (.pl (.int (x : Int))) (.pl (.int r1))) s1 = some (vs row.1, s2) :=
        zdt (T := Pen) (y := vi 0) (s1 := s2) (zdt (T := Pen) (x := ⟨webD W, false, [3]⟩) (s1 := s1) rfl (zdt (T := Pen) (x := vi r1) (s1 := s1) rfl (zdt (T := Pen) (x := vi 1) (y := vi r2) (s1 := s1) rfl e2 rfl) (zaax (by omega) (by omega))) i1) rfl rfl
      refine ⟨_, _, s2, rfl, zba (zdx e1) (zoq (i := 6) (ds := ks.map .str) (d := .str row.1) (fr := false) (bs := []) rfl ev (by rw [List.length_map]; omega) (by simp)), ks ++ [row.1], .pl (.int (x : Int)), .pl (.int r1), ?_, by rw [List.length_append, List.length_append, hk]; rfl, fun k hk' => ?_, by rw [List.length_append]; exact p2, fun k hk' => (List.mem_append.mp hk').elim (hin k) fun z => by rw [List.mem_singleton.mp z]; exact List.mem_map.mpr ⟨row, hrow, rfl⟩⟩
      · rw [show zak (ks ++ [row.1]) = .list (ks.map .str ++ [.str row.1]) by unfold zak; rw [List.map_append]; rfl]
        rfl
      · rcases List.mem_append.mp hk' with hk' | hk'
        · exact lo k hk'
        · rw [List.mem_singleton.mp hk']
          exact zrk (ok.low row hrow).1)
  rw [List.length_range] at hk hb
  refine ⟨ks, t7, t8, s', zri (ds := (List.range p).map (fun (k : Nat) => PyData.int (k : Int))) (bs := []) (s1 := st) ?_ lp, hk, lo, hb.mono (by omega), hin⟩
  unfold rIP
  rw [zanp (i := (p : Int)) rfl (by omega) (by omega), Int.toNat_natCast]; rfl
noncomputable abbrev bkA : TFr Pen := znx (zcy (eOp (inS true) (eCB zlk (zad (eVar 6) aNil)) (zdq ["_law_rule"] [] (zas (eVar 4)) (gN 0) zca (eIxV 0 (eC (.int 1))))))
noncomputable abbrev bkB : SFr Pen := rApp 4 (rTup (zbq (zbo 2 zel (zbq (zaq (zdq ["_law_rule"] [] (zas (eVar 4)) (gN 0) zca (eIxV 0 (eC (.int 0))))) rNil)) (zbq (zaq (eCB zlk (zad (eVar 6) aNil))) rNil)))
noncomputable abbrev bkO : SFr Pen := (rSeq (rSet 6 (zaq (eLst aNil)))
    (rSeq (rFor (rIP (zjg (zad (eVar 1) aNil))) (gN 7) bkI)
    (rIf bkA bkB rNx)))
structure RlOk (R : List Rule) (m : Nat) : Prop where
  low : ∀ r ∈ R, Low r.1 ∧ r.1.length ≤ m
  kin : ∀ r ∈ R, LowS r.2 ∧ r.2.length ≤ 3
structure RlIn (W : Web) (p : Nat) (R : List Rule) : Prop where
  kinds : ∀ r ∈ R, (∀ k ∈ r.2, k ∈ nm W) ∧ r.2.length = p
  nd1 : (R.map (·.1)).Nodup
  nd2 : (R.map (·.2)).Nodup
theorem nd_snoc {α : Type} {l : List α} {x : α} (h : l.Nodup) (hx : x ∉ l) : (l ++ [x]).Nodup := by
  rw [List.nodup_append]
  refine ⟨h, by simp, fun a ha b hb => ?_⟩
  intro z
  rw [z, List.mem_singleton.mp hb] at ha
  exact hx ha
theorem zakg {R : List Rule} {env : DEnv} (h4 : env[4]? = some (.ac (zbi R))) (hl : R.length ≤ 100) : ∃ bs, zdq ["_law_rule"] [] (zas (eVar 4)) (gN 0) zca (eIxV 0 (eC (.int 1))) env = some ⟨.list ((R.map (·.2)).map zai), true, bs⟩ := by
  have it : zas (eVar 4) env = some (R.map zcq, [4]) := by
    unfold zas eVar
    rw [h4]; rfl
  have cm : zdk (gN 0) zca (eIxV 0 (eC (.int 1))) (envB ["_law_rule"] [] env) (R.map zcq) = some (R.map fun r => zai r.2) := zcf fun r hr => ⟨[.pl (zcq r)], rfl, rfl, _, rfl, rfl⟩
  rw [List.map_map]
  exact ⟨_, zdy it (by rw [List.length_map]; omega) cm⟩
theorem zadu {R : List Rule} {env : DEnv} (h4 : env[4]? = some (.ac (zbi R))) (hl : R.length ≤ 100) : zdq ["_law_rule"] [] (zas (eVar 4)) (gN 0) zca (eIxV 0 (eC (.int 0))) env = some ⟨zak (R.map (·.1)), true, []⟩ := by
  have it : zas (eVar 4) env = some (R.map zcq, [4]) := by
    unfold zas eVar
    rw [h4]; rfl
  have cm : zdk (gN 0) zca (eIxV 0 (eC (.int 0))) (envB ["_law_rule"] [] env) (R.map zcq) = some (R.map fun r => .str r.1) := zcf fun r hr => ⟨[.pl (zcq r)], rfl, rfl, _, rfl, rfl⟩
  rw [zdy it (by rw [List.length_map]; omega) cm]
  have e : (R.map fun r => PyData.str r.1) = (R.map (·.1)).map .str := by rw [List.map_map]; rfl
  rw [e, if_pos (zoa _)]; rfl
theorem zaqz {n : Nat} {st : Pen} (h : PenB (n + 300) st) : ∃ (W : Web) (p : Nat) (R : List Rule) (st' : Pen), ziv [] st = some (zat W p R, false, st') ∧ szB p W.length ∧ WbOk W 100 ∧ RlOk R 200 ∧ R.length ≤ 100 ∧ PenB n st' ∧ WebOk W ∧ RlIn W p R := by
  obtain ⟨r1, s1, e1, a1, b1, p1⟩ := znf (n := n + 299) (a := zaq (eC (.int 3))) (env := bkE .no .no .no .no .no .no .no .no) (st := st) (s1 := st) (bs := []) rfl h (by decide) (by decide)
  obtain ⟨p, hp⟩ := zyv (r := 1 + r1) (by omega)
  have hp1 : 1 ≤ p := by omega
  have hp3 : p ≤ 3 := by omega
  have f1 : rSet 1 (rOp addD (zaq (eC (.int 1))) (zbo 2 zar (zbq (zaq (eC (.int 3))) rNil))) (bkE .no .no .no .no .no .no .no .no) st = some (.nx (bkE (.pl (.int (p : Int))) .no .no .no .no .no .no .no) s1) := by
    rw [← hp]
    exact zdx (zdt (T := Pen) (x := vi 1) (y := vi r1) (s1 := st) rfl e1 (show addD (.int 1) (.int r1) = some (.int (1 + r1), false) from rfl))
  obtain ⟨m, em, m1, szm⟩ := zasf hp1 hp3 .no .no .no .no .no .no .no
  obtain ⟨r2, s2, e2, a2, b2, p2⟩ := znf (n := n + 298) (env := bkE (.pl (.int (p : Int))) .no .no .no .no .no .no .no) (st := s1) (zcn em) p1 (by omega) (by unfold szB at szm; omega)
  obtain ⟨s0, hs0⟩ := zyv (r := 1 + r2) (by omega)
  have f2 : rSet 2 (rOp addD (zaq (eC (.int 1))) (zbo 2 zar (zbq (zaq (eOp ixD (eLst (zad (eC (.int 6)) (zad (eC (.int 5)) (zad (eC (.int 4)) aNil)))) (eOp subD (eVar 1) (eC (.int 1))))) rNil))) (bkE (.pl (.int (p : Int))) .no .no .no .no .no .no .no) s1 = some (.nx (bkE (.pl (.int (p : Int))) (.pl (.int (s0 : Int))) .no .no .no .no .no .no) s2) := by
    rw [← hs0]
    exact zdx (zdt (T := Pen) (x := vi 1) (y := vi r2) (s1 := s1) rfl e2 (show addD (.int 1) (.int r2) = some (.int (1 + r2), false) from rfl))
  have sz0 : szB p s0 := by unfold szB at szm ⊢; omega
  obtain ⟨r3, s3, e3, a3, b3, p3⟩ := znf (n := n + 297) (a := zaq (eC (.int 8))) (env := bkE (.pl (.int (p : Int))) (.pl (.int (s0 : Int))) .no .no .no .no .no .no) (st := s2) (s1 := s2) (bs := []) rfl p2 (by decide) (by decide)
  have t3 : qB (rOp eqD (zbo 2 zar (zbq (zaq (eC (.int 8))) rNil)) (zaq (eC (.int 7)))) (bkE (.pl (.int (p : Int))) (.pl (.int (s0 : Int))) .no .no .no .no .no .no) s2 = some (decide (r3 = 7), s3) := by
    have ee : eqD (.int r3) (.int 7) = some (.bool (decide (r3 = 7)), false) := by
      unfold eqD eqOk
      rw [show zww (.int r3) (.int 7) = true from rfl, Bool.true_or, if_pos rfl]
      simp [PyData.eqv]
      try rfl
    unfold qB
    rw [zdt (T := Pen) (x := vi r3) (y := vi 7) (s1 := s3) e3 rfl ee]
    rfl
  have f3 : ∃ s : Nat, rIf (qB (rOp eqD (zbo 2 zar (zbq (zaq (eC (.int 8))) rNil)) (zaq (eC (.int 7))))) (rSet 2 (zaq (eOp ixD (eLst (zad (eC (.int 10)) (zad (eC (.int 10)) (zad (eC (.int 6)) aNil)))) (eOp subD (eVar 1) (eC (.int 1)))))) rNx (bkE (.pl (.int (p : Int))) (.pl (.int (s0 : Int))) .no .no .no .no .no .no) s2 = some (.nx (bkE (.pl (.int (p : Int))) (.pl (.int (s : Int))) .no .no .no .no .no .no) s3) ∧ szB p s := by
    by_cases h7 : r3 = 7
    · rw [decide_eq_true h7] at t3
      obtain ⟨m2, em2, sz2⟩ := zaqy hp1 hp3 (.pl (.int (s0 : Int))) .no .no .no .no .no .no
      exact ⟨m2, zadg t3 (zdx (zcn em2)), sz2⟩
    · rw [decide_eq_false h7] at t3
      exact ⟨s0, zzw t3 rfl, sz0⟩
  obtain ⟨s, f3, sz⟩ := f3
  have hs10 : s ≤ 10 := by unfold szB at sz; omega
  obtain ⟨W, s4, e4, hWl, ok, p4, wok⟩ := zase (n := n + 177) (s := s) (by omega) (p3.mono (by omega))
  subst hWl
  have f4 : rSet 3 (zbo 2 zem (zbq (zaq (eVar 2)) rNil)) (bkE (.pl (.int (p : Int))) (.pl (.int (W.length : Int))) .no .no .no .no .no .no) s3 = some (.nx (bkE (.pl (.int (p : Int))) (.pl (.int (W.length : Int))) (.ac (webD W)) .no .no .no .no .no) s4) := by
    have a0 : zbq (zaq (eVar 2)) rNil (bkE (.pl (.int (p : Int))) (.pl (.int (W.length : Int))) .no .no .no .no .no .no) s3 = some ([vi (W.length : Int)], s3) := zev (T := Pen) (x := vi (W.length : Int)) (xs := []) (s1 := s3) rfl rfl
    have a1 := zkj (n := 2) (g := zem) a0 rfl e4
    exact zdx a1
  have ok : WbOk W 100 := ⟨fun q hq => ⟨(ok.low q hq).1, Nat.le_trans (ok.low q hq).2 (by omega)⟩, ok.few⟩
  obtain ⟨r5, s5, e5, a5, b5, p5⟩ := znf (n := n + 176) (a := zaq (eC (.int 13))) (env := bkE (.pl (.int (p : Int))) (.pl (.int (W.length : Int))) (.ac (webD W)) (.ac (zbi [])) .no .no .no .no) (st := s4) (s1 := s4) (bs := []) rfl p4 (by decide) (by decide)
  have it : zfz (zbq (zbo 2 zar (zbq (zaq (eC (.int 13))) rNil)) rNil) (bkE (.pl (.int (p : Int))) (.pl (.int (W.length : Int))) (.ac (webD W)) (.ac (zbi [])) .no .no .no .no) s4 = some ((List.range r5.toNat).map (fun (k : Nat) => PyData.int (k : Int)), [], s5) := by
    unfold zfz
    rw [zev (T := Pen) (x := vi r5) (xs := []) (s2 := s5) e5 rfl]
    show (if _ ∧ _ then _ else _) = _
    rw [if_pos ⟨by omega, by omega⟩, zmt]
  obtain ⟨e', s', lp, R, t5, t6, t7, t8, rfl, hR, rok, hb, rin⟩ := zkk (T := Pen) (enc := fun (k : Nat) => PyData.int (k : Int)) (g := gN 5) (body := bkO) (l := List.range r5.toNat) (env := bkE (.pl (.int (p : Int))) (.pl (.int (W.length : Int))) (.ac (webD W)) (.ac (zbi [])) .no .no .no .no) (st := s5)
    (fun pre env st => ∃ (R : List Rule) (t5 t6 t7 t8 : Sl), env = bkE (.pl (.int (p : Int))) (.pl (.int (W.length : Int))) (.ac (webD W)) (.ac (zbi R)) t5 t6 t7 t8 ∧ R.length ≤ pre.length ∧ RlOk R (8 * pre.length) ∧ PenB (n + 13 * (12 - pre.length)) st ∧ RlIn W p R)
    ⟨[], .no, .no, .no, .no, rfl, Nat.le_refl _, ⟨fun q hq => (nomatch hq), fun q hq => (nomatch hq)⟩, p5.mono (by show n + 13 * (12 - 0) ≤ n + 176; omega), ⟨fun r hr => (nomatch hr), by simp, by simp⟩⟩ (by
      rintro pre x post env st hpre ⟨R, t5, t6, t7, t8, rfl, hR, rok, hb, rin⟩
      have hlen : pre.length + 1 ≤ r5.toNat := by
        have := congrArg List.length hpre
        rw [List.length_append, List.length_cons, List.length_range] at this
        omega
      obtain ⟨ks, u7, u8, sa, ea, kl, lo, pa, kin⟩ := zadt (n := n + 13 * (12 - (pre.length + 1)) + 7) (st := st) (p := p) (W := W) (s4 := .ac (zbi R)) (s5 := .pl (.int (x : Int))) (s7 := t7) (s8 := t8) hp3 (by unfold szB at sz; omega) (by omega) ok (hb.mono (by omega))
      obtain ⟨bs1, k1⟩ := zakg (R := R) (env := bkE (.pl (.int (p : Int))) (.pl (.int (W.length : Int))) (.ac (webD W)) (.ac (zbi R)) (.pl (.int (x : Int))) (.ac (zak ks)) u7 u8) rfl (by omega)
      have tup : eCB zlk (zad (eVar 6) aNil) (bkE (.pl (.int (p : Int))) (.pl (.int (W.length : Int))) (.ac (webD W)) (.ac (zbi R)) (.pl (.int (x : Int))) (.ac (zak ks)) u7 u8) = some ⟨zai ks, false, [6]⟩ := rfl
      have tA : bkA (bkE (.pl (.int (p : Int))) (.pl (.int (W.length : Int))) (.ac (webD W)) (.ac (zbi R)) (.pl (.int (x : Int))) (.ac (zak ks)) u7 u8) sa = some (!decide (ks ∈ R.map (·.2)), sa) :=
        zif (zjs (zfx tup k1 (zann (neg := true) (fun y hy => by
          obtain ⟨q, hq, rfl⟩ := List.mem_map.mp hy
          exact (rok.kin q hq).1) lo)))
      have hpre1 : (pre ++ [x]).length = pre.length + 1 := by simp
      by_cases hm : ks ∈ R.map (·.2)
      · rw [decide_eq_true hm] at tA
        refine ⟨_, _, sa, rfl, zba rfl (zba ea (zzw tA rfl)), R, _, _, _, _, rfl, by omega, ⟨fun q hq => ⟨(rok.low q hq).1, by rw [hpre1]; have := (rok.low q hq).2; omega⟩, rok.kin⟩, by rw [hpre1]; exact pa.mono (by omega), rin⟩
      · rw [decide_eq_false hm] at tA
        obtain ⟨w, sb, eb, lw, nw, pb, mw⟩ := zale (A := R.map (·.1)) (L := 8 * pre.length) pa (by rw [List.length_map]; omega) (fun y hy => by
          obtain ⟨q, hq, rfl⟩ := List.mem_map.mp hy
          exact rok.low q hq) (by omega)
        have vB : rTup (zbq (zbo 2 zel (zbq (zaq (zdq ["_law_rule"] [] (zas (eVar 4)) (gN 0) zca (eIxV 0 (eC (.int 0))))) rNil)) (zbq (zaq (eCB zlk (zad (eVar 6) aNil))) rNil)) (bkE (.pl (.int (p : Int))) (.pl (.int (W.length : Int))) (.ac (webD W)) (.ac (zbi R)) (.pl (.int (x : Int))) (.ac (zak ks)) u7 u8) sa = some (⟨zcq (w, ks), false, [6]⟩, sb) := by
          unfold rTup
          have n0 := zadu (R := R) (env := bkE (.pl (.int (p : Int))) (.pl (.int (W.length : Int))) (.ac (webD W)) (.ac (zbi R)) (.pl (.int (x : Int))) (.ac (zak ks)) u7 u8) rfl (by omega)
          have n1 := zev (T := Pen) (g := rNil) (xs := []) (s2 := sa) (zcn (st := sa) n0) rfl
          have n2 := zkj (n := 2) (g := zel) n1 rfl eb
          have n3 := zev (T := Pen) n2 (zev (T := Pen) (g := rNil) (xs := []) (s2 := sb) (zcn (st := sb) tup) rfl)
          rw [n3]
          rfl
        refine ⟨_, bkE (.pl (.int (p : Int))) (.pl (.int (W.length : Int))) (.ac (webD W)) (.ac (zbi (R ++ [(w, ks)]))) (.pl (.int (x : Int))) (.pl (zak ks)) u7 u8, sb, rfl, zba rfl (zba ea (zadg tA ((zoq (i := 4) (ds := R.map zcq) rfl vB (by rw [List.length_map]; omega) (by decide)).trans ?_))), R ++ [(w, ks)], _, _, _, _, rfl, by rw [hpre1, List.length_append]; simp; exact hR, ⟨fun q hq => ?_, fun q hq => ?_⟩, by rw [hpre1]; exact pb, ⟨fun q hq => (List.mem_append.mp hq).elim (rin.kinds q) fun z => by rw [List.mem_singleton.mp z]; exact ⟨kin, kl⟩, by rw [List.map_append]; exact nd_snoc rin.nd1 mw, by rw [List.map_append]; exact nd_snoc rin.nd2 hm⟩⟩
        · show _ = some (OutR.nx [.no, .pl (.int (p : Int)), .pl (.int (W.length : Int)), .ac (webD W), .ac (zbi (R ++ [(w, ks)])), .pl (.int (x : Int)), .pl (zak ks), u7, u8] sb)
          rw [show zbi (R ++ [(w, ks)]) = .list (R.map zcq ++ [zcq (w, ks)]) by unfold zbi; rw [List.map_append]; rfl]
          rfl
        · rw [hpre1]
          rcases List.mem_append.mp hq with hq | hq
          · exact ⟨(rok.low q hq).1, by have := (rok.low q hq).2; omega⟩
          · cases List.mem_singleton.mp hq
            exact ⟨lw, by show w.length ≤ _; omega⟩
        · rcases List.mem_append.mp hq with hq | hq
          · exact rok.kin q hq
          · cases List.mem_singleton.mp hq
            exact ⟨lo, by show ks.length ≤ 3; omega⟩)
  rw [List.length_range] at hR rok hb
  refine ⟨W, p, R, s', zxn (env := bkE .no .no .no .no .no .no .no .no) rfl ?_, sz, ok, ⟨fun q hq => ⟨(rok.low q hq).1, by have := (rok.low q hq).2; omega⟩, rok.kin⟩, by omega, hb.mono (by omega), wok, rin⟩
  refine zba f1 (zba f2 (zba f3 (zba f4 (zba (e1 := bkE (.pl (.int (p : Int))) (.pl (.int (W.length : Int))) (.ac (webD W)) (.ac (zbi [])) .no .no .no .no) (s1 := s4) rfl (zba (zri it lp) (zzv (bs := [3, 4]) (zcn (r := ⟨zat W p R, false, [3, 4]⟩) ?_)))))))
  rfl
end Bc
namespace Bc
open PySem L2
noncomputable def SmOk : Nat → PyData → Prop
  | 0, _ => False
  | _ + 1, .str _ => True
  | _ + 1, .int _ => True
  | n + 1, .list ds => ds.length < 100000 ∧ ∀ d ∈ ds, SmOk n d
  | n + 1, .tuple ds => ds.length < 100000 ∧ ∀ d ∈ ds, SmOk n d
  | _ + 1, _ => False
theorem zakh (ds : List PyData) : List.zipWith (fun d e => PyData.tuple [d, e]) ds ds = ds.map fun d => .tuple [d, d] := by
  induction ds with
  | nil => rfl
  | cons d ds ih => rw [List.zipWith_cons_cons, ih]; rfl
noncomputable abbrev smC (G : GF) : EF := eCB (anyD fun bs => bs.all id) (zad (zdq ["_law_one", "_law_two"] [] (znv (zad (eVar 0) (zad (eVar 1) aNil))) (gT 2 (zau 0 (zau 1 zea))) zca (zbd 2 G (zad (eVar 0) (zad (eVar 1) aNil)))) aNil)
theorem zuj {G : GF} {d : PyData} {ds : List PyData} (hi : zgo d = some ds) (hl : ds.length < 100000) (h : ∀ x ∈ ds, G [x, x] = some (.bool true, false)) : smC G [.pl d, .pl d] = some (vb true) := by
  have it : znv (zad (eVar 0) (zad (eVar 1) aNil)) [.pl d, .pl d] = some (ds.map fun d => .tuple [d, d], []) := by
    unfold znv
    rw [zcm (r := ⟨d, false, []⟩) rfl (zgv (r := ⟨d, false, []⟩) rfl)]
    show ((zgo d).bind _) = _
    rw [hi]
    show some (List.zipWith (fun d e => PyData.tuple [d, e]) ds ds, _) = _
    rw [zakh]; rfl
  have cm : zdk (gT 2 (zau 0 (zau 1 zea))) zca (zbd 2 G (zad (eVar 0) (zad (eVar 1) aNil))) (envB ["_law_one", "_law_two"] [] [.pl d, .pl d]) (ds.map fun d => .tuple [d, d]) = some (ds.map fun _ => .bool true) :=
    zcf fun x hx => ⟨[.pl x, .pl x], rfl, rfl, _, zbm (n := 2) (rs := [⟨x, false, []⟩, ⟨x, false, []⟩]) (zcm rfl (zgv rfl)) rfl (h x hx), rfl⟩
  show eCB _ _ _ = _
  unfold eCB
  rw [zgv (zdy it (by rw [List.length_map]; exact hl) cm)]
  show ((anyD (fun bs => bs.all id) [.list (ds.map fun _ => .bool true)]).bind _) = _
  have : anyD (fun bs => bs.all id) [.list (ds.map fun _ => .bool true)] = some (.bool true, false) := by
    unfold anyD
    show ((zor (ds.map fun x => PyData.bool ((fun _ => true) x))).map _) = _
    rw [zmu]
    show some (PyData.bool ((ds.map fun _ => true).all id), false) = _
    rw [show ((ds.map fun _ => true).all id) = true by rw [List.all_eq_true]; intro b hb; obtain ⟨_, _, rfl⟩ := List.mem_map.mp hb; rfl]
  rw [this]; rfl
theorem zasg (x : Str) : eqD (.str x) (.str x) = some (.bool true, false) := by
  unfold eqD eqOk
  rw [show zww (.str x) (.str x) = true from rfl, Bool.true_or, if_pos rfl]
  simp [PyData.eqv]
theorem zash (x : Int) : eqD (.int x) (.int x) = some (.bool true, false) := by
  unfold eqD eqOk
  rw [show zww (.int x) (.int x) = true from rfl, Bool.true_or, if_pos rfl]
  simp [PyData.eqv]
theorem zkx : ∀ (n : Nat) (d : PyData), SmOk n d → zfc n [d, d] = some (.bool true, false)
  | 0, _, h => h.elim
  | n + 1, d, h => by
    show fnD 2 (zod (zfc n)) [d, d] = _
    refine zhx (env := [.pl d, .pl d]) rfl ?_
    cases d with
    | str x =>
      refine zxo (if_t rfl (zfu (bs := []) ?_))
      unfold eAnd
      rw [show eIsi "str" (eVar 1) [.pl (.str x), .pl (.str x)] = some (vb true) from rfl, zfx (x := vs x) (y := vs x) rfl rfl (zasg x)]
      rfl
    | int x =>
      refine zbv (if_f rfl rfl) (zbv (if_f rfl rfl) (zbv (if_f rfl rfl) (zfu (bs := []) ?_)))
      unfold eAnd
      rw [show eIsi "int" (eVar 1) [.pl (.int x), .pl (.int x)] = some (vb true) from rfl, show eNot (eIsi "bool" (eVar 1)) [.pl (.int x), .pl (.int x)] = some (vb true) from rfl, zfx (x := vi x) (y := vi x) rfl rfl (zash x)]
      rfl
    | list ds =>
      obtain ⟨h1, h2⟩ := h
      refine zbv (if_f rfl rfl) (zxo (if_t rfl (zbv (if_f ?_ rfl) (zfu (bs := []) (zuj (d := .list ds) rfl h1 fun x hx => zkx n x (h2 x hx))))))
      unfold tOrF
      rw [show zkg (tTru (eIsi "list" (eVar 1))) [.pl (.list ds), .pl (.list ds)] = some false from rfl, zjs (zfx (x := vi (ds.length : Int)) (y := vi (ds.length : Int)) rfl rfl (zrj _))]
      rfl
    | tuple ds =>
      obtain ⟨h1, h2⟩ := h
      refine zbv (if_f rfl rfl) (zbv (if_f rfl rfl) (zxo (if_t rfl (zbv (if_f ?_ rfl) (zfu (bs := []) (zuj (d := .tuple ds) rfl h1 fun x hx => zkx n x (h2 x hx)))))))
      unfold tOrF
      rw [show zkg (tTru (eIsi "tuple" (eVar 1))) [.pl (.tuple ds), .pl (.tuple ds)] = some false from rfl, zjs (zfx (x := vi (ds.length : Int)) (y := vi (ds.length : Int)) rfl rfl (zrj _))]
      rfl
    | _ => exact h.elim
theorem zaba {n : Nat} {xs : List Str} : ∀ d ∈ xs.map PyData.str, SmOk (n + 1) d := fun d hd => by
  obtain ⟨x, _, rfl⟩ := List.mem_map.mp hd
  trivial
theorem zanq {W : Web} {p : Nat} {R : List Rule} (hW : W.length ≤ 100) (few : ∀ q ∈ W, q.2.length ≤ 100) (hR : R.length ≤ 100) (hk : ∀ r ∈ R, r.2.length ≤ 3) : SmOk 7 (zat W p R) := by
  refine ⟨by show 3 < 100000; decide, fun d hd => ?_⟩
  rcases List.mem_cons.mp hd with rfl | hd
  · refine ⟨by rw [List.length_map]; omega, fun d hd => ?_⟩
    obtain ⟨q, hq, rfl⟩ := List.mem_map.mp hd
    refine ⟨by show 2 < 100000; decide, fun d hd => ?_⟩
    rcases List.mem_cons.mp hd with rfl | hd
    · trivial
    · rw [List.mem_singleton.mp hd]
      exact ⟨by rw [List.length_map]; have := few q hq; omega, zaba⟩
  · rcases List.mem_cons.mp hd with rfl | hd
    · trivial
    · rw [List.mem_singleton.mp hd]
      refine ⟨by rw [List.length_map]; omega, fun d hd => ?_⟩
      obtain ⟨r, hr, rfl⟩ := List.mem_map.mp hd
      refine ⟨by show 2 < 100000; decide, fun d hd => ?_⟩
      rcases List.mem_cons.mp hd with rfl | hd
      · trivial
      · rw [List.mem_singleton.mp hd]
        exact ⟨by rw [List.length_map]; have := hk r hr; omega, zaba⟩
theorem zalf {a : AF} {env : DEnv} {rs : List Val} (h : a env = some rs) (hl : rs.length ≤ 100000) : eTup a env = some ⟨.tuple (zio rs), false, bss rs⟩ := by
  unfold eTup; rw [h, Option.bind_some, if_pos hl]
theorem zara {W : Web} {p : Nat} {R : List Rule} (hW : W.length ≤ 100) : ziw [zat W p R] = some (zat W p R, false) := by
  have i0 : eIxV 0 (eC (.int 0)) [.pl (zat W p R)] = some ⟨webD W, false, []⟩ := rfl
  have i1 : eIxV 0 (eC (.int 1)) [.pl (zat W p R)] = some (vi (p : Int)) := rfl
  have i2 : eCB zuv (zad (eIxV 0 (eC (.int 2))) aNil) [.pl (zat W p R)] = some ⟨zbi R, true, []⟩ := rfl
  have it : zas (eIxV 0 (eC (.int 0))) [.pl (zat W p R)] = some (W.map rowD, []) := by
    unfold zas
    rw [i0]; rfl
  have cm : zdk (gT 2 (zau 0 (zau 1 zea))) zca (eTup (zad (eVar 0) (zad (eCB zuv (zad (eVar 1) aNil)) aNil))) (envB ["_law_name_here", "_law_elders"] [] [.pl (zat W p R)]) (W.map rowD) = some (W.map rowD) :=
    zcf fun q hq => ⟨[.pl (.str q.1), .pl (zak q.2)], rfl, rfl, ⟨rowD q, false, []⟩, rfl, rfl⟩
  refine zhx (env := [.pl (zat W p R)]) rfl ?_
  have ec : ∃ bs, zdq ["_law_name_here", "_law_elders"] [] (zas (eIxV 0 (eC (.int 0)))) (gT 2 (zau 0 (zau 1 zea))) zca (eTup (zad (eVar 0) (zad (eCB zuv (zad (eVar 1) aNil)) aNil))) [.pl (zat W p R)] = some ⟨webD W, true, bs⟩ := ⟨_, zdy it (by rw [List.length_map]; omega) cm⟩
  obtain ⟨bs, ec⟩ := ec
  exact zfu (zalf (zcm ec (zcm i1 (zgv i2))) (by show 3 ≤ 100000; decide))
noncomputable def zce (A : List Str) : Nat → List (List Str)
  | 0 => [[]]
  | j + 1 => (zce A j).flatMap fun a => A.map fun x => a ++ [x]
noncomputable def dig (A : List Str) : Nat → Nat → List Str
  | 0, _ => []
  | j + 1, k => dig A j (k / A.length) ++ [A.getD (k % A.length) ""]
theorem zwd (A : List Str) : ∀ (j k : Nat), (dig A j k).length = j
  | 0, _ => rfl
  | j + 1, k => by show (dig A j (k / A.length) ++ [A.getD (k % A.length) ""]).length = _; rw [List.length_append, zwd A j]; rfl
theorem zaki (A : List Str) {β : Type} (g : Str → β) : A.map g = (List.range A.length).map fun i => g (A.getD i "") := by
  refine List.ext_getElem (by simp) fun i h1 h2 => ?_
  rw [List.length_map] at h1
  simp [List.getD_eq_getElem?_getD, h1]
theorem zuk (A : List Str) (h : 0 < A.length) {β : Type} (f : Nat → Str → β) : ∀ M : Nat, ((List.range M).flatMap fun i => A.map fun x => f i x) = (List.range (M * A.length)).map fun k => f (k / A.length) (A.getD (k % A.length) "")
  | 0 => by simp
  | M + 1 => by
    rw [List.range_succ, List.flatMap_append, zuk A h f M, Nat.add_mul, Nat.one_mul, List.range_add, List.map_append, List.map_map]
    congr 1
    rw [List.flatMap_cons, List.flatMap_nil, List.append_nil, zaki]
    refine List.map_congr_left fun i hi => ?_
    have hi : i < A.length := List.mem_range.mp hi
    show f M _ = f ((M * A.length + i) / A.length) (A.getD ((M * A.length + i) % A.length) "")
    rw [Nat.mul_comm M, Nat.mul_add_div h, Nat.mul_add_mod, Nat.div_eq_of_lt hi, Nat.mod_eq_of_lt hi, Nat.add_zero]
theorem zng (A : List Str) (h : 0 < A.length) : ∀ j : Nat, zce A j = (List.range (A.length ^ j)).map (dig A j)
  | 0 => rfl
  | j + 1 => by
    show ((zce A j).flatMap fun a => A.map fun x => a ++ [x]) = _
    rw [zng A h j, List.flatMap_map, zuk A h (fun i x => dig A j i ++ [x]), Nat.pow_succ]
    rfl
theorem zlf (A : List Str) (h : 0 < A.length) (j : Nat) : (zce A j).length = A.length ^ j := by rw [zng A h]; simp
theorem zakj {a : List Str} {x : Str} {env : DEnv} (h0 : env[0]? = some (.pl (zai a))) (h1 : env[1]? = some (.pl (.str x))) (hl : a.length ≤ 100) : eOp addE (eVar 0) (eTup (zad (eVar 1) aNil)) env = some ⟨zai (a ++ [x]), false, []⟩ := by
  have e0 : eVar 0 env = some ⟨zai a, false, []⟩ := by unfold eVar; rw [h0]
  have e1 : eTup (zad (eVar 1) aNil) env = some ⟨zai [x], false, []⟩ := by
    unfold eTup
    rw [zgv (r := vs x) (by unfold eVar; rw [h1])]; rfl
  refine zfx e0 e1 ?_
  cases a with
  | nil => rfl
  | cons b a =>
    show addD (.tuple ((b :: a).map .str)) (.tuple [.str x]) = _
    unfold addD
    dsimp only
    rw [if_pos ⟨rfl, by rw [List.length_map]; simp at hl ⊢; omega⟩]
    unfold zai
    rw [List.map_append]; rfl
theorem zadv {A : List Str} (h : 0 < A.length) (hl : A.length ≤ 100) {p : Nat} (hp : p ≤ 3) (hs : ∀ j, j ≤ p → A.length ^ j < 300) : zlc [.list (List.replicate p (zak A))] = some (.list ((zce A p).map zai), true) := by
  have hm : (List.replicate p (zak A)) = (List.range p).map fun _ => zak A := by
    refine List.ext_getElem (by simp) fun i h1 h2 => by simp
  rw [hm]
  obtain ⟨e', lp, s2, rfl⟩ := zft (enc := fun (_ : Nat) => zak A) (g := gN 2) (l := List.range p) (env := [.pl (.list ((List.range p).map fun _ => zak A)), .ac (.list ((zce A 0).map zai)), .no])
    (body := (sSet 1 (zqu ["ahead", "thing"] [2] (zas (eVar 1)) (gN 0) zca (zas (eVar 2)) (gN 1) zca (eOp addE (eVar 0) (eTup (zad (eVar 1) aNil))))))
    (fun pre env => ∃ s2, env = [.pl (.list ((List.range p).map fun _ => zak A)), .ac (.list ((zce A pre.length).map zai)), s2]) ⟨.no, rfl⟩ (by
      rintro pre x post env hpre ⟨s2, rfl⟩
      have hlen : pre.length + 1 ≤ p := by
        have := congrArg List.length hpre
        rw [List.length_append, List.length_cons, List.length_range] at this
        omega
      have cm : zjq (gN 0) zca (zas (eVar 2)) (gN 1) zca (eOp addE (eVar 0) (eTup (zad (eVar 1) aNil))) [.no, .no, .pl (zak A)] ((zce A pre.length).map zai) = some ((zce A pre.length).flatMap fun a => A.map fun x => zai (a ++ [x])) :=
        zmb fun a ha => ⟨[.pl (zai a), .no, .pl (zak A)], rfl, rfl, by
          have al : a.length ≤ 100 := by
            rw [zng A h] at ha
            obtain ⟨k, _, rfl⟩ := List.mem_map.mp ha
            rw [zwd]; omega
          unfold innL
          rw [show zas (eVar 2) [.pl (zai a), .no, .pl (zak A)] = some (A.map .str, []) from rfl, Option.bind_some, if_pos (by rw [List.length_map]; omega)]
          exact zcf fun x hx => ⟨[.pl (zai a), .pl (.str x), .pl (zak A)], rfl, rfl, _, zakj rfl rfl al, rfl⟩⟩
      have ex := zace (own := ["ahead", "thing"]) (fr := [2]) (env := [.pl (.list ((List.range p).map fun _ => zak A)), .ac (.list ((zce A pre.length).map zai)), .pl (zak A)]) (fi := zas (eVar 1)) (ds := (zce A pre.length).map zai) (bs := [1]) rfl (by rw [List.length_map, zlf A h]; exact hs _ (by omega)) cm
      have et : ((zce A pre.length).flatMap fun a => A.map fun x => zai (a ++ [x])) = (zce A (pre ++ [x]).length).map zai := by
        rw [List.length_append]
        show _ = ((zce A pre.length).flatMap fun a => A.map fun x => a ++ [x]).map zai
        rw [List.map_flatMap]
        congr 1
        funext a
        rw [List.map_map]; rfl
      rw [et] at ex
      refine ⟨_, [.pl (.list ((List.range p).map fun _ => zak A)), .ac (.list ((zce A (pre ++ [x]).length).map zai)), .pl (zak A)], rfl, .inl ((ztg ex).trans ?_), _, rfl⟩
      unfold putV
      dsimp only
      split <;> rfl)
  rw [List.length_range] at lp
  exact zhx (env := [.pl (.list ((List.range p).map fun _ => zak A)), .no, .no]) rfl (zbv (e1 := [.pl (.list ((List.range p).map fun _ => zak A)), .ac (.list ((zce A 0).map zai)), .no]) rfl (zbv (zhd (fr := false) (bs := []) rfl lp) rfl))
theorem rep1 (d : PyData) (p : Nat) : (List.replicate p [d]).flatten = List.replicate p d := by
  induction p with
  | zero => rfl
  | succ p ih => rw [List.replicate_succ, List.flatten_cons, ih]; rfl
theorem zabb {W : Web} {p : Nat} {R : List Rule} (sz : szB p W.length) : zia [zat W p R] = some (.list ((zce (nm W) p).map zai), true) := by
  have hn : (nm W).length = W.length := List.length_map ..
  have hW : 1 ≤ W.length ∧ W.length ≤ 10 ∧ p ≤ 3 := by unfold szB at sz; omega
  have pw : ∀ j, j ≤ p → (nm W).length ^ j < 300 := fun j hj => by
    rw [hn]
    exact Nat.lt_of_le_of_lt (Nat.le_trans (Nat.pow_le_pow_right hW.1 hj) sz.pow) (by decide)
  have c1 : zex [webD W, .int (p : Int)] = some (.list ((zce (nm W) p).map zai), true) := by
    · have l1 : eLst (zad (zbd 1 zhh (zad (eVar 0) aNil)) aNil) [.pl (webD W), .pl (.int (p : Int))] = some ⟨.list [zak (nm W)], true, []⟩ := by
        unfold eLst
        rw [zgv (zbm (n := 1) (rs := [⟨webD W, false, []⟩]) rfl rfl (zth (by omega)))]
        rfl
      have r1 : repD (.list [zak (nm W)]) (.int (p : Int)) = some (.list (List.replicate p (zak (nm W))), true) := by
        unfold repD
        dsimp only
        rw [if_pos ⟨by omega, by omega, by simp⟩, Int.toNat_natCast, rep1]
      have o1 := zfx (b := eVar 1) l1 (y := vi (p : Int)) rfl r1
      exact zhx (env := [.pl (webD W), .pl (.int (p : Int))]) rfl (zfu (zbm (n := 1) (zgv o1) rfl (zadv (by rw [hn]; exact hW.1) (by rw [hn]; omega) hW.2.2 pw)))
  refine zhx (env := [.pl (zat W p R), .no, .no, .no]) rfl (zbv (e1 := [.pl (zat W p R), .pl (webD W), .pl (.int (p : Int)), .pl (zbi R)]) rfl (zfu (zbm (n := 2) (rs := [⟨webD W, false, []⟩, vi (p : Int)]) (zcm rfl (zgv rfl)) rfl c1)))
end Bc
namespace Bc
open PySem L2
theorem zul : ∀ {ms ks : List Str}, ms.Nodup → ms.foldl insS ks = ks ++ ms.filter fun x => !decide (x ∈ ks)
  | [], ks, _ => by simp
  | m :: ms, ks, h => by
    obtain ⟨hm, hn⟩ := List.nodup_cons.mp h
    rw [List.foldl_cons, zul hn]
    unfold insS
    by_cases hk : m ∈ ks
    · rw [if_pos hk, List.filter_cons_of_neg (by simpa using hk)]
    · rw [if_neg hk, List.filter_cons_of_pos (by simpa using hk), List.append_assoc]
      congr 1
      show m :: _ = m :: _
      congr 1
      refine List.filter_congr fun x hx => ?_
      have : x ≠ m := fun z => hm (z ▸ hx)
      simp [this]
theorem zahk (f : List Str → PyData) {l : List (Str × List Str)} {n : Str} {ks ks' : List Str} (h : n ∉ l.map (·.1)) : znp (dS f (l ++ [(n, ks)])) (.str n) (f ks') = dS f (l ++ [(n, ks')]) := by
  unfold znp dS
  rw [if_pos, List.map_append, List.map_append, List.map_append]
  · congr 1
    · rw [List.map_map]
      refine List.map_congr_left fun p hp => ?_
      show (if keyD (PyData.str p.1) = keyD (.str n) then _ else _) = _
      rw [if_neg (show ¬ keyD (PyData.str p.1) = keyD (.str n) from fun z => h (List.mem_map.mpr ⟨p, hp, Sum.inr.inj (Option.some.inj z)⟩))]
    · show [if keyD (PyData.str n) = keyD (.str n) then _ else _] = _
      rw [if_pos rfl]; rfl
  · rw [List.any_map, List.any_eq_true]
    exact ⟨(n, ks), by simp, decide_eq_true rfl⟩
theorem zanr {V : Web} {e : Str} {p : Str × List Str} (he : e ∈ nm V) : (ups V ++ [p]).lookup e = some (upL (ups V) e) := by
  obtain ⟨ks, lk, _⟩ := zhy (l := ups V) (n := e) (by rw [zew]; exact he)
  rw [zek, lk]
  unfold upL
  rw [lk]; rfl
noncomputable abbrev u8E (W : Web) (l : List (Str × List Str)) (s2 s3 s4 : Sl) : DEnv := [.pl (webD W), .ac (.dict (dS zak l)), s2, s3, s4]
noncomputable abbrev u8B : SF := sPut 1 (eVar 2) (eOp addD (zcz 1 (eVar 2)) (zdq ["_law_one"] [1, 2] (zas (zcz 1 (eVar 4))) (gN 0) (zcy (eOp (inD true) (eVar 0) (zcz 1 (eVar 2)))) (eVar 0)))
theorem zaco {i : Nat} {fk fv : EF} {env : DEnv} {kvs : List (PyData × PyData)} {k : Str} {fr1 fr2 : Bool} {b1 : List Nat} {d : PyData} (he : env[i]? = some (.ac (.dict kvs))) (hv : fv env = some ⟨d, fr2, []⟩) (hk : fk env = some ⟨.str k, fr1, b1⟩) (hl : kvs.length < 100000) : sPut i fk fv env = some (.nx (env.set i (.ac (.dict (znp kvs (.str k) d))))) := by
  unfold sPut
  rw [he]
  show ((fv env).bind _) = _
  rw [hv]
  show ((fk env).bind _) = _
  rw [hk]
  show (if _ ∧ _ then _ else _) = _
  rw [if_pos ⟨hl, by simp⟩]; rfl
theorem zakk {i : Nat} {b : EF} {env : DEnv} {l : List (Str × List Str)} {n : Str} {ks : List Str} {fr : Bool} {bs : List Nat} (he : env[i]? = some (.ac (.dict (dS zak l))) ∨ env[i]? = some (.pl (.dict (dS zak l)))) (hb : b env = some ⟨.str n, fr, bs⟩) (hl : l.lookup n = some ks) : zcz i b env = some ⟨zak ks, false, []⟩ := by
  unfold zcz
  rcases he with he | he
  · rw [he]
    show ((b env).bind _) = _
    rw [hb]
    show ((zlg (dS zak l) (Sum.inr n)).bind _) = _
    rw [zoc, hl]; rfl
  · rw [he]
    show ((b env).bind _) = _
    rw [hb]
    show ((zlg (dS zak l) (Sum.inr n)).bind _) = _
    rw [zoc, hl]; rfl
theorem zarb {W : Web} (h : WebOk W) : zii [webD W] = some (.dict (dS zak (ups W)), true) := by
  obtain ⟨e', lp, s2, s3, s4, rfl⟩ := zft (enc := rowD) (g := gT 2 (zau 2 (zau 3 zea))) (l := W) (env := u8E W (ups []) .no .no .no)
    (body := (sSeq (sPut 1 (eVar 2) (eLst (zad (eVar 2) aNil))) (sFor (zas (eVar 3)) (gN 4) u8B)))
    (fun pre env => ∃ s2 s3 s4, env = u8E W (ups pre) s2 s3 s4) ⟨_, _, _, rfl⟩ (by
      rintro pre p post env hp ⟨s2, s3, s4, rfl⟩
      have hV : WebOk (pre ++ [p]) := zxq (post := post) (by rw [← zaca hp]; exact h)
      obtain ⟨hV', hn, hel, hfew⟩ := zit hV
      have hnk : p.1 ∉ (ups pre).map (·.1) := by rw [zew]; exact hn
      have lz : ∀ z, (dS zak (ups pre ++ [z])).length < 100000 := fun z => by
        unfold dS
        rw [List.length_map, List.length_append, ← List.length_map (f := (·.1)), zew]
        have := zqe hV'
        simp
        omega
      have lz0 : (dS zak (ups pre)).length < 100000 := by
        unfold dS
        rw [List.length_map, ← List.length_map (f := (·.1)), zew]
        have := zqe hV'
        omega
      have st : sPut 1 (eVar 2) (eLst (zad (eVar 2) aNil)) (u8E W (ups pre) (.pl (.str p.1)) (.pl (zak p.2)) s4) = some (.nx (u8E W (ups pre ++ [(p.1, [p.1])]) (.pl (.str p.1)) (.pl (zak p.2)) s4)) := by
        rw [zaco (kvs := dS zak (ups pre)) (k := p.1) (d := zak [p.1]) (fr1 := false) (fr2 := true) (b1 := []) rfl rfl rfl lz0, zagt zak hnk]; rfl
      obtain ⟨e1, l1, t4, rfl⟩ := zft (enc := fun x : Str => PyData.str x) (g := gN 4) (l := p.2) (body := u8B) (env := u8E W (ups pre ++ [(p.1, [p.1])]) (.pl (.str p.1)) (.pl (zak p.2)) s4)
        (fun q env => ∃ t4, env = u8E W (ups pre ++ [(p.1, q.foldl (fun ks e => (upL (ups pre) e).foldl insS ks) [p.1])]) (.pl (.str p.1)) (.pl (zak p.2)) t4) ⟨s4, rfl⟩ (by
          rintro q e post2 env hq ⟨t4, rfl⟩
          have he : e ∈ nm pre := hel e (by rw [← hq]; simp)
          generalize hks : q.foldl (fun ks e => (upL (ups pre) e).foldl insS ks) [p.1] = ks
          have lku : (ups pre ++ [(p.1, ks)]).lookup e = some (up pre e) := zanr he
          have lkn : (ups pre ++ [(p.1, ks)]).lookup p.1 = some ks := by
            rw [zek, zlz hnk]; simp
          have d1 : zcz 1 (eVar 2) (u8E W (ups pre ++ [(p.1, ks)]) (.pl (.str p.1)) (.pl (zak p.2)) (.pl (.str e))) = some ⟨zak ks, false, []⟩ := zakk (.inl rfl) (fr := false) (bs := []) rfl lkn
          have d2 : zcz 1 (eVar 4) (u8E W (ups pre ++ [(p.1, ks)]) (.pl (.str p.1)) (.pl (zak p.2)) (.pl (.str e))) = some ⟨zak (up pre e), false, []⟩ := zakk (.inl rfl) (fr := false) (bs := []) rfl lku
          have it : zas (zcz 1 (eVar 4)) (u8E W (ups pre ++ [(p.1, ks)]) (.pl (.str p.1)) (.pl (zak p.2)) (.pl (.str e))) = some ((up pre e).map .str, []) := by
            unfold zas
            rw [d2]; rfl
          have cm : zdk (gN 0) (zcy (eOp (inD true) (eVar 0) (zcz 1 (eVar 2)))) (eVar 0) (envB ["_law_one"] [1, 2] (u8E W (ups pre ++ [(p.1, ks)]) (.pl (.str p.1)) (.pl (zak p.2)) (.pl (.str e)))) ((up pre e).map .str) = some (((up pre e).filter fun x => !decide (x ∈ ks)).map .str) :=
            zeh (fun x => !decide (x ∈ ks)) fun x hx => ⟨[.pl (.str x), .pl (.dict (dS zak (ups pre ++ [(p.1, ks)]))), .pl (.str p.1)], rfl, zjs (e_in (neg := true) rfl (zakk (.inr rfl) (fr := false) (bs := []) rfl lkn)), fun _ => ⟨_, rfl, rfl⟩⟩
          have ul := zags hV' e
          have cp := zdy (own := ["_law_one"]) (fr := [1, 2]) it (by rw [List.length_map]; omega) cm
          rw [if_pos (zoa _)] at cp
          have kl : ks.length ≤ 100 := by
            have sub : ∀ x ∈ ks, x ∈ nm (pre ++ [p]) := fun x hx => by
              rw [← hks] at hx
              rw [zob]
              rcases zvj.mp hx with z | ⟨e', _, z⟩
              · exact List.mem_append_right _ (by simpa using z)
              · exact List.mem_append_left _ (zabz hV' z)
            have := zim _ _ (by rw [← hks]; exact zaby (acc := ups pre) (es := q) (ks := [p.1]) (by simp)) sub
            have := zqe hV
            omega
          have fl : ((up pre e).filter fun x => !decide (x ∈ ks)).length ≤ 12 := Nat.le_trans (List.length_filter_le _ _) ul
          have ad := zaqw (a := zcz 1 (eVar 2)) d1 (y := (up pre e).filter fun x => !decide (x ∈ ks)) cp (by omega)
          refine ⟨_, u8E W (ups pre ++ [(p.1, (q ++ [e]).foldl (fun ks e => (upL (ups pre) e).foldl insS ks) [p.1])]) (.pl (.str p.1)) (.pl (zak p.2)) (.pl (.str e)), rfl, .inl ?_, _, rfl⟩
          refine (zaco (kvs := dS zak (ups pre ++ [(p.1, ks)])) (k := p.1) (fr1 := false) (b1 := []) rfl ad rfl (lz _)).trans ?_
          rw [zahk zak hnk, List.foldl_append, hks]
          show _ = some (Out.nx (u8E W (ups pre ++ [(p.1, (up pre e).foldl insS ks)]) _ _ _))
          rw [zul (zaqm (W := pre) (n := e))]
          rfl)
      refine ⟨_, u8E W (ups (pre ++ [p])) (.pl (.str p.1)) (.pl (zak p.2)) t4, rfl, .inl (zbv st (zhd (fr := false) (bs := []) rfl (l1.trans ?_))), _, _, _, rfl⟩
      rw [zjl]; rfl)
  exact zhx (env := [.pl (webD W), .no, .no, .no, .no]) rfl (zbv (e1 := u8E W (ups []) .no .no .no) rfl (zbv (zhd (fr := false) (bs := []) rfl lp) rfl))
noncomputable def onB (W : Web) (cs ks : List Str) : Bool := (cs.zip ks).all fun z => decide (z.2 ∈ up W z.1)
theorem zalg {W : Web} (h : WebOk W) {cs ks : List Str} (hc : ∀ c ∈ cs, c ∈ nm W) (hl : cs.length ≤ 100) : zco [.dict (dS zak (ups W)), zai cs, zai ks] = some (.bool (onB W cs ks), false) := by
  have it : znv (zad (eVar 1) (zad (eVar 2) aNil)) [.pl (.dict (dS zak (ups W))), .pl (zai cs), .pl (zai ks)] = some ((cs.zip ks).map fun z => PyData.tuple [.str z.1, .str z.2], []) := by
    show some (List.zipWith (fun d e => PyData.tuple [d, e]) (cs.map .str) (ks.map .str), [] ++ []) = _
    rw [zvl]; rfl
  have cm : zdk (gT 2 (zau 0 (zau 1 zea))) zca (eOp (inD false) (eVar 1) (zcz 2 (eVar 0))) (envB ["_law_arm", "_law_kind"] [0] [.pl (.dict (dS zak (ups W))), .pl (zai cs), .pl (zai ks)]) ((cs.zip ks).map fun z => PyData.tuple [.str z.1, .str z.2]) = some ((cs.zip ks).map fun z => .bool (decide (z.2 ∈ up W z.1))) :=
    zcf fun z hz => by
      have hz1 : z.1 ∈ nm W := hc _ (List.of_mem_zip hz).1
      obtain ⟨us, lk, _⟩ := zhy (l := ups W) (n := z.1) (by rw [zew]; exact hz1)
      have eu : up W z.1 = us := by unfold up upL; rw [lk]; rfl
      refine ⟨[.pl (.str z.1), .pl (.str z.2), .pl (.dict (dS zak (ups W)))], rfl, rfl, _, e_in (neg := false) rfl (zakk (.inr rfl) (fr := false) (bs := []) rfl lk), ?_⟩
      rw [eu]; rfl
  refine zhx (env := [.pl (.dict (dS zak (ups W))), .pl (zai cs), .pl (zai ks)]) rfl (zfu (bs := []) (zank (zdy it ?_ cm)))
  rw [List.length_map, List.length_zip]
  omega
end Bc
namespace Bc
open PySem L2
noncomputable abbrev sdB : SFr (List Int) := rS 0 (sSet 1 (eOp modD (eOp addD (eOp addD (eOp mulD (eVar 1) (eC (.int 48271))) (eOp mulD (eOp modD (eVar 3) (eC (.int 2147483629))) (eOp addD (eOp mulD (eVar 2) (eVar 2)) (eC (.int 3))))) (eC (.int 5))) (eC (.int 2147483647))))
theorem zans (ns : List Int) : ∃ s, ziu ns = some s := by
  obtain ⟨e', s', lp, s, s2, s3, rfl, hs'⟩ := zkk (T := List Int) (enc := fun (z : Int × Nat) => PyData.tuple [.int (z.2 : Int), .int z.1]) (g := gT 2 (zau 2 (zau 3 zea))) (body := sdB) (l := (ns.take 63).zipIdx) (env := [.no, .pl (.int 7), .no, .no]) (st := ns)
    (fun pre env st => ∃ (s : Int) (s2 s3 : Sl), env = [.no, .pl (.int s), s2, s3] ∧ st = ns) ⟨7, .no, .no, rfl, rfl⟩ (by
      rintro pre ⟨c, i⟩ post env st hpre ⟨s, s2, s3, rfl, rfl⟩
      have hi : i < 63 := by
        have hm : (c, i) ∈ (st.take 63).zipIdx := by rw [← hpre]; simp
        have := List.snd_lt_of_mem_zipIdx hm
        have : i < (st.take 63).length := by simpa using this
        have h3 : (st.take 63).length ≤ 63 := by rw [List.length_take]; omega
        omega
      have m0 := Int.emod_nonneg c (show (2147483629 : Int) ≠ 0 by decide)
      have m1 := Int.emod_lt_of_pos c (show (0 : Int) < 2147483629 by decide)
      refine ⟨[.no, .pl (.int s), .pl (.int (i : Int)), .pl (.int c)], [.no, .pl (.int ((s * 48271 + c % 2147483629 * ((i : Int) * (i : Int) + 3) + 5) % 2147483647)), .pl (.int (i : Int)), .pl (.int c)], st, rfl, ?_, _, _, _, rfl, rfl⟩
      have ev : eOp modD (eOp addD (eOp addD (eOp mulD (eVar 1) (eC (.int 48271))) (eOp mulD (eOp modD (eVar 3) (eC (.int 2147483629))) (eOp addD (eOp mulD (eVar 2) (eVar 2)) (eC (.int 3))))) (eC (.int 5))) (eC (.int 2147483647)) [.no, .pl (.int s), .pl (.int (i : Int)), .pl (.int c)] = some (vi ((s * 48271 + c % 2147483629 * ((i : Int) * (i : Int) + 3) + 5) % 2147483647)) := by
        have a1 : eOp mulD (eVar 1) (eC (.int 48271)) [.no, .pl (.int s), .pl (.int (i : Int)), .pl (.int c)] = some (vi (s * 48271)) := zfx (x := vi s) (y := vi 48271) rfl rfl (zwb (by decide) (by decide))
        have a2 : eOp modD (eVar 3) (eC (.int 2147483629)) [.no, .pl (.int s), .pl (.int (i : Int)), .pl (.int c)] = some (vi (c % 2147483629)) := zfx (x := vi c) (y := vi 2147483629) rfl rfl (zui (by decide))
        have a3 : eOp mulD (eVar 2) (eVar 2) [.no, .pl (.int s), .pl (.int (i : Int)), .pl (.int c)] = some (vi ((i : Int) * (i : Int))) := zfx (x := vi (i : Int)) (y := vi (i : Int)) rfl rfl (zwb (by omega) (by omega))
        have a4 : eOp addD (eOp mulD (eVar 2) (eVar 2)) (eC (.int 3)) [.no, .pl (.int s), .pl (.int (i : Int)), .pl (.int c)] = some (vi ((i : Int) * (i : Int) + 3)) := zfx a3 (y := vi 3) rfl rfl
        have mul5 : mulD (.int (c % 2147483629)) (.int ((i : Int) * (i : Int) + 3)) = some (.int (c % 2147483629 * ((i : Int) * (i : Int) + 3)), false) := by
          unfold mulD
          dsimp only
          rw [if_pos (.inl ⟨by omega, by omega⟩)]
        have a5 := zfx a2 a4 mul5
        have a6 := zfx (w := addD) a1 a5 rfl
        have a7 := zfx (w := addD) a6 (b := eC (.int 5)) (y := vi 5) rfl rfl
        exact zfx a7 (b := eC (.int 2147483647)) (y := vi 2147483647) rfl (zui (by decide))
      show rS 0 _ _ _ = _
      unfold rS
      rw [ztg ev]; rfl)
  rw [hs'] at lp
  refine ⟨s, ?_⟩
  have it : zagn (zbq rScr rNil) [.no, .pl (.int 7), .no, .no] ns = some (((ns.take 63).zipIdx).map (fun (z : Int × Nat) => PyData.tuple [.int (z.2 : Int), .int z.1]), [], ns) := by
    unfold zagn
    rw [zev (T := List Int) (g := rNil) (x := ⟨.list ((ns.take 63).map .int), true, []⟩) (xs := []) (s1 := ns) (s2 := ns) rfl rfl]
    show some (zxa ((ns.take 63).map .int), _, _) = _
    have : zxa ((ns.take 63).map .int) = ((ns.take 63).zipIdx).map (fun (z : Int × Nat) => PyData.tuple [.int (z.2 : Int), .int z.1]) := by
      unfold zxa
      rw [List.zipIdx_map, List.map_map]; rfl
    rw [this]
  have run : zmw [.no, .no, .no, .no] ns = some (.nx [.no, .pl (.int s), s2, s3] ns) := zba (e1 := [.no, .pl (.int 7), .no, .no]) (s1 := ns) rfl (zri it lp)
  unfold ziu zajs
  show (match zmw [.no, .no, .no, .no] ns with | some (.nx env st) => _ | _ => _) = _
  rw [run]
  simp only [if_true]
  rfl
theorem zakl {i : Nat} {gk gv : EFr Pen} {env : DEnv} {st s1 s2 : Pen} {ds : List PyData} {x : Val} {z : Int} {fr : Bool} {bs : List Nat} {j : Nat} (he : env[i]? = some (.ac (.list ds))) (hv : gv env st = some (x, s1)) (hk : gk env s1 = some (⟨.int z, fr, bs⟩, s2)) (hj : ixN ds.length z = some j) (hb : i ∉ x.bs) : zadf i gk gv env st = some (.nx ((frzs env x.bs).set i (.ac (.list (ds.set j x.d)))) s2) := by
  unfold zadf
  simp only [he, hv, hk, hj, Option.bind_some]
  rw [if_pos hb]
noncomputable abbrev lwE (s2 s3 s4 s5 s6 : Sl) : DEnv := [.no, .no, s2, s3, s4, s5, s6]
end Bc
namespace Bc
open PySem L2
theorem zant {A : List Str} (h : LowS A) : eqD (zak A) (.list []) = some (.bool A.isEmpty, false) := by
  unfold eqD eqOk
  have s1 := zjo (xs := A) h
  have s2 : SeqAt.shaped (.list []) = true := zjo (xs := []) fun x hx => by cases hx
  rw [s1, s2, if_pos (by simp)]
  cases A with
  | nil => rfl
  | cons a A => rfl
noncomputable abbrev toE (W : Web) (R : List Rule) (cs : List Str) (s3 s4 s5 s6 : Sl) : DEnv := [.pl (.dict (dS zak (ups W))), .pl (zbi R), .pl (zai cs), s3, s4, s5, s6]
noncomputable abbrev toL (W : Web) (R : List Rule) (cs : List Str) : List Rule := R.filter fun r => onB W cs r.2
theorem zakm {W : Web} (h : WebOk W) {R : List Rule} (hr : RulesOk W R) (lo : ∀ r ∈ R, PyData.strOk r.1 = true) (h3 : ∀ r ∈ R, r.2.length ≤ 100) {cs : List Str} (hc : ∀ c ∈ cs, c ∈ nm W) (hl : cs.length ≤ 100) :
    zet [.dict (dS zak (ups W)), zbi R, zai cs] = some (zgw ((zrr W (toL W R cs)).map (·.1)), false) := by
  have hS : ∀ r ∈ toL W R cs, r ∈ R := fun r hr => (List.mem_filter.mp hr).1
  have hlen := hr.len
  have hSl : (toL W R cs).length < 300 := Nat.lt_of_le_of_lt (List.length_filter_le _ _) hlen
  have c1 : zdk (gN 0) (tTru (zbd 3 zco (zad (eVar 1) (zad (eVar 2) (zad (eIxV 0 (eC (.int 1))) aNil))))) (eVar 0) (envB ["_law_rule"] [0, 2] (toE W R cs .no .no .no .no)) (R.map zcq) = some ((toL W R cs).map zcq) :=
    zeh (fun r => onB W cs r.2) fun r hm => ⟨[.pl (zcq r), .pl (.dict (dS zak (ups W))), .pl (zai cs)], rfl, zacg (n := 3) (rs := [⟨.dict (dS zak (ups W)), false, []⟩, ⟨zai cs, false, []⟩, ⟨zai r.2, false, []⟩]) rfl rfl (zalg h hc hl), fun _ => ⟨⟨zcq r, false, []⟩, rfl, rfl⟩⟩
  have e1 := zdy (own := ["_law_rule"]) (fr := [0, 2]) (fi := zas (eVar 1)) (env := toE W R cs .no .no .no .no) (ds := R.map zcq) (bs := []) rfl (by rw [List.length_map]; omega) c1
  have f1 : sSet 3 (zdq ["_law_rule"] [0, 2] (zas (eVar 1)) (gN 0) (tTru (zbd 3 zco (zad (eVar 1) (zad (eVar 2) (zad (eIxV 0 (eC (.int 1))) aNil))))) (eVar 0)) (toE W R cs .no .no .no .no) = some (.nx (toE W R cs (.ac (zbi (toL W R cs))) .no .no .no)) := by
    refine (ztg e1).trans ?_
    unfold putV
    dsimp only
    split <;> rfl
  obtain ⟨e', lp, s5, s6, rfl⟩ := zft (enc := zcq) (g := gT 2 (zau 5 (zau 6 zea))) (l := toL W R cs) (env := toE W R cs (.pl (zbi (toL W R cs))) (.ac (zak [])) .no .no)
    (body := sIf (zkg (tTru (eCB (anyD fun bs => bs.any id) (zad (zdq ["_law_one"] [0, 6] (zas (eVar 3)) (gN 0) zca (eAnd (eOp neD (eIxV 0 (eC (.int 1))) (eVar 2)) (zbd 3 zco (zad (eVar 1) (zad (eIxV 0 (eC (.int 1))) (zad (eVar 2) aNil)))))) aNil)))) (sApp 4 (eVar 5)) sNil)
    (fun pre env => ∃ s5 s6, env = toE W R cs (.pl (zbi (toL W R cs))) (.ac (zak ((pre.filter fun r => !((toL W R cs).any fun q => zlh W q.2 r.2)).map (·.1)))) s5 s6) ⟨.no, .no, rfl⟩ (by
      rintro pre r post env hp ⟨s5, s6, rfl⟩
      have hm : r ∈ toL W R cs := by rw [← hp]; simp
      have hpl : pre.length ≤ (toL W R cs).length := by rw [← hp]; simp
      have c2 : zdk (gN 0) zca (eAnd (eOp neD (eIxV 0 (eC (.int 1))) (eVar 2)) (zbd 3 zco (zad (eVar 1) (zad (eIxV 0 (eC (.int 1))) (zad (eVar 2) aNil))))) (envB ["_law_one"] [0, 6] (toE W R cs (.pl (zbi (toL W R cs))) (.ac (zak ((pre.filter fun r => !((toL W R cs).any fun q => zlh W q.2 r.2)).map (·.1)))) (.pl (.str r.1)) (.pl (zai r.2)))) ((toL W R cs).map zcq) = some ((toL W R cs).map fun q => .bool (zlh W q.2 r.2)) :=
        zcf fun q hq => by
          refine ⟨[.pl (zcq q), .pl (.dict (dS zak (ups W))), .pl (zai r.2)], rfl, rfl, vb (zlh W q.2 r.2), ?_, rfl⟩
          have e1 : eOp neD (eIxV 0 (eC (.int 1))) (eVar 2) [.pl (zcq q), .pl (.dict (dS zak (ups W))), .pl (zai r.2)] = some (vb (!(q.2 == r.2))) := zfx (x := ⟨zai q.2, false, []⟩) (y := ⟨zai r.2, false, []⟩) rfl rfl (zacf (hr.low q (hS q hq)) (hr.low r (hS r hm)))
          have e2 : zbd 3 zco (zad (eVar 1) (zad (eIxV 0 (eC (.int 1))) (zad (eVar 2) aNil))) [.pl (zcq q), .pl (.dict (dS zak (ups W))), .pl (zai r.2)] = some (vb (onB W q.2 r.2)) := zbm (n := 3) (rs := [⟨.dict (dS zak (ups W)), false, []⟩, ⟨zai q.2, false, []⟩, ⟨zai r.2, false, []⟩]) rfl rfl (zalg h (hr.kinds q (hS q hq)) (h3 q (hS q hq)))
          unfold eAnd
          rw [e1, Option.bind_some]
          unfold zlh
          cases q.2 == r.2 with
          | true => rfl
          | false => exact e2
      have t := zacd (zaqr (f := fun q : Rule => zlh W q.2 r.2) (zdy (own := ["_law_one"]) (fr := [0, 6]) (fi := zas (eVar 3)) (env := toE W R cs (.pl (zbi (toL W R cs))) (.ac (zak ((pre.filter fun r => !((toL W R cs).any fun q => zlh W q.2 r.2)).map (·.1)))) (.pl (.str r.1)) (.pl (zai r.2))) (ds := (toL W R cs).map zcq) (bs := []) rfl (by rw [List.length_map]; omega) c2))
      cases ha : (toL W R cs).any fun q => zlh W q.2 r.2 with
      | true =>
        rw [ha] at t
        refine ⟨_, _, rfl, .inl (if_f t rfl), .pl (.str r.1), .pl (zai r.2), ?_⟩
        rw [List.filter_append, List.filter_cons_of_neg (by rw [ha]; decide), List.filter_nil, List.append_nil]
        rfl
      | false =>
        rw [ha] at t
        refine ⟨_, _, rfl, .inl (if_t t (zaqp (i := 4) (ds := ((pre.filter fun r => !((toL W R cs).any fun q => zlh W q.2 r.2)).map (·.1)).map .str) (d := .str r.1) (fr := false) rfl rfl (by rw [List.length_map, List.length_map]; exact Nat.lt_of_le_of_lt (Nat.le_trans (List.length_filter_le _ _) hpl) (Nat.lt_trans hSl (by decide))))), .pl (.str r.1), .pl (zai r.2), ?_⟩
        rw [List.filter_append, List.filter_cons_of_pos (by rw [ha]; decide), List.filter_nil, List.map_append]
        unfold zak
        rw [List.map_append]
        rfl)
  generalize hN : ((toL W R cs).filter fun r => !((toL W R cs).any fun q => zlh W q.2 r.2)).map (·.1) = N at lp
  have hN2 : (zrr W (toL W R cs)).map (·.1) = N := hN
  rw [hN2]
  have lN : LowS N := fun x hx => by
    rw [← hN] at hx
    obtain ⟨r, hr1, rfl⟩ := List.mem_map.mp hx
    exact lo r (hS r (List.mem_filter.mp hr1).1)
  have t1 : ∀ s5 s6, zcy (eOp eqD (eVar 4) (eLst aNil)) (toE W R cs (.pl (zbi (toL W R cs))) (.ac (zak N)) s5 s6) = some N.isEmpty := fun _ _ => zjs (zfx (x := ⟨zak N, false, [4]⟩) (y := ⟨.list [], true, []⟩) rfl rfl (zant lN))
  refine zhx (env := toE W R cs .no .no .no .no) rfl (zbv f1 (zbv (e1 := toE W R cs (.ac (zbi (toL W R cs))) (.ac (zak [])) .no .no) rfl (zbv (zhd (fr := false) (bs := [3]) rfl lp) ?_)))
  match N, t1 with
  | [], t1 => exact zxo (if_t (t1 s5 s6) rfl)
  | [x], t1 => exact zbv (if_f (t1 s5 s6) rfl) (zxo (if_t rfl rfl))
  | x :: y :: zs, t1 =>
    refine zbv (if_f (t1 s5 s6) rfl) (zbv (if_f ?_ rfl) rfl)
    have el : eCB lenD (zad (eVar 4) aNil) (toE W R cs (.pl (zbi (toL W R cs))) (.ac (zak (x :: y :: zs))) s5 s6) = some (vi (((x :: y :: zs).map PyData.str).length : Int)) := zacc (fr := false) (bs := [4]) rfl
    refine zjs (zfx el (y := vi 1) rfl ?_)
    unfold eqD eqOk
    rw [show zww (vi (((x :: y :: zs).map PyData.str).length : Int)).d (vi 1).d = true from rfl, Bool.true_or, if_pos rfl]
    have : ¬ ((((x :: y :: zs).map PyData.str).length : Int) = 1) := by simp; omega
    simp [PyData.eqv]
    omega
noncomputable abbrev caE (W : Web) (p : Nat) (R : List Rule) (s4 s5 s6 s7 : Sl) : DEnv := [.pl (zat W p R), .pl (webD W), .pl (.int (p : Int)), .pl (zbi R), s4, s5, s6, s7]
noncomputable abbrev caX : EF := zdq ["_law_kind", "_law_elders"] [7] (zas (eVar 1)) (gT 2 (zau 0 (zau 1 zea))) zca (eOp addE (eVar 2) (eTup (zad (eVar 0) aNil)))
theorem zahl {a : List Str} {x : Str} {env : DEnv} (h0 : env[2]? = some (.pl (zai a))) (h1 : env[0]? = some (.pl (.str x))) (hl : a.length ≤ 100) : eOp addE (eVar 2) (eTup (zad (eVar 0) aNil)) env = some ⟨zai (a ++ [x]), false, []⟩ := by
  have e0 : eVar 2 env = some ⟨zai a, false, []⟩ := by unfold eVar; rw [h0]
  have e1 : eTup (zad (eVar 0) aNil) env = some ⟨zai [x], false, []⟩ := by
    unfold eTup
    rw [zgv (r := vs x) (by unfold eVar; rw [h1])]; rfl
  refine zfx e0 e1 ?_
  cases a with
  | nil => rfl
  | cons b a =>
    show addD (.tuple ((b :: a).map .str)) (.tuple [.str x]) = _
    unfold addD
    dsimp only
    rw [if_pos ⟨rfl, by rw [List.length_map]; simp at hl ⊢; omega⟩]
    unfold zai
    rw [List.map_append]; rfl
theorem zahm {W : Web} {p : Nat} {R : List Rule} (sz : szB p W.length) : ∃ fr, zgd [zat W p R] = some (.list ((zce (nm W) p).map zai), fr) := by
  have hn : (nm W).length = W.length := List.length_map ..
  have hW : 1 ≤ W.length ∧ W.length ≤ 10 ∧ p ≤ 3 := by unfold szB at sz; omega
  have h0 : 0 < (nm W).length := by rw [hn]; exact hW.1
  have pw : ∀ j, j ≤ p → (zce (nm W) j).length ≤ 216 := fun j hj => by
    rw [zlf _ h0, hn]
    exact Nat.le_trans (Nat.pow_le_pow_right hW.1 hj) sz.pow
  have al : ∀ j, j ≤ p → ∀ a ∈ zce (nm W) j, a.length ≤ 100 := fun j hj a ha => by
    rw [zng _ h0] at ha
    obtain ⟨k, _, rfl⟩ := List.mem_map.mp ha
    rw [zwd]; omega
  obtain ⟨e', lp, s4, s5, s6, s7, rfl, h4⟩ := zft (enc := fun (k : Nat) => PyData.int (k : Int)) (g := gN 5) (l := List.range p) (env := caE W p R (.ac (.list ((zce (nm W) 0).map zai))) .no .no .no)
    (body := (sSeq (sSet 6 (eLst aNil)) (sSeq (sFor (zas (eVar 4)) (gN 7) (sExt 6 caX)) (sSet 4 (eVar 6)))))
    (fun pre env => ∃ s4 s5 s6 s7, env = caE W p R s4 s5 s6 s7 ∧ (s4 = .ac (.list ((zce (nm W) pre.length).map zai)) ∨ s4 = .pl (.list ((zce (nm W) pre.length).map zai)))) ⟨_, _, _, _, rfl, .inl rfl⟩ (by
      rintro pre x post env hpre ⟨s4, s5, s6, s7, rfl, h4⟩
      have hlen : pre.length + 1 ≤ p := by
        have := congrArg List.length hpre
        rw [List.length_append, List.length_cons, List.length_range] at this
        omega
      have hj := pw pre.length (by omega)
      have run : ∃ t7, forL (gN 7) (sExt 6 caX) ((zce (nm W) pre.length).map zai) (caE W p R (.pl (.list ((zce (nm W) pre.length).map zai))) (.pl (.int (x : Int))) (.ac (.list [])) s7) = some (.nx (caE W p R (.pl (.list ((zce (nm W) pre.length).map zai))) (.pl (.int (x : Int))) (.ac (.list ((zce (nm W) (pre.length + 1)).map zai))) t7)) := by
        obtain ⟨e1, l1, t7, rfl⟩ := zft (enc := zai) (g := gN 7) (l := zce (nm W) pre.length) (body := sExt 6 caX) (env := caE W p R (.pl (.list ((zce (nm W) pre.length).map zai))) (.pl (.int (x : Int))) (.ac (.list [])) s7)
          (fun q env => ∃ t7, env = caE W p R (.pl (.list ((zce (nm W) pre.length).map zai))) (.pl (.int (x : Int))) (.ac (.list ((q.flatMap fun a => (nm W).map fun y => a ++ [y]).map zai))) t7) ⟨s7, rfl⟩ (by
            rintro q a post2 env hq ⟨t7, rfl⟩
            have ha : a ∈ zce (nm W) pre.length := by rw [← hq]; simp
            have cm : zdk (gT 2 (zau 0 (zau 1 zea))) zca (eOp addE (eVar 2) (eTup (zad (eVar 0) aNil))) (envB ["_law_kind", "_law_elders"] [7] (caE W p R (.pl (.list ((zce (nm W) pre.length).map zai))) (.pl (.int (x : Int))) (.ac (.list ((q.flatMap fun a => (nm W).map fun y => a ++ [y]).map zai))) (.pl (zai a)))) (W.map rowD) = some (W.map fun r => zai (a ++ [r.1])) :=
              zcf fun r hr => ⟨[.pl (.str r.1), .pl (zak r.2), .pl (zai a)], rfl, rfl, _, zahl rfl rfl (al _ (by omega) a ha), rfl⟩
            have cp := zdy (own := ["_law_kind", "_law_elders"]) (fr := [7]) (fi := zas (eVar 1)) (env := caE W p R (.pl (.list ((zce (nm W) pre.length).map zai))) (.pl (.int (x : Int))) (.ac (.list ((q.flatMap fun a => (nm W).map fun y => a ++ [y]).map zai))) (.pl (zai a))) (ds := W.map rowD) (bs := []) rfl (by rw [List.length_map]; omega) cm
            have cb : caX (caE W p R (.pl (.list ((zce (nm W) pre.length).map zai))) (.pl (.int (x : Int))) (.ac (.list ((q.flatMap fun a => (nm W).map fun y => a ++ [y]).map zai))) (.pl (zai a))) = some ⟨.list (W.map fun r => zai (a ++ [r.1])), true, []⟩ := by
              refine cp.trans ?_
              split <;> rfl
            have ql : (q.flatMap fun a => (nm W).map fun y => a ++ [y]).length ≤ q.length * 10 := by
              clear hq cm cp cb
              induction q with
              | nil => simp
              | cons b q ih =>
                rw [List.flatMap_cons, List.length_append, List.length_map, hn, List.length_cons]
                omega
            have qq : q.length ≤ (zce (nm W) pre.length).length := by rw [← hq]; simp
            refine ⟨_, _, rfl, .inl (zaqj (i := 6) rfl cb (by rw [List.length_map, List.length_map]; omega) (by simp)), .pl (zai a), ?_⟩
            rw [List.flatMap_append, List.map_append]
            have e3 : (([a] : List (List Str)).flatMap fun a => (nm W).map fun y => a ++ [y]).map zai = W.map fun r => zai (a ++ [r.1]) := by
              rw [List.flatMap_cons, List.flatMap_nil, List.append_nil]
              unfold nm
              rw [List.map_map, List.map_map]; rfl
            rw [e3]
            rfl)
        exact ⟨t7, l1⟩
      obtain ⟨t7, run⟩ := run
      have hpre1 : (pre ++ [x]).length = pre.length + 1 := by simp
      refine ⟨_, caE W p R (.pl (.list ((zce (nm W) (pre.length + 1)).map zai))) (.pl (.int (x : Int))) (.pl (.list ((zce (nm W) (pre.length + 1)).map zai))) t7, rfl, .inl ?_, _, _, _, _, rfl, by rw [hpre1]; exact .inr rfl⟩
      rcases h4 with rfl | rfl
      · exact zbv (e1 := caE W p R (.ac (.list ((zce (nm W) pre.length).map zai))) (.pl (.int (x : Int))) (.ac (.list [])) s7) rfl (zbv (zhd (fr := false) (bs := [4]) rfl run) rfl)
      · exact zbv (e1 := caE W p R (.pl (.list ((zce (nm W) pre.length).map zai))) (.pl (.int (x : Int))) (.ac (.list [])) s7) rfl (zbv (zhd (fr := false) (bs := []) rfl run) rfl))
  rw [List.length_range] at h4
  have st : ∀ fr, zns 4 (caE W p R s4 s5 s6 s7) = some (.rt (.list ((zce (nm W) p).map zai)) fr) → zgd [zat W p R] = some (.list ((zce (nm W) p).map zai), fr) := fun fr e =>
    zhx (env := [.pl (zat W p R), .no, .no, .no, .no, .no, .no, .no]) rfl (zbv (e1 := caE W p R .no .no .no .no) rfl (zbv (e1 := caE W p R (.ac (.list ((zce (nm W) 0).map zai))) .no .no .no) rfl (zbv (zaqk (bs := []) (by rw [zanp (i := (p : Int)) (bs := []) rfl (by omega) (by omega), Int.toNat_natCast]) lp) e)))
  rcases h4 with rfl | rfl
  · exact ⟨true, st true rfl⟩
  · exact ⟨false, st false rfl⟩
noncomputable abbrev ansL (W : Web) (R : List Rule) (c : List Str) : List Str := (zrr W (fitL W R (c.map .one))).map (·.1)
theorem zakn (c : List Str) : zai c = zgc (c.map .one) := by
  unfold zai zgc
  rw [List.map_map]; rfl
theorem zarc {W : Web} {R : List Rule} {c : List Str} : fitL W R (c.map .one) = toL W R c := by
  unfold fitL
  refine List.filter_congr fun r hr => ?_
  unfold fitB onB
  rw [Bool.eq_iff_iff, List.all_eq_true, List.all_eq_true]
  have e : ∀ (ks c : List Str), ks.zip (c.map Arm.one) = (c.zip ks).map fun z => (z.2, Arm.one z.1) := by
    intro ks
    induction ks with
    | nil => intro c; cases c <;> rfl
    | cons k ks ih =>
      intro c
      cases c with
      | nil => rfl
      | cons x c => rw [List.map_cons, List.zip_cons_cons, List.zip_cons_cons, List.map_cons, ih]
  rw [e]
  constructor
  · intro hh z hz
    have := of_decide_eq_true (hh (z.2, Arm.one z.1) (List.mem_map.mpr ⟨z, hz, rfl⟩))
    obtain ⟨n, hn, hx⟩ := zagy.mp this
    have : n = z.1 := by simpa [Arm.parts] using hn
    rw [this] at hx
    exact decide_eq_true hx
  · intro hh y hy
    obtain ⟨z, hz, rfl⟩ := List.mem_map.mp hy
    exact decide_eq_true (zagy.mpr ⟨z.1, by simp [Arm.parts], of_decide_eq_true (hh z hz)⟩)
structure Bo (W : Web) (p : Nat) (R : List Rule) : Prop where
  web : WebOk W
  sz : szB p W.length
  rul : RulesOk W R
  low : ∀ r ∈ R, PyData.strOk r.1 = true
  few : ∀ r ∈ R, r.2.length ≤ 100
theorem zacp {W : Web} {p : Nat} (sz : szB p W.length) {c : List Str} (hc : c ∈ zce (nm W) p) : c.length = p ∧ ∀ x ∈ c, x ∈ nm W := by
  have hn : (nm W).length = W.length := List.length_map ..
  have h0 : 0 < (nm W).length := by rw [hn]; unfold szB at sz; omega
  rw [zng _ h0] at hc
  obtain ⟨k, _, rfl⟩ := List.mem_map.mp hc
  refine ⟨zwd _ _ _, ?_⟩
  have : ∀ (j k : Nat), ∀ x ∈ dig (nm W) j k, x ∈ nm W := by
    intro j
    induction j with
    | zero => intro k x hx; cases hx
    | succ j ih =>
      intro k x hx
      rcases List.mem_append.mp hx with hx | hx
      · exact ih _ x hx
      · rw [List.mem_singleton.mp hx, List.getD_eq_getElem?_getD, List.getElem?_eq_getElem (Nat.mod_lt _ h0)]
        exact List.getElem_mem _
  exact this p k
theorem znh {W : Web} {p : Nat} {R : List Rule} (b : Bo W p R) : zby [zat W p R] = some (.list ((zce (nm W) p).map fun c => zgw (ansL W R c)), true) := by
  have hn : (nm W).length = W.length := List.length_map ..
  have h0 : 0 < (nm W).length := by rw [hn]; have := b.sz; unfold szB at this; omega
  have it : zas (zbd 1 zia (zad (eVar 0) aNil)) [.pl (zat W p R)] = some ((zce (nm W) p).map zai, []) := by
    unfold zas
    rw [zbm (n := 1) (rs := [⟨zat W p R, false, []⟩]) rfl rfl (zabb b.sz)]; rfl
  have cm : zdk (gN 0) zca (zbd 2 zhz (zad (eVar 1) (zad (eVar 0) aNil))) (envB ["call"] [0] [.pl (zat W p R)]) ((zce (nm W) p).map zai) = some ((zce (nm W) p).map fun c => zgw (ansL W R c)) :=
    zcf fun c hc => by
      obtain ⟨cl, ci⟩ := zacp b.sz hc
      have hp3 : p ≤ 3 := by have := b.sz; unfold szB at this; omega
      have ck : CallOk W (c.map .one) := ⟨by rw [List.length_map]; omega, fun a ha => by
        obtain ⟨x, _, rfl⟩ := List.mem_map.mp ha
        show 1 < 300; decide, fun a ha n hn => by
        obtain ⟨x, hx, rfl⟩ := List.mem_map.mp ha
        have : n = x := by simpa [Arm.parts] using hn
        rw [this]; exact ci x hx⟩
      have g := zzz b.web b.rul ck
      rw [List.length_map, cl, ← zakn] at g
      exact ⟨[.pl (zai c), .pl (zat W p R)], rfl, rfl, _, zbm (n := 2) (rs := [⟨zat W p R, false, []⟩, ⟨zai c, false, []⟩]) rfl rfl g, rfl⟩
  exact zhx (env := [.pl (zat W p R)]) rfl (zfu (zdy it (by rw [List.length_map, zlf _ h0, hn]; exact Nat.lt_of_le_of_lt b.sz.pow (by decide)) cm))
theorem zahn {W : Web} {p : Nat} {R : List Rule} (b : Bo W p R) : zdc [zat W p R] = some (.list ((zce (nm W) p).map fun c => zgw (ansL W R c)), true) := by
  have hn : (nm W).length = W.length := List.length_map ..
  have h0 : 0 < (nm W).length := by rw [hn]; have := b.sz; unfold szB at this; omega
  obtain ⟨fr, gc⟩ := zahm (R := R) b.sz
  have it : zas (zbd 1 zgd (zad (eVar 0) aNil)) [.pl (zat W p R), .ac (.dict (dS zak (ups W)))] = some ((zce (nm W) p).map zai, []) := by
    unfold zas
    rw [zbm (n := 1) (rs := [⟨zat W p R, false, []⟩]) rfl rfl gc]; rfl
  have cm : zdk (gN 0) zca (zbd 3 zet (zad (eVar 2) (zad (eIxV 1 (eC (.int 2))) (zad (eVar 0) aNil)))) (envB ["_law_call"] [0, 1] [.pl (zat W p R), .ac (.dict (dS zak (ups W)))]) ((zce (nm W) p).map zai) = some ((zce (nm W) p).map fun c => zgw (ansL W R c)) :=
    zcf fun c hc => by
      obtain ⟨cl, ci⟩ := zacp b.sz hc
      have hp3 : p ≤ 3 := by have := b.sz; unfold szB at this; omega
      have g := zakm b.web b.rul b.low b.few ci (by omega)
      rw [← zarc] at g
      exact ⟨[.pl (zai c), .pl (zat W p R), .pl (.dict (dS zak (ups W)))], rfl, rfl, _, zbm (n := 3) (rs := [⟨.dict (dS zak (ups W)), false, []⟩, ⟨zbi R, false, []⟩, ⟨zai c, false, []⟩]) rfl rfl g, rfl⟩
  exact zhx (env := [.pl (zat W p R), .no]) rfl (zbv (e1 := [.pl (zat W p R), .ac (.dict (dS zak (ups W)))]) (ztg (zbm (n := 1) (rs := [⟨webD W, false, []⟩]) rfl rfl (zarb b.web))) (zfu (zdy it (by rw [List.length_map, zlf _ h0, hn]; exact Nat.lt_of_le_of_lt b.sz.pow (by decide)) cm)))
end Bc
namespace Bc
open PySem L2
theorem Bo.take {W : Web} {p : Nat} {R : List Rule} (b : Bo W p R) (m : Nat) : Bo W p (R.take m) :=
  ⟨b.web, b.sz, ⟨fun r hr => b.rul.low r (List.mem_of_mem_take hr), fun r hr => b.rul.kinds r (List.mem_of_mem_take hr), fun r hr => b.rul.few r (List.mem_of_mem_take hr), by rw [List.length_take]; have := b.rul.len; omega⟩, fun r hr => b.low r (List.mem_of_mem_take hr), fun r hr => b.few r (List.mem_of_mem_take hr)⟩
theorem zaho {n : Nat} : ∀ {xs : List Str}, xs.length < 100000 → SmOk (n + 3) (zgw xs)
  | [], _ => ⟨by show 1 < 100000; decide, fun d hd => by rw [List.mem_singleton.mp hd]; trivial⟩
  | [x], _ => ⟨by show 2 < 100000; decide, fun d hd => by
    rcases List.mem_cons.mp hd with rfl | hd
    · trivial
    · rw [List.mem_singleton.mp hd]; trivial⟩
  | x :: y :: zs, h => ⟨by show 2 < 100000; decide, fun d hd => by
    rcases List.mem_cons.mp hd with rfl | hd
    · trivial
    · rw [List.mem_singleton.mp hd]
      exact ⟨by rw [List.length_map]; exact h, zaba⟩⟩
noncomputable def zyw : SFr Pen := (rSeq (rSet 2 (zbo 1 ziv rNil))
    (rSeq (rSet 3 (zaq (eTup (zad (eIxV 2 (eC (.int 0))) (zad (eIxV 2 (eC (.int 1))) (zad (eSl (eIxV 2 (eC (.int 2))) zzp (zwy (eNeg (eC (.int 1))))) aNil))))))
    (rSeq (rSet 4 (zaq (zbd 1 ziw (zad (eVar 2) aNil))))
    (rSeq (rSet 5 (zaq (zbd 1 zdc (zad (eVar 2) aNil))))
    (rSeq (rSet 6 (zaq (zbd 1 zby (zad (eVar 4) aNil))))
    (rSeq (rIf (znx (tOrF (zkg (tTru (zbd 2 zci (zad (eVar 5) (zad (eVar 6) aNil))))) (zkg (tTru (zbd 2 zci (zad (zbd 1 zdc (zad (eVar 3) aNil)) (zad (zbd 1 zby (zad (eVar 3) aNil)) aNil))))))) (rRet (zaq (eC (.bool false)))) rNx)
    (rSeq (zadf 6 (zbo 2 zar (zbq (zaq (eCB lenD (zad (eVar 6) aNil))) rNil)) (zaq (eTup (zad (eC (.str "rule")) (zad (eC (.str "a")) aNil)))))
    (rSeq (rApp 6 (zaq (eTup (zad (eC (.str "none")) aNil))))
    (rRet (zaq (eAnd (zbd 2 zci (zad (eVar 5) (zad (zbd 1 zby (zad (eVar 4) aNil)) aNil))) (zbd 2 zci (zad (eVar 2) (zad (eVar 4) aNil))))))))))))))
theorem zako (ns : List Int) : ∃ s st', ziu ns = some s ∧ zyw (List.replicate 7 .no) ⟨ns.take 63, 0, s, 0⟩ = some (.rt (.bool true) false st') := by
  obtain ⟨sd, es⟩ := zans ns
  have b0 : PenB (699 + 300) (⟨ns.take 63, 0, sd, 0⟩ : Pen) := ⟨by show (ns.take 63).length ≤ 63; rw [List.length_take]; omega, Int.le_refl 0, by show (0 : Int) + _ ≤ _; omega⟩
  obtain ⟨W, p, R, s1, e1, sz, ok, rok, hR, p1, wok, rin⟩ := zaqz b0
  have hW1 : 1 ≤ W.length ∧ W.length ≤ 10 ∧ 1 ≤ p ∧ p ≤ 3 := by unfold szB at sz; omega
  have bo : Bo W p R := ⟨wok, sz, ⟨fun r hr => (rok.kin r hr).1, fun r hr => (rin.kinds r hr).1, fun r hr => by have := (rok.kin r hr).2; omega, by omega⟩, fun r hr => zrk (rok.low r hr).1, fun r hr => by have := (rok.kin r hr).2; omega⟩
  have f1 : rSet 2 (zbo 1 ziv rNil) (lwE .no .no .no .no .no) ⟨ns.take 63, 0, sd, 0⟩ = some (.nx (lwE (.pl (zat W p R)) .no .no .no .no) s1) := zdx (zkj (T := Pen) (n := 1) (rs := []) (s1 := ⟨ns.take 63, 0, sd, 0⟩) rfl rfl e1)
  have hn : (nm W).length = W.length := List.length_map ..
  have h0 : 0 < (nm W).length := by rw [hn]; omega
  obtain ⟨m, hm⟩ : ∃ m, cutD (R.map zcq) none (some (-1)) = (R.take m).map zcq := ⟨_, by
    unfold cutD
    rw [show HT.sIx (R.map zcq).length 0 none = 0 from rfl, List.drop_zero, ← List.map_take]⟩
  have bo2 := bo.take m
  have t3 : eTup (zad (eIxV 2 (eC (.int 0))) (zad (eIxV 2 (eC (.int 1))) (zad (eSl (eIxV 2 (eC (.int 2))) zzp (zwy (eNeg (eC (.int 1))))) aNil))) (lwE (.pl (zat W p R)) .no .no .no .no) = some ⟨zat W p (R.take m), false, []⟩ := by
    have sl : eSl (eIxV 2 (eC (.int 2))) zzp (zwy (eNeg (eC (.int 1)))) (lwE (.pl (zat W p R)) .no .no .no .no) = some ⟨zbi (R.take m), true, []⟩ := by
      show some (⟨.list (cutD (R.map zcq) none (some (-1))), true, _⟩ : Val) = _
      rw [hm]; rfl
    exact zalf (rs := [⟨webD W, false, []⟩, vi (p : Int), ⟨zbi (R.take m), true, []⟩]) (zcm rfl (zcm rfl (zgv sl))) (by show 3 ≤ 100000; decide)
  have sm : ∀ (Q : List Rule), Q.length < 300 → SmOk 7 (.list ((zce (nm W) p).map fun c => zgw (ansL W Q c))) := fun Q hQ => by
    refine ⟨by rw [List.length_map, zlf _ h0, hn]; exact Nat.lt_of_le_of_lt sz.pow (by decide), fun d hd => ?_⟩
    obtain ⟨c, hc, rfl⟩ := List.mem_map.mp hd
    refine zaho (n := 3) ?_
    show ((zrr W (fitL W Q (c.map .one))).map (·.1)).length < 100000
    rw [List.length_map]
    exact Nat.lt_of_le_of_lt (Nat.le_trans (List.length_filter_le _ _) (List.length_filter_le _ _)) (Nat.lt_trans hQ (by decide))
  have sb : SmOk 7 (zat W p R) := zanq (by omega) ok.few hR fun r hr => (rok.kin r hr).2
  have c1 : ziw [zat W p R] = some (zat W p R, false) := zara (by omega)
  have q1 := zkx 7 _ (sm R bo.rul.len)
  have q2 := zkx 7 _ (sm (R.take m) bo2.rul.len)
  have d1 := zahn bo
  have d2 := znh bo
  have d3 := zahn bo2
  have d4 := znh bo2
  have hl : ((zce (nm W) p).map fun c => zgw (ansL W R c)).length = W.length ^ p := by rw [List.length_map, zlf _ h0, hn]
  generalize hD : ((zce (nm W) p).map fun c => zgw (ansL W R c)) = ds at q1 d1 d2 hl
  generalize hD2 : ((zce (nm W) p).map fun c => zgw (ansL W (R.take m) c)) = ds2 at q2 d3 d4
  have q1 : zci [.list ds, .list ds] = some (.bool true, false) := q1
  have q2 : zci [.list ds2, .list ds2] = some (.bool true, false) := q2
  have q3 : zci [zat W p R, zat W p R] = some (.bool true, false) := zkx 7 _ sb
  have hl1 : 1 ≤ ds.length := by rw [hl]; exact Nat.one_le_iff_ne_zero.mpr (Nat.pos_iff_ne_zero.mp (Nat.pow_pos hW1.1))
  have hl2 : ds.length ≤ 216 := by rw [hl]; exact sz.pow
  have s56 : zbd 2 zci (zad (eVar 5) (zad (eVar 6) aNil)) (lwE (.pl (zat W p R)) (.pl (zat W p (R.take m))) (.pl (zat W p R)) (.ac (.list ds)) (.ac (.list ds))) = some (vb true) := zbm (n := 2) (rs := [⟨.list ds, false, [5]⟩, ⟨.list ds, false, [6]⟩]) (zcm rfl (zgv rfl)) rfl q1
  have s33 : zbd 2 zci (zad (zbd 1 zdc (zad (eVar 3) aNil)) (zad (zbd 1 zby (zad (eVar 3) aNil)) aNil)) (lwE (.pl (zat W p R)) (.pl (zat W p (R.take m))) (.pl (zat W p R)) (.ac (.list ds)) (.ac (.list ds))) = some (vb true) := by
    have z1 := zbm (n := 1) (g := zdc) (rs := [⟨zat W p (R.take m), false, []⟩]) (f := zad (eVar 3) aNil) (env := lwE (.pl (zat W p R)) (.pl (zat W p (R.take m))) (.pl (zat W p R)) (.ac (.list ds)) (.ac (.list ds))) rfl rfl d3
    have z2 := zbm (n := 1) (g := zby) (rs := [⟨zat W p (R.take m), false, []⟩]) (f := zad (eVar 3) aNil) (env := lwE (.pl (zat W p R)) (.pl (zat W p (R.take m))) (.pl (zat W p R)) (.ac (.list ds)) (.ac (.list ds))) rfl rfl d4
    exact zbm (n := 2) (zcm z1 (zgv z2)) rfl q2
  have tst : tOrF (zkg (tTru (zbd 2 zci (zad (eVar 5) (zad (eVar 6) aNil))))) (zkg (tTru (zbd 2 zci (zad (zbd 1 zdc (zad (eVar 3) aNil)) (zad (zbd 1 zby (zad (eVar 3) aNil)) aNil))))) (lwE (.pl (zat W p R)) (.pl (zat W p (R.take m))) (.pl (zat W p R)) (.ac (.list ds)) (.ac (.list ds))) = some false := by
    unfold tOrF
    rw [zacd s56, zacd s33]; rfl
  obtain ⟨r7, s7, e7, a7, b7, p7⟩ := znf (n := 598) (a := zaq (eCB lenD (zad (eVar 6) aNil))) (env := lwE (.pl (zat W p R)) (.pl (zat W p (R.take m))) (.pl (zat W p R)) (.ac (.list ds)) (.ac (.list ds))) (st := s1) (bs := []) (zcn (zacc (ds := ds) (fr := false) (bs := [6]) rfl)) (p1.mono (by omega)) (by omega) (by omega)
  have f7 : zadf 6 (zbo 2 zar (zbq (zaq (eCB lenD (zad (eVar 6) aNil))) rNil)) (zaq (eTup (zad (eC (.str "rule")) (zad (eC (.str "a")) aNil)))) (lwE (.pl (zat W p R)) (.pl (zat W p (R.take m))) (.pl (zat W p R)) (.ac (.list ds)) (.ac (.list ds))) s1 = some (.nx (lwE (.pl (zat W p R)) (.pl (zat W p (R.take m))) (.pl (zat W p R)) (.ac (.list ds)) (.ac (.list (ds.set r7.toNat (.tuple [.str "rule", .str "a"]))))) s7) := by
    have ix : ixN ds.length r7 = some r7.toNat := by unfold ixN; rw [if_pos a7, if_pos b7]
    exact zakl (x := ⟨.tuple [.str "rule", .str "a"], false, []⟩) (s1 := s1) rfl rfl e7 ix (by simp)
  generalize hG : ds.set r7.toNat (.tuple [.str "rule", .str "a"]) = gs at f7
  have hgl : gs.length = ds.length := by rw [← hG, List.length_set]
  have f8 : rApp 6 (zaq (eTup (zad (eC (.str "none")) aNil))) (lwE (.pl (zat W p R)) (.pl (zat W p (R.take m))) (.pl (zat W p R)) (.ac (.list ds)) (.ac (.list gs))) s7 = some (.nx (lwE (.pl (zat W p R)) (.pl (zat W p (R.take m))) (.pl (zat W p R)) (.ac (.list ds)) (.ac (.list (gs ++ [.tuple [.str "none"]])))) s7) := zoq (i := 6) (ds := gs) (d := .tuple [.str "none"]) (fr := false) (bs := []) rfl rfl (by omega) (by simp)
  generalize hH : gs ++ [.tuple [.str "none"]] = hs at f8
  have l54 : zbd 2 zci (zad (eVar 5) (zad (zbd 1 zby (zad (eVar 4) aNil)) aNil)) (lwE (.pl (zat W p R)) (.pl (zat W p (R.take m))) (.pl (zat W p R)) (.ac (.list ds)) (.ac (.list hs))) = some (vb true) := by
    have z2 := zbm (n := 1) (g := zby) (rs := [⟨zat W p R, false, []⟩]) (f := zad (eVar 4) aNil) (env := lwE (.pl (zat W p R)) (.pl (zat W p (R.take m))) (.pl (zat W p R)) (.ac (.list ds)) (.ac (.list hs))) rfl rfl d2
    exact zbm (n := 2) (zcm (r := ⟨.list ds, false, [5]⟩) rfl (zgv z2)) rfl q1
  have l24 : zbd 2 zci (zad (eVar 2) (zad (eVar 4) aNil)) (lwE (.pl (zat W p R)) (.pl (zat W p (R.take m))) (.pl (zat W p R)) (.ac (.list ds)) (.ac (.list hs))) = some (vb true) := zbm (n := 2) (rs := [⟨zat W p R, false, []⟩, ⟨zat W p R, false, []⟩]) (zcm rfl (zgv rfl)) rfl q3
  refine ⟨sd, s7, es, ?_⟩
  refine zba f1 (zba (e1 := lwE (.pl (zat W p R)) (.pl (zat W p (R.take m))) .no .no .no) (s1 := s1) (zdx (zcn t3)) ?_)
  refine zba (e1 := lwE (.pl (zat W p R)) (.pl (zat W p (R.take m))) (.pl (zat W p R)) .no .no) (s1 := s1) (zdx (zcn (zbm (n := 1) (rs := [⟨zat W p R, false, []⟩]) rfl rfl c1))) ?_
  refine zba (e1 := lwE (.pl (zat W p R)) (.pl (zat W p (R.take m))) (.pl (zat W p R)) (.ac (.list ds)) .no) (s1 := s1) (zdx (zcn (zbm (n := 1) (rs := [⟨zat W p R, false, []⟩]) rfl rfl d1))) ?_
  refine zba (e1 := lwE (.pl (zat W p R)) (.pl (zat W p (R.take m))) (.pl (zat W p R)) (.ac (.list ds)) (.ac (.list ds))) (s1 := s1) (zdx (zcn (zbm (n := 1) (rs := [⟨zat W p R, false, []⟩]) rfl rfl d2))) ?_
  refine zba (zzw (zif tst) rfl) (zba f7 (zba f8 (zzv (bs := []) (zcn ?_))))
  unfold eAnd
  rw [l54, l24]; rfl
end Bc
namespace Bc
open PySem L2
section
variable {P : Program} {w : World} {K : PySem.W.Frag} {mg : Str → Option Value} {base : Heap}
noncomputable def zakp (K : PySem.W.Frag) : Sp := fun vs H Q _ => ∃ (a : Addr) (ns : List Int), vs = [.ref a] ∧ SqL K H a (ns.map V.int) ∧ ∀ H', Q (.bl true) H'
theorem zard {f : Addr} {fd : FuncData} (F : Fun K "law" "law" zvv f fd) (T : Txt mg) (D_law_book : zud P w K mg base) (D_law_copy : zug P w K mg base) (D_law_draw : zje P w K mg base) (D_law_due : zyo P w K mg base) (D_law_pen : zym P w K mg base) (D_law_same : zuf P w K mg base) (D_all_answers : zne P w K mg base) : FnOk P w K mg base CX0 9 f fd ["_law_script"] (zakp K) := by
  refine F.ok zaqs (fun vs H Q E h => ?_) (fun cdv A outer s H vs Q E hr h => ?_)
  · obtain ⟨a, ns, rfl, _⟩ := h
    rfl
  · obtain ⟨a, ns, rfl, hS, k⟩ := h
    have hu := zep hr
    obtain ⟨sd, st1, es, ef⟩ := zako ns
    apply Exists.intro
    apply And.intro
    · refine' Bx.out (zah (zbb (i := 1) zsc rfl (Or.inl rfl) (zay D_law_pen (hr.mono (by decide)) (by rfl) (zaa (bv 0) zac (by rfl)) (by decide) (zab (by rfl)) (by rfl)) (by rfl) (.inl rfl))
  (zah (zbb (i := 2) zsc rfl (Or.inl rfl) (zay D_law_book (hr.mono (by decide)) (by rfl) (zaa (bv 1) zac (by rfl)) (by decide) (zab (by rfl)) (by rfl)) (by rfl) (.inl rfl))
  (zah (zbb (i := 3) zsc rfl (Or.inl rfl) (zed (zaa (zbx (zdp (K := K) rfl) (bv 2) zal (fun _ _ => rfl)) (zaa (zbx (zdp (K := K) rfl) (bv 2) zal (fun _ _ => rfl)) (zaa (zmm (zais (K := K) rfl) (zbx (zdp (K := K) rfl) (bv 2) zal (fun _ _ => rfl)) zpw (zpv (zaqb zaop zal))) zac (by rfl)) (by rfl)) (by rfl))) (by rfl) (.inl rfl))
  (zah (zbb (i := 4) zsc rfl (Or.inl rfl) (zay D_law_copy (hr.mono (by decide)) (by rfl) (zaa (bv 2) zac (by rfl)) (by decide) (zab (by rfl)) (by rfl)) (by rfl) (.inl rfl))
  (zah (zbb (i := 5) zsc rfl (Or.inl rfl) (zay D_law_due (hr.mono (by decide)) (by rfl) (zaa (bv 2) zac (by rfl)) (by decide) (zab (by rfl)) (by rfl)) (by rfl) (.inl rfl))
  (zah (zbb (i := 6) zsc rfl (Or.inl rfl) (zay D_all_answers (hr.mono (by decide)) (by rfl) (zaa (bv 4) zac (by rfl)) (by decide) (zab (by rfl)) (by rfl)) (by rfl) (.inl rfl))
  (zah (zff (zafu (zlx (zcp (K := K) rfl (zay D_law_same (hr.mono (by decide)) (by rfl) (zaa (bv 5) (zaa (bv 6) zac (by rfl)) (by rfl)) (by decide) (zab (by rfl)) (by rfl)) (fun _ => rfl))) (zzt (zlx (zcp (K := K) rfl (zay D_law_same (hr.mono (by decide)) (by rfl) (zaa (zay D_law_due (hr.mono (by decide)) (by rfl) (zaa (bv 3) zac (by rfl)) (by decide) (zab (by rfl)) (by rfl)) (zaa (zay D_all_answers (hr.mono (by decide)) (by rfl) (zaa (bv 3) zac (by rfl)) (by decide) (zab (by rfl)) (by rfl)) zac (by rfl)) (by rfl)) (by decide) (zab (by rfl)) (by rfl)) (fun _ => rfl))))).pt (zam (zaz zabt)) zch)
  (zah (zmn (bv 6) (zay D_law_draw (hr.mono (by decide)) (by rfl) (zaa (bv 1) (zaa (zbe (zfn (K := K) rfl) (by rfl) T.len zhe (zaa (bv 6) zac (by rfl)) (by decide) (by decide) (zab (by rfl)) (by rfl)) zac (by rfl)) (by rfl)) (by decide) (zab (by rfl)) (by rfl)) (zed (zaa zer (zaa zer zac (by rfl)) (by rfl))) (by intro _; rfl) (by rfl) (by rfl) (by rfl))
  (zah (zeu (zgu (K := K) rfl PySem.F.plainAttrs_list PySem.F.slot_list_append PySem.F.type_list_append zgn (bv 6) (zaa (zed (zaa zer zac (by rfl))) zac (by rfl)) (by rfl) (by rfl) (by rfl) (zab (by rfl)) (by rfl)) (by rfl))
  (zam (zaz (znw (zay D_law_same (hr.mono (by decide)) (by rfl) (zaa (bv 5) (zaa (zay D_all_answers (hr.mono (by decide)) (by rfl) (zaa (bv 4) zac (by rfl)) (by decide) (zab (by rfl)) (by rfl)) zac (by rfl)) (by rfl)) (by decide) (zab (by rfl)) (by rfl)) (zqw (zay D_law_same (hr.mono (by decide)) (by rfl) (zaa (bv 2) (zaa (bv 4) zac (by rfl)) (by rfl)) (by decide) (zab (by rfl)) (by rfl)))))))))))))))
    exact zajt (N := zanl) (F := zyw) (n := 5) rfl ((zbh (zck (zcd zcj) (by decide)) (zbh (zck (zan (zgp (zaf (zfq (se_c fun _ => zag)) (zaf (zfq (se_c fun _ => zag)) (zaf (zapp (zfq (se_c fun _ => zag)) zafh (zafi (zapt (se_c fun _ => zag)))) zap))))) (by decide)) (zbh (zck (zan (zbg (zaf (zae 2) zap))) (by decide)) (zbh (zck (zan (zbg (zaf (zae 2) zap))) (by decide)) (zbh (zck (zan (zbg (zaf (zae 4) zap))) (by decide)) (zbh (zrb (zmp (zamp (zql (zin (zbg (zaf (zae 5) (zaf (zae 6) zap))))) (zql (zin (zbg (zaf (zbg (zaf (zae 3) zap)) (zaf (zbg (zaf (zae 3) zap)) zap))))))) (zvc (zan (se_c fun _ => zbu))) zly) (zbh (zajx (zcd (zbr (zan (zhu zmi (zaf (zae 6) zap))) zcj)) (zan (zgp (zaf (se_c fun _ => zbs) (zaf (se_c fun _ => zbs) zap))))) (zbh (zny (zan (zgp (zaf (se_c fun _ => zbs) zap)))) (zvc (zan (ztb (zbg (zaf (zae 5) (zaf (zbg (zaf (zae 4) zap)) zap))) (zbg (zaf (zae 2) (zaf (zae 4) zap))))))))))))))) hS es ef k
end
theorem us_s {us : List Value} {n : Nat} (h : us.length = n + 1) : ∃ a t, us = a :: t ∧ t.length = n := by
  cases us with
  | nil => cases h
  | cons a t => exact ⟨a, t, rfl, Nat.succ.inj h⟩
theorem us_1 {us : List Value} (h : us.length = 1) : ∃ a0, us = [a0] := by
  obtain ⟨a, t, rfl, h2⟩ := us_s h
  cases List.length_eq_zero_iff.mp h2
  exact ⟨a, rfl⟩
theorem us_2 {us : List Value} (h : us.length = 2) : ∃ a0 a1, us = [a0, a1] := by
  obtain ⟨a0, t, rfl, h2⟩ := us_s h
  obtain ⟨a1, rfl⟩ := us_1 h2
  exact ⟨a0, a1, rfl⟩
theorem us_3 {us : List Value} (h : us.length = 3) : ∃ a0 a1 a2, us = [a0, a1, a2] := by
  obtain ⟨a0, t, rfl, h2⟩ := us_s h
  obtain ⟨a1, a2, rfl⟩ := us_2 h2
  exact ⟨a0, a1, a2, rfl⟩
theorem all_mk {l : PySem.W.OpenLaw} {w : World} {K : PySem.W.Frag} {h : Heap} {mg : Str → Option Value} {fa f1 f2 f3 f4 f5 f6 f7 f8 f9 f10 f11 f12 f13 f14 f15 f16 f17 f18 f19 f20 f21 f22 f23 f24 f25 f26 f27 f28 f29 f30 f31 f32 f33 : Addr} (X : K.In h) (G : h.Ns mainGlobals mg) (hfa : mg "law" = some (.ref fa))
    {od1 an1 od2 an2 od3 an3 od4 an4 od5 an5 od6 an6 od7 an7 od8 an8 od9 an9 od10 an10 od11 an11 od12 an12 od13 an13 od14 an14 od15 an15 od16 an16 od17 an17 od18 an18 od19 an19 od20 an20 od21 an21 od22 an22 od23 an23 od24 an24 od25 an25 od26 an26 od27 an27 od28 an28 od29 an29 od30 an30 od31 an31 od32 an32 od33 an33 : Option Addr} {sl1 sl2 sl3 sl4 sl5 sl6 sl7 sl8 sl9 sl10 sl11 sl12 sl13 sl14 sl15 sl16 sl17 sl18 sl19 sl20 sl21 sl22 sl23 sl24 sl25 sl26 sl27 sl28 sl29 sl30 sl31 sl32 sl33 : Array (Option Value)} {oc1 kV1 dc1 pm1 cd1 ct1 oc2 kV2 dc2 pm2 cd2 ct2 oc3 kV3 dc3 pm3 cd3 ct3 oc4 kV4 dc4 pm4 cd4 ct4 oc5 kV5 dc5 pm5 cd5 ct5 oc6 kV6 dc6 pm6 cd6 ct6 oc7 kV7 dc7 pm7 cd7 ct7 oc8 kV8 dc8 pm8 cd8 ct8 oc9 kV9 dc9 pm9 cd9 ct9 oc10 kV10 dc10 pm10 cd10 ct10 oc11 kV11 dc11 pm11 cd11 ct11 oc12 kV12 dc12 pm12 cd12 ct12 oc13 kV13 dc13 pm13 cd13 ct13 oc14 kV14 dc14 pm14 cd14 ct14 oc15 kV15 dc15 pm15 cd15 ct15 oc16 kV16 dc16 pm16 cd16 ct16 oc17 kV17 dc17 pm17 cd17 ct17 oc18 kV18 dc18 pm18 cd18 ct18 oc19 kV19 dc19 pm19 cd19 ct19 oc20 kV20 dc20 pm20 cd20 ct20 oc21 kV21 dc21 pm21 cd21 ct21 oc22 kV22 dc22 pm22 cd22 ct22 oc23 kV23 dc23 pm23 cd23 ct23 oc24 kV24 dc24 pm24 cd24 ct24 oc25 kV25 dc25 pm25 cd25 ct25 oc26 kV26 dc26 pm26 cd26 ct26 oc27 kV27 dc27 pm27 cd27 ct27 oc28 kV28 dc28 pm28 cd28 ct28 oc29 kV29 dc29 pm29 cd29 ct29 oc30 kV30 dc30 pm30 cd30 ct30 oc31 kV31 dc31 pm31 cd31 ct31 oc32 kV32 dc32 pm32 cd32 ct32 oc33 kV33 dc33 pm33 cd33 ct33 : Value}
    (a1 : PySem.W.nsIn K mainGlobals "products" = some (some (.ref f1))) (l1 : K.lookup f1 = some ⟨oc1, od1, .func (PySem.W.fnOf "products" "products" (zbj zhi) (zbf zhi) (zaj zhi) .none kV1 dc1 pm1 an1 cd1 ct1), sl1⟩) (c1 : PySem.W.codeIn K cd1 "products" = true) (k1 : PySem.W.keepIn K (.ref f1) = true)
    (a2 : PySem.W.nsIn K mainGlobals "names_of" = some (some (.ref f2))) (l2 : K.lookup f2 = some ⟨oc2, od2, .func (PySem.W.fnOf "names_of" "names_of" (zbj zhj) (zbf zhj) (zaj zhj) .none kV2 dc2 pm2 an2 cd2 ct2), sl2⟩) (c2 : PySem.W.codeIn K cd2 "names_of" = true) (k2 : PySem.W.keepIn K (.ref f2) = true)
    (a3 : PySem.W.nsIn K mainGlobals "names_in" = some (some (.ref f3))) (l3 : K.lookup f3 = some ⟨oc3, od3, .func (PySem.W.fnOf "names_in" "names_in" (zbj zhk) (zbf zhk) (zaj zhk) .none kV3 dc3 pm3 an3 cd3 ct3), sl3⟩) (c3 : PySem.W.codeIn K cd3 "names_in" = true) (k3 : PySem.W.keepIn K (.ref f3) = true)
    (a4 : PySem.W.nsIn K mainGlobals "check_kinds" = some (some (.ref f4))) (l4 : K.lookup f4 = some ⟨oc4, od4, .func (PySem.W.fnOf "check_kinds" "check_kinds" (zbj zen) (zbf zen) (zaj zen) .none kV4 dc4 pm4 an4 cd4 ct4), sl4⟩) (c4 : PySem.W.codeIn K cd4 "check_kinds" = true) (k4 : PySem.W.keepIn K (.ref f4) = true)
    (a5 : PySem.W.nsIn K mainGlobals "roofs_of" = some (some (.ref f5))) (l5 : K.lookup f5 = some ⟨oc5, od5, .func (PySem.W.fnOf "roofs_of" "roofs_of" (zbj zhl) (zbf zhl) (zaj zhl) .none kV5 dc5 pm5 an5 cd5 ct5), sl5⟩) (c5 : PySem.W.codeIn K cd5 "roofs_of" = true) (k5 : PySem.W.keepIn K (.ref f5) = true)
    (a6 : PySem.W.nsIn K mainGlobals "roof_of" = some (some (.ref f6))) (l6 : K.lookup f6 = some ⟨oc6, od6, .func (PySem.W.fnOf "roof_of" "roof_of" (zbj ziy) (zbf ziy) (zaj ziy) .none kV6 dc6 pm6 an6 cd6 ct6), sl6⟩) (c6 : PySem.W.codeIn K cd6 "roof_of" = true) (k6 : PySem.W.keepIn K (.ref f6) = true)
    (a7 : PySem.W.nsIn K mainGlobals "calls_of_names" = some (some (.ref f7))) (l7 : K.lookup f7 = some ⟨oc7, od7, .func (PySem.W.fnOf "calls_of_names" "calls_of_names" (zbj zcw) (zbf zcw) (zaj zcw) .none kV7 dc7 pm7 an7 cd7 ct7), sl7⟩) (c7 : PySem.W.codeIn K cd7 "calls_of_names" = true) (k7 : PySem.W.keepIn K (.ref f7) = true)
    (a8 : PySem.W.nsIn K mainGlobals "names_in_call" = some (some (.ref f8))) (l8 : K.lookup f8 = some ⟨oc8, od8, .func (PySem.W.fnOf "names_in_call" "names_in_call" (zbj zdm) (zbf zdm) (zaj zdm) .none kV8 dc8 pm8 an8 cd8 ct8), sl8⟩) (c8 : PySem.W.codeIn K cd8 "names_in_call" = true) (k8 : PySem.W.keepIn K (.ref f8) = true)
    (a9 : PySem.W.nsIn K mainGlobals "check_call" = some (some (.ref f9))) (l9 : K.lookup f9 = some ⟨oc9, od9, .func (PySem.W.fnOf "check_call" "check_call" (zbj zfi) (zbf zfi) (zaj zfi) .none kV9 dc9 pm9 an9 cd9 ct9), sl9⟩) (c9 : PySem.W.codeIn K cd9 "check_call" = true) (k9 : PySem.W.keepIn K (.ref f9) = true)
    (a10 : PySem.W.nsIn K mainGlobals "roofs_in_call" = some (some (.ref f10))) (l10 : K.lookup f10 = some ⟨oc10, od10, .func (PySem.W.fnOf "roofs_in_call" "roofs_in_call" (zbj zdn) (zbf zdn) (zaj zdn) .none kV10 dc10 pm10 an10 cd10 ct10), sl10⟩) (c10 : PySem.W.codeIn K cd10 "roofs_in_call" = true) (k10 : PySem.W.keepIn K (.ref f10) = true)
    (a11 : PySem.W.nsIn K mainGlobals "fits_under" = some (some (.ref f11))) (l11 : K.lookup f11 = some ⟨oc11, od11, .func (PySem.W.fnOf "fits_under" "fits_under" (zbj zfj) (zbf zfj) (zaj zfj) .none kV11 dc11 pm11 an11 cd11 ct11), sl11⟩) (c11 : PySem.W.codeIn K cd11 "fits_under" = true) (k11 : PySem.W.keepIn K (.ref f11) = true)
    (a12 : PySem.W.nsIn K mainGlobals "is_nearer" = some (some (.ref f12))) (l12 : K.lookup f12 = some ⟨oc12, od12, .func (PySem.W.fnOf "is_nearer" "is_nearer" (zbj zgg) (zbf zgg) (zaj zgg) .none kV12 dc12 pm12 an12 cd12 ct12), sl12⟩) (c12 : PySem.W.codeIn K cd12 "is_nearer" = true) (k12 : PySem.W.keepIn K (.ref f12) = true)
    (a13 : PySem.W.nsIn K mainGlobals "rules_that_fit" = some (some (.ref f13))) (l13 : K.lookup f13 = some ⟨oc13, od13, .func (PySem.W.fnOf "rules_that_fit" "rules_that_fit" (zbj zcx) (zbf zcx) (zaj zcx) .none kV13 dc13 pm13 an13 cd13 ct13), sl13⟩) (c13 : PySem.W.codeIn K cd13 "rules_that_fit" = true) (k13 : PySem.W.keepIn K (.ref f13) = true)
    (a14 : PySem.W.nsIn K mainGlobals "nearest_of" = some (some (.ref f14))) (l14 : K.lookup f14 = some ⟨oc14, od14, .func (PySem.W.fnOf "nearest_of" "nearest_of" (zbj zfk) (zbf zfk) (zaj zfk) .none kV14 dc14 pm14 an14 cd14 ct14), sl14⟩) (c14 : PySem.W.codeIn K cd14 "nearest_of" = true) (k14 : PySem.W.keepIn K (.ref f14) = true)
    (a15 : PySem.W.nsIn K mainGlobals "rule_names" = some (some (.ref f15))) (l15 : K.lookup f15 = some ⟨oc15, od15, .func (PySem.W.fnOf "rule_names" "rule_names" (zbj zfl) (zbf zfl) (zaj zfl) .none kV15 dc15 pm15 an15 cd15 ct15), sl15⟩) (c15 : PySem.W.codeIn K cd15 "rule_names" = true) (k15 : PySem.W.keepIn K (.ref f15) = true)
    (a16 : PySem.W.nsIn K mainGlobals "answer_by" = some (some (.ref f16))) (l16 : K.lookup f16 = some ⟨oc16, od16, .func (PySem.W.fnOf "answer_by" "answer_by" (zbj zgh) (zbf zgh) (zaj zgh) .none kV16 dc16 pm16 an16 cd16 ct16), sl16⟩) (c16 : PySem.W.codeIn K cd16 "answer_by" = true) (k16 : PySem.W.keepIn K (.ref f16) = true)
    (a17 : PySem.W.nsIn K mainGlobals "nearest" = some (some (.ref f17))) (l17 : K.lookup f17 = some ⟨oc17, od17, .func (PySem.W.fnOf "nearest" "nearest" (zbj ziz) (zbf ziz) (zaj ziz) .none kV17 dc17 pm17 an17 cd17 ct17), sl17⟩) (c17 : PySem.W.codeIn K cd17 "nearest" = true) (k17 : PySem.W.keepIn K (.ref f17) = true)
    (a18 : PySem.W.nsIn K mainGlobals "answer_of" = some (some (.ref f18))) (l18 : K.lookup f18 = some ⟨oc18, od18, .func (PySem.W.fnOf "answer_of" "answer_of" (zbj zgi) (zbf zgi) (zaj zgi) .none kV18 dc18 pm18 an18 cd18 ct18), sl18⟩) (c18 : PySem.W.codeIn K cd18 "answer_of" = true) (k18 : PySem.W.keepIn K (.ref f18) = true)
    (a19 : PySem.W.nsIn K mainGlobals "all_calls" = some (some (.ref f19))) (l19 : K.lookup f19 = some ⟨oc19, od19, .func (PySem.W.fnOf "all_calls" "all_calls" (zbj zgj) (zbf zgj) (zaj zgj) .none kV19 dc19 pm19 an19 cd19 ct19), sl19⟩) (c19 : PySem.W.codeIn K cd19 "all_calls" = true) (k19 : PySem.W.keepIn K (.ref f19) = true)
    (a20 : PySem.W.nsIn K mainGlobals "all_answers" = some (some (.ref f20))) (l20 : K.lookup f20 = some ⟨oc20, od20, .func (PySem.W.fnOf "all_answers" "all_answers" (zbj zeo) (zbf zeo) (zaj zeo) .none kV20 dc20 pm20 an20 cd20 ct20), sl20⟩) (c20 : PySem.W.codeIn K cd20 "all_answers" = true) (k20 : PySem.W.keepIn K (.ref f20) = true)
    (a21 : PySem.W.nsIn K mainGlobals "_law_pen" = some (some (.ref f21))) (l21 : K.lookup f21 = some ⟨oc21, od21, .func (PySem.W.fnOf "_law_pen" "_law_pen" (zbj zja) (zbf zja) (zaj zja) .none kV21 dc21 pm21 an21 cd21 ct21), sl21⟩) (c21 : PySem.W.codeIn K cd21 "_law_pen" = true) (k21 : PySem.W.keepIn K (.ref f21) = true)
    (a22 : PySem.W.nsIn K mainGlobals "_law_draw" = some (some (.ref f22))) (l22 : K.lookup f22 = some ⟨oc22, od22, .func (PySem.W.fnOf "_law_draw" "_law_draw" (zbj zhm) (zbf zhm) (zaj zhm) .none kV22 dc22 pm22 an22 cd22 ct22), sl22⟩) (c22 : PySem.W.codeIn K cd22 "_law_draw" = true) (k22 : PySem.W.keepIn K (.ref f22) = true)
    (a23 : PySem.W.nsIn K mainGlobals "_law_name" = some (some (.ref f23))) (l23 : K.lookup f23 = some ⟨oc23, od23, .func (PySem.W.fnOf "_law_name" "_law_name" (zbj zhn) (zbf zhn) (zaj zhn) .none kV23 dc23 pm23 an23 cd23 ct23), sl23⟩) (c23 : PySem.W.codeIn K cd23 "_law_name" = true) (k23 : PySem.W.keepIn K (.ref f23) = true)
    (a24 : PySem.W.nsIn K mainGlobals "_law_web" = some (some (.ref f24))) (l24 : K.lookup f24 = some ⟨oc24, od24, .func (PySem.W.fnOf "_law_web" "_law_web" (zbj zjc) (zbf zjc) (zaj zjc) .none kV24 dc24 pm24 an24 cd24 ct24), sl24⟩) (c24 : PySem.W.codeIn K cd24 "_law_web" = true) (k24 : PySem.W.keepIn K (.ref f24) = true)
    (a25 : PySem.W.nsIn K mainGlobals "_law_book" = some (some (.ref f25))) (l25 : K.lookup f25 = some ⟨oc25, od25, .func (PySem.W.fnOf "_law_book" "_law_book" (zbj zho) (zbf zho) (zaj zho) .none kV25 dc25 pm25 an25 cd25 ct25), sl25⟩) (c25 : PySem.W.codeIn K cd25 "_law_book" = true) (k25 : PySem.W.keepIn K (.ref f25) = true)
    (a26 : PySem.W.nsIn K mainGlobals "_law_up" = some (some (.ref f26))) (l26 : K.lookup f26 = some ⟨oc26, od26, .func (PySem.W.fnOf "_law_up" "_law_up" (zbj zld) (zbf zld) (zaj zld) .none kV26 dc26 pm26 an26 cd26 ct26), sl26⟩) (c26 : PySem.W.codeIn K cd26 "_law_up" = true) (k26 : PySem.W.keepIn K (.ref f26) = true)
    (a27 : PySem.W.nsIn K mainGlobals "_law_on" = some (some (.ref f27))) (l27 : K.lookup f27 = some ⟨oc27, od27, .func (PySem.W.fnOf "_law_on" "_law_on" (zbj zle) (zbf zle) (zaj zle) .none kV27 dc27 pm27 an27 cd27 ct27), sl27⟩) (c27 : PySem.W.codeIn K cd27 "_law_on" = true) (k27 : PySem.W.keepIn K (.ref f27) = true)
    (a28 : PySem.W.nsIn K mainGlobals "_law_told" = some (some (.ref f28))) (l28 : K.lookup f28 = some ⟨oc28, od28, .func (PySem.W.fnOf "_law_told" "_law_told" (zbj zhp) (zbf zhp) (zaj zhp) .none kV28 dc28 pm28 an28 cd28 ct28), sl28⟩) (c28 : PySem.W.codeIn K cd28 "_law_told" = true) (k28 : PySem.W.keepIn K (.ref f28) = true)
    (a29 : PySem.W.nsIn K mainGlobals "_law_calls" = some (some (.ref f29))) (l29 : K.lookup f29 = some ⟨oc29, od29, .func (PySem.W.fnOf "_law_calls" "_law_calls" (zbj zgl) (zbf zgl) (zaj zgl) .none kV29 dc29 pm29 an29 cd29 ct29), sl29⟩) (c29 : PySem.W.codeIn K cd29 "_law_calls" = true) (k29 : PySem.W.keepIn K (.ref f29) = true)
    (a30 : PySem.W.nsIn K mainGlobals "_law_same" = some (some (.ref f30))) (l30 : K.lookup f30 = some ⟨oc30, od30, .func (PySem.W.fnOf "_law_same" "_law_same" (zbj zhq) (zbf zhq) (zaj zhq) .none kV30 dc30 pm30 an30 cd30 ct30), sl30⟩) (c30 : PySem.W.codeIn K cd30 "_law_same" = true) (k30 : PySem.W.keepIn K (.ref f30) = true)
    (a31 : PySem.W.nsIn K mainGlobals "_law_copy" = some (some (.ref f31))) (l31 : K.lookup f31 = some ⟨oc31, od31, .func (PySem.W.fnOf "_law_copy" "_law_copy" (zbj zhr) (zbf zhr) (zaj zhr) .none kV31 dc31 pm31 an31 cd31 ct31), sl31⟩) (c31 : PySem.W.codeIn K cd31 "_law_copy" = true) (k31 : PySem.W.keepIn K (.ref f31) = true)
    (a32 : PySem.W.nsIn K mainGlobals "_law_due" = some (some (.ref f32))) (l32 : K.lookup f32 = some ⟨oc32, od32, .func (PySem.W.fnOf "_law_due" "_law_due" (zbj zjd) (zbf zjd) (zaj zjd) .none kV32 dc32 pm32 an32 cd32 ct32), sl32⟩) (c32 : PySem.W.codeIn K cd32 "_law_due" = true) (k32 : PySem.W.keepIn K (.ref f32) = true)
    (a33 : PySem.W.nsIn K mainGlobals "law" = some (some (.ref f33))) (l33 : K.lookup f33 = some ⟨oc33, od33, .func (PySem.W.fnOf "law" "law" (zbj zvv) (zbf zvv) (zaj zvv) .none kV33 dc33 pm33 an33 cd33 ct33), sl33⟩) (c33 : PySem.W.codeIn K cd33 "law" = true) (k33 : PySem.W.keepIn K (.ref f33) = true)
    (z1 : PySem.W.nsIn K mainGlobals "all" = some none) (z2 : PySem.W.nsIn K mainGlobals "any" = some none) (z3 : PySem.W.nsIn K mainGlobals "bool" = some none) (z4 : PySem.W.nsIn K mainGlobals "enumerate" = some none) (z5 : PySem.W.nsIn K mainGlobals "int" = some none) (z6 : PySem.W.nsIn K mainGlobals "isinstance" = some none) (z7 : PySem.W.nsIn K mainGlobals "len" = some none) (z8 : PySem.W.nsIn K mainGlobals "list" = some none) (z9 : PySem.W.nsIn K mainGlobals "min" = some none) (z10 : PySem.W.nsIn K mainGlobals "range" = some none) (z11 : PySem.W.nsIn K mainGlobals "str" = some none) (z12 : PySem.W.nsIn K mainGlobals "tuple" = some none) (z13 : PySem.W.nsIn K mainGlobals "zip" = some none) :
    ∃ fd : FuncData, (∀ (s : Shared) (v : Value), BindsTo s fd ⟨[v], []⟩ [("_law_script", v)]) ∧ ∀ base : Heap, K.In base → base.Ns mainGlobals mg → FnOk l.prog w K mg base CX0 9 fa fd ["_law_script"] (zakp K) := by
  have e := hfa.symm.trans (PySem.W.mg_of X G a33)
  cases e
  have T : Txt mg := ⟨PySem.W.mg_none_of X G z1, PySem.W.mg_none_of X G z2, PySem.W.mg_none_of X G z3, PySem.W.mg_none_of X G z4, PySem.W.mg_none_of X G z5, PySem.W.mg_none_of X G z6, PySem.W.mg_none_of X G z7, PySem.W.mg_none_of X G z8, PySem.W.mg_none_of X G z9, PySem.W.mg_none_of X G z10, PySem.W.mg_none_of X G z11, PySem.W.mg_none_of X G z12, PySem.W.mg_none_of X G z13⟩
  have F1 := zcl (st := zhi) l1 c1 k1
  have b1 := F1.binds (ps := ["rows"]) fun _ _ _ _ _ _ us hl => by obtain ⟨_, rfl⟩ := us_1 hl; rfl
  have F2 := zcl (st := zhj) l2 c2 k2
  have b2 := F2.binds (ps := ["web"]) fun _ _ _ _ _ _ us hl => by obtain ⟨_, rfl⟩ := us_1 hl; rfl
  have F3 := zcl (st := zhk) l3 c3 k3
  have b3 := F3.binds (ps := ["arm"]) fun _ _ _ _ _ _ us hl => by obtain ⟨_, rfl⟩ := us_1 hl; rfl
  have F4 := zcl (st := zen) l4 c4 k4
  have b4 := F4.binds (ps := ["web", "names"]) fun _ _ _ _ _ _ us hl => by obtain ⟨_, _, rfl⟩ := us_2 hl; rfl
  have F5 := zcl (st := zhl) l5 c5 k5
  have b5 := F5.binds (ps := ["web"]) fun _ _ _ _ _ _ us hl => by obtain ⟨_, rfl⟩ := us_1 hl; rfl
  have F6 := zcl (st := ziy) l6 c6 k6
  have b6 := F6.binds (ps := ["roofs", "arm"]) fun _ _ _ _ _ _ us hl => by obtain ⟨_, _, rfl⟩ := us_2 hl; rfl
  have F7 := zcl (st := zcw) l7 c7 k7
  have b7 := F7.binds (ps := ["web", "places"]) fun _ _ _ _ _ _ us hl => by obtain ⟨_, _, rfl⟩ := us_2 hl; rfl
  have F8 := zcl (st := zdm) l8 c8 k8
  have b8 := F8.binds (ps := ["call"]) fun _ _ _ _ _ _ us hl => by obtain ⟨_, rfl⟩ := us_1 hl; rfl
  have F9 := zcl (st := zfi) l9 c9 k9
  have b9 := F9.binds (ps := ["web", "places", "call"]) fun _ _ _ _ _ _ us hl => by obtain ⟨_, _, _, rfl⟩ := us_3 hl; rfl
  have F10 := zcl (st := zdn) l10 c10 k10
  have b10 := F10.binds (ps := ["roofs", "call"]) fun _ _ _ _ _ _ us hl => by obtain ⟨_, _, rfl⟩ := us_2 hl; rfl
  have F11 := zcl (st := zfj) l11 c11 k11
  have b11 := F11.binds (ps := ["kinds", "call_roofs"]) fun _ _ _ _ _ _ us hl => by obtain ⟨_, _, rfl⟩ := us_2 hl; rfl
  have F12 := zcl (st := zgg) l12 c12 k12
  have b12 := F12.binds (ps := ["roofs", "one", "other"]) fun _ _ _ _ _ _ us hl => by obtain ⟨_, _, _, rfl⟩ := us_3 hl; rfl
  have F13 := zcl (st := zcx) l13 c13 k13
  have b13 := F13.binds (ps := ["book", "call"]) fun _ _ _ _ _ _ us hl => by obtain ⟨_, _, rfl⟩ := us_2 hl; rfl
  have F14 := zcl (st := zfk) l14 c14 k14
  have b14 := F14.binds (ps := ["roofs", "rules"]) fun _ _ _ _ _ _ us hl => by obtain ⟨_, _, rfl⟩ := us_2 hl; rfl
  have F15 := zcl (st := zfl) l15 c15 k15
  have b15 := F15.binds (ps := ["rules"]) fun _ _ _ _ _ _ us hl => by obtain ⟨_, rfl⟩ := us_1 hl; rfl
  have F16 := zcl (st := zgh) l16 c16 k16
  have b16 := F16.binds (ps := ["names"]) fun _ _ _ _ _ _ us hl => by obtain ⟨_, rfl⟩ := us_1 hl; rfl
  have F17 := zcl (st := ziz) l17 c17 k17
  have b17 := F17.binds (ps := ["book", "call"]) fun _ _ _ _ _ _ us hl => by obtain ⟨_, _, rfl⟩ := us_2 hl; rfl
  have F18 := zcl (st := zgi) l18 c18 k18
  have b18 := F18.binds (ps := ["book", "call"]) fun _ _ _ _ _ _ us hl => by obtain ⟨_, _, rfl⟩ := us_2 hl; rfl
  have F19 := zcl (st := zgj) l19 c19 k19
  have b19 := F19.binds (ps := ["book"]) fun _ _ _ _ _ _ us hl => by obtain ⟨_, rfl⟩ := us_1 hl; rfl
  have F20 := zcl (st := zeo) l20 c20 k20
  have b20 := F20.binds (ps := ["book"]) fun _ _ _ _ _ _ us hl => by obtain ⟨_, rfl⟩ := us_1 hl; rfl
  have F21 := zcl (st := zja) l21 c21 k21
  have b21 := F21.binds (ps := ["_law_script"]) fun _ _ _ _ _ _ us hl => by obtain ⟨_, rfl⟩ := us_1 hl; rfl
  have F22 := zcl (st := zhm) l22 c22 k22
  have b22 := F22.binds (ps := ["_law_pen_here", "_law_many"]) fun _ _ _ _ _ _ us hl => by obtain ⟨_, _, rfl⟩ := us_2 hl; rfl
  have F23 := zcl (st := zhn) l23 c23 k23
  have b23 := F23.binds (ps := ["_law_pen_here", "_law_names"]) fun _ _ _ _ _ _ us hl => by obtain ⟨_, _, rfl⟩ := us_2 hl; rfl
  have F24 := zcl (st := zjc) l24 c24 k24
  have b24 := F24.binds (ps := ["_law_pen_here", "_law_size"]) fun _ _ _ _ _ _ us hl => by obtain ⟨_, _, rfl⟩ := us_2 hl; rfl
  have F25 := zcl (st := zho) l25 c25 k25
  have b25 := F25.binds (ps := ["_law_pen_here"]) fun _ _ _ _ _ _ us hl => by obtain ⟨_, rfl⟩ := us_1 hl; rfl
  have F26 := zcl (st := zld) l26 c26 k26
  have b26 := F26.binds (ps := ["_law_web_here"]) fun _ _ _ _ _ _ us hl => by obtain ⟨_, rfl⟩ := us_1 hl; rfl
  have F27 := zcl (st := zle) l27 c27 k27
  have b27 := F27.binds (ps := ["_law_up_here", "_law_call", "_law_kinds"]) fun _ _ _ _ _ _ us hl => by obtain ⟨_, _, _, rfl⟩ := us_3 hl; rfl
  have F28 := zcl (st := zhp) l28 c28 k28
  have b28 := F28.binds (ps := ["_law_up_here", "_law_rules", "_law_call"]) fun _ _ _ _ _ _ us hl => by obtain ⟨_, _, _, rfl⟩ := us_3 hl; rfl
  have F29 := zcl (st := zgl) l29 c29 k29
  have b29 := F29.binds (ps := ["_law_book_here"]) fun _ _ _ _ _ _ us hl => by obtain ⟨_, rfl⟩ := us_1 hl; rfl
  have F30 := zcl (st := zhq) l30 c30 k30
  have b30 := F30.binds (ps := ["_law_due_here", "_law_thing"]) fun _ _ _ _ _ _ us hl => by obtain ⟨_, _, rfl⟩ := us_2 hl; rfl
  have F31 := zcl (st := zhr) l31 c31 k31
  have b31 := F31.binds (ps := ["_law_book_here"]) fun _ _ _ _ _ _ us hl => by obtain ⟨_, rfl⟩ := us_1 hl; rfl
  have F32 := zcl (st := zjd) l32 c32 k32
  have b32 := F32.binds (ps := ["_law_book_here"]) fun _ _ _ _ _ _ us hl => by obtain ⟨_, rfl⟩ := us_1 hl; rfl
  have F33 := zcl (st := zvv) l33 c33 k33
  refine ⟨PySem.W.fnOf "law" "law" (zbj zvv) (zbf zvv) (zaj zvv) .none kV33 dc33 pm33 an33 cd33 ct33, fun s v => .of_eq rfl, fun base _ _ => ?_⟩
  have D_products : zuc l.prog w K mg base := ⟨f1, _, zaan F1 T , PySem.W.mg_of X G a1, k1, b1⟩
  have D_names_of : zoj l.prog w K mg base := ⟨f2, _, zaao F2 T , PySem.W.mg_of X G a2, k2, b2⟩
  have D_names_in : zok l.prog w K mg base := ⟨f3, _, zaap F3 T , PySem.W.mg_of X G a3, k3, b3⟩
  have D_check_kinds : znd l.prog w K mg base := ⟨f4, _, zst F4 T D_names_of, PySem.W.mg_of X G a4, k4, b4⟩
  have D_roofs_of : zol l.prog w K mg base := ⟨f5, _, zaaq F5 T , PySem.W.mg_of X G a5, k5, b5⟩
  have D_roof_of : zyk l.prog w K mg base := ⟨f6, _, zadn F6 T D_names_in, PySem.W.mg_of X G a6, k6, b6⟩
  have D_calls_of_names : zka l.prog w K mg base := ⟨f7, _, zon F7 T D_names_of D_products, PySem.W.mg_of X G a7, k7, b7⟩
  have D_names_in_call : zkv l.prog w K mg base := ⟨f8, _, zpp F8 T D_names_in, PySem.W.mg_of X G a8, k8, b8⟩
  have D_check_call : zpe l.prog w K mg base := ⟨f9, _, zvx F9 T D_check_kinds D_names_in_call, PySem.W.mg_of X G a9, k9, b9⟩
  have D_roofs_in_call : zkw l.prog w K mg base := ⟨f10, _, zpq F10 T D_roof_of, PySem.W.mg_of X G a10, k10, b10⟩
  have D_fits_under : zpf l.prog w K mg base := ⟨f11, _, zvy F11 T , PySem.W.mg_of X G a11, k11, b11⟩
  have D_is_nearer : zsd l.prog w K mg base := ⟨f12, _, zyp F12 T , PySem.W.mg_of X G a12, k12, b12⟩
  have D_rules_that_fit : zkb l.prog w K mg base := ⟨f13, _, zoo F13 T D_check_call D_fits_under D_roofs_in_call D_roofs_of, PySem.W.mg_of X G a13, k13, b13⟩
  have D_nearest_of : zpg l.prog w K mg base := ⟨f14, _, zvz F14 T D_is_nearer, PySem.W.mg_of X G a14, k14, b14⟩
  have D_rule_names : zph l.prog w K mg base := ⟨f15, _, zwa F15 T , PySem.W.mg_of X G a15, k15, b15⟩
  have D_answer_by : zse l.prog w K mg base := ⟨f16, _, zyq F16 T , PySem.W.mg_of X G a16, k16, b16⟩
  have D_nearest : zyl l.prog w K mg base := ⟨f17, _, zado F17 T D_nearest_of D_roofs_of D_rule_names D_rules_that_fit, PySem.W.mg_of X G a17, k17, b17⟩
  have D_answer_of : zsf l.prog w K mg base := ⟨f18, _, zyr F18 T D_answer_by D_nearest, PySem.W.mg_of X G a18, k18, b18⟩
  have D_all_calls : zsg l.prog w K mg base := ⟨f19, _, zys F19 T D_calls_of_names, PySem.W.mg_of X G a19, k19, b19⟩
  have D_all_answers : zne l.prog w K mg base := ⟨f20, _, zsu F20 T D_all_calls D_answer_of, PySem.W.mg_of X G a20, k20, b20⟩
  have D_law_pen : zym l.prog w K mg base := ⟨f21, _, zadp F21 T , PySem.W.mg_of X G a21, k21, b21⟩
  have D_law_draw : zje l.prog w K mg base := ⟨f22, _, zaar F22 T , PySem.W.mg_of X G a22, k22, b22⟩
  have D_law_name : zom l.prog w K mg base := ⟨f23, _, zaas F23 T D_law_draw, PySem.W.mg_of X G a23, k23, b23⟩
  have D_law_web : zyn l.prog w K mg base := ⟨f24, _, zadq F24 T D_law_draw D_law_name, PySem.W.mg_of X G a24, k24, b24⟩
  have D_law_book : zud l.prog w K mg base := ⟨f25, _, zaat F25 T D_law_draw D_law_name D_law_web, PySem.W.mg_of X G a25, k25, b25⟩
  have D_law_up : zacl l.prog w K mg base := ⟨f26, _, zahe F26 T , PySem.W.mg_of X G a26, k26, b26⟩
  have D_law_on : zacm l.prog w K mg base := ⟨f27, _, zahf F27 T , PySem.W.mg_of X G a27, k27, b27⟩
  have D_law_told : zue l.prog w K mg base := ⟨f28, _, zaau F28 T D_law_on, PySem.W.mg_of X G a28, k28, b28⟩
  have D_law_calls : zsh l.prog w K mg base := ⟨f29, _, zyt F29 T , PySem.W.mg_of X G a29, k29, b29⟩
  have D_law_same : zuf l.prog w K mg base := ⟨f30, _, zaav F30 T  (PySem.W.mg_of X G a30) k30 b30 7, PySem.W.mg_of X G a30, k30, b30⟩
  have D_law_copy : zug l.prog w K mg base := ⟨f31, _, zaaw F31 T , PySem.W.mg_of X G a31, k31, b31⟩
  have D_law_due : zyo l.prog w K mg base := ⟨f32, _, zadr F32 T D_law_calls D_law_told D_law_up, PySem.W.mg_of X G a32, k32, b32⟩
  exact zard F33 T D_law_book D_law_copy D_law_draw D_law_due D_law_pen D_law_same D_all_answers
theorem walk {l : PySem.W.OpenLaw} {q : Program} {loose : List Str} {XP : (Str → Option Value) → Heap → Prop} {YP : World → Heap → Prop} {d : DefRec} {K : Params → PySem.W.Frag} (hn : l.most = some 63) (hdf : d.params.defaults = [])
    (hY : ∀ (w : World) (h : Heap), YP w h → (K w.params).In h)
    (F : ∀ (w : World) (mg : Str → Option Value) (fa : Addr) (h : Heap), (K w.params).In h → h.Ns mainGlobals mg → mg d.name = some (.ref fa) →
      ∃ fd : FuncData, (∀ (s : Shared) (u : Value), BindsTo s fd ⟨[u], []⟩ [("_law_script", u)]) ∧ ∀ base : Heap, (K w.params).In base → base.Ns mainGlobals mg → FnOk l.prog w (K w.params) mg base CX0 9 fa fd ["_law_script"] (zakp (K w.params))) :
    PySem.W.WalkO q loose XP YP l.row.toRowW d [] (fun f vs => PySem.call f vs) :=
  L2.walk_of (n := 63) (k := 9) (x := "_law_script") (CX := fun _ => CX0) (sp := fun w => zakp (K w.params)) hn (by decide) hdf ⟨rfl, by decide, by decide⟩ hY F (fun _ _ a ns hl _ hS => ⟨a, ns, rfl, hS, fun _ => rfl⟩) fun _ _ _ _ _ z => z
end Bc
open PySem PySem.W PyProof.Rows
set_option maxRecDepth 100000 in
set_option maxHeartbeats 0 in
theorem PySem.Challenge.cw_bestcalls_k38_answers_of_all_calls_holds : PySem.Challenge.rw_bestcalls_k38_answers_of_all_calls.Holds := by
  w_on; o_law; k_head; (case hw => w_witness2)
  k_fill
  refine Bc.walk (l := PySem.Challenge.rw_bestcalls_k38_answers_of_all_calls) rfl rfl (fun w h Y => PySem.W.kIn_of Y) ?F
  case F =>
    intro w mg fa h KX G hmg
    refine' Bc.all_mk KX G hmg ?a1 ?l1 ?c1 ?k1 ?a2 ?l2 ?c2 ?k2 ?a3 ?l3 ?c3 ?k3 ?a4 ?l4 ?c4 ?k4 ?a5 ?l5 ?c5 ?k5 ?a6 ?l6 ?c6 ?k6 ?a7 ?l7 ?c7 ?k7 ?a8 ?l8 ?c8 ?k8 ?a9 ?l9 ?c9 ?k9 ?a10 ?l10 ?c10 ?k10 ?a11 ?l11 ?c11 ?k11 ?a12 ?l12 ?c12 ?k12 ?a13 ?l13 ?c13 ?k13 ?a14 ?l14 ?c14 ?k14 ?a15 ?l15 ?c15 ?k15 ?a16 ?l16 ?c16 ?k16 ?a17 ?l17 ?c17 ?k17 ?a18 ?l18 ?c18 ?k18 ?a19 ?l19 ?c19 ?k19 ?a20 ?l20 ?c20 ?k20 ?a21 ?l21 ?c21 ?k21 ?a22 ?l22 ?c22 ?k22 ?a23 ?l23 ?c23 ?k23 ?a24 ?l24 ?c24 ?k24 ?a25 ?l25 ?c25 ?k25 ?a26 ?l26 ?c26 ?k26 ?a27 ?l27 ?c27 ?k27 ?a28 ?l28 ?c28 ?k28 ?a29 ?l29 ?c29 ?k29 ?a30 ?l30 ?c30 ?k30 ?a31 ?l31 ?c31 ?k31 ?a32 ?l32 ?c32 ?k32 ?a33 ?l33 ?c33 ?k33 ?z1 ?z2 ?z3 ?z4 ?z5 ?z6 ?z7 ?z8 ?z9 ?z10 ?z11 ?z12 ?z13
    (case a1 => k_is)
    (case l1 => k_is)
    (case c1 => k_is)
    (case k1 => k_is)
    (case a2 => k_is)
    (case l2 => k_is)
    (case c2 => k_is)
    (case k2 => k_is)
    (case a3 => k_is)
    (case l3 => k_is)
    (case c3 => k_is)
    (case k3 => k_is)
    (case a4 => k_is)
    (case l4 => k_is)
    (case c4 => k_is)
    (case k4 => k_is)
    (case a5 => k_is)
    (case l5 => k_is)
    (case c5 => k_is)
    (case k5 => k_is)
    (case a6 => k_is)
    (case l6 => k_is)
    (case c6 => k_is)
    (case k6 => k_is)
    (case a7 => k_is)
    (case l7 => k_is)
    (case c7 => k_is)
    (case k7 => k_is)
    (case a8 => k_is)
    (case l8 => k_is)
    (case c8 => k_is)
    (case k8 => k_is)
    (case a9 => k_is)
    (case l9 => k_is)
    (case c9 => k_is)
    (case k9 => k_is)
    (case a10 => k_is)
    (case l10 => k_is)
    (case c10 => k_is)
    (case k10 => k_is)
    (case a11 => k_is)
    (case l11 => k_is)
    (case c11 => k_is)
    (case k11 => k_is)
    (case a12 => k_is)
    (case l12 => k_is)
    (case c12 => k_is)
    (case k12 => k_is)
    (case a13 => k_is)
    (case l13 => k_is)
    (case c13 => k_is)
    (case k13 => k_is)
    (case a14 => k_is)
    (case l14 => k_is)
    (case c14 => k_is)
    (case k14 => k_is)
    (case a15 => k_is)
    (case l15 => k_is)
    (case c15 => k_is)
    (case k15 => k_is)
    (case a16 => k_is)
    (case l16 => k_is)
    (case c16 => k_is)
    (case k16 => k_is)
    (case a17 => k_is)
    (case l17 => k_is)
    (case c17 => k_is)
    (case k17 => k_is)
    (case a18 => k_is)
    (case l18 => k_is)
    (case c18 => k_is)
    (case k18 => k_is)
    (case a19 => k_is)
    (case l19 => k_is)
    (case c19 => k_is)
    (case k19 => k_is)
    (case a20 => k_is)
    (case l20 => k_is)
    (case c20 => k_is)
    (case k20 => k_is)
    (case a21 => k_is)
    (case l21 => k_is)
    (case c21 => k_is)
    (case k21 => k_is)
    (case a22 => k_is)
    (case l22 => k_is)
    (case c22 => k_is)
    (case k22 => k_is)
    (case a23 => k_is)
    (case l23 => k_is)
    (case c23 => k_is)
    (case k23 => k_is)
    (case a24 => k_is)
    (case l24 => k_is)
    (case c24 => k_is)
    (case k24 => k_is)
    (case a25 => k_is)
    (case l25 => k_is)
    (case c25 => k_is)
    (case k25 => k_is)
    (case a26 => k_is)
    (case l26 => k_is)
    (case c26 => k_is)
    (case k26 => k_is)
    (case a27 => k_is)
    (case l27 => k_is)
    (case c27 => k_is)
    (case k27 => k_is)
    (case a28 => k_is)
    (case l28 => k_is)
    (case c28 => k_is)
    (case k28 => k_is)
    (case a29 => k_is)
    (case l29 => k_is)
    (case c29 => k_is)
    (case k29 => k_is)
    (case a30 => k_is)
    (case l30 => k_is)
    (case c30 => k_is)
    (case k30 => k_is)
    (case a31 => k_is)
    (case l31 => k_is)
    (case c31 => k_is)
    (case k31 => k_is)
    (case a32 => k_is)
    (case l32 => k_is)
    (case c32 => k_is)
    (case k32 => k_is)
    (case a33 => k_is)
    (case l33 => k_is)
    (case c33 => k_is)
    (case k33 => k_is)
    (case z1 => k_is)
    (case z2 => k_is)
    (case z3 => k_is)
    (case z4 => k_is)
    (case z5 => k_is)
    (case z6 => k_is)
    (case z7 => k_is)
    (case z8 => k_is)
    (case z9 => k_is)
    (case z10 => k_is)
    (case z11 => k_is)
    (case z12 => k_is)
    (case z13 => k_is)
