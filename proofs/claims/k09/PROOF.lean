import PyProof.Rows.All
import Wide.All
import OpenK.AllK
import Wide.FinOn
import Lean
import PyProof.EqAt
import PyProof.EqKinds
import PyProof.TupleCall
import KE.KRevSl
import PySem.Challenge.RW_bestcalls_k09_roads_and_hedges_looked_at
-- CHANGE: your row's module here, as the last of these rows
set_option Elab.async false
set_option linter.all false
set_option maxRecDepth 100000
/-! THE HAND LAYER, for ints, bools, texts, own classes, LISTS and tuples (index, slices, in, append, pop ..), calls, loops. Paste it whole ahead of your own text; what your proof does not reach may be deleted. -/
namespace L2
open PySem PySem.Spec PyProof.Rows

/-- a key: an int or a str -/
abbrev Key := Sum Int Str
def keyIs : Key → Value → Bool
  | .inl k, v => Value.isInt k v
  | .inr x, v => Value.isStrOf x v
def keyH (w : World) : Key → Int
  | .inl k => hashInt k
  | .inr x => hashStr w x
theorem keyIs_shape : ∀ {k : Key} {v : Value}, keyIs k v = true → (∃ i t, k = Sum.inl i ∧ v = Value.int i t) ∨ (∃ x t, k = Sum.inr x ∧ v = Value.str x t)
  | .inl i, v, h => by
    obtain ⟨t, e⟩ := Value.isInt_shape (k := i) (v := v) h
    exact .inl ⟨i, t, rfl, e⟩
  | .inr x, v, h => by
    obtain ⟨t, e⟩ := Value.isStrOf_shape (x := x) (v := v) h
    exact .inr ⟨x, t, rfl, e⟩
theorem keyIs_int (i : Int) (t : Tok) : keyIs (.inl i) (.int i t) = true := by simp [keyIs, Value.isInt]
theorem keyIs_str (x : Str) (t : Tok) : keyIs (.inr x) (.str x t) = true := by simp [keyIs, Value.isStrOf]
theorem key_ll (a b : Int) : decide ((Sum.inl a : Key) = Sum.inl b) = (a == b) := by
  by_cases e : a = b
  · subst e; simp
  · have h : ¬ (Sum.inl a : Key) = Sum.inl b := fun q => e (Sum.inl.inj q)
    rw [decide_eq_false h]
    exact (beq_eq_false_iff_ne.mpr e).symm
theorem key_rr (a b : Str) : decide ((Sum.inr a : Key) = Sum.inr b) = decide (a = b) := by
  by_cases e : a = b
  · subst e; simp
  · have h : ¬ (Sum.inr a : Key) = Sum.inr b := fun q => e (Sum.inr.inj q)
    rw [decide_eq_false h, decide_eq_false e]
theorem key_lr (a : Int) (b : Str) : decide ((Sum.inl a : Key) = Sum.inr b) = false := decide_eq_false (fun q => nomatch q)
theorem key_rl (a : Str) (b : Int) : decide ((Sum.inr a : Key) = Sum.inl b) = false := decide_eq_false (fun q => nomatch q)

def mixKind (prog : Program) (w : World) : PySem.KeyKind prog w Key where
  is := keyIs
  hash := keyH w
  inj := fun v a b ha hb => by
    rcases keyIs_shape ha with ⟨i, t, rfl, rfl⟩ | ⟨x, t, rfl, rfl⟩
    · rcases keyIs_shape hb with ⟨j, u, rfl, e⟩ | ⟨y, u, rfl, e⟩
      · injection e with e1 _; rw [e1]
      · exact nomatch e
    · rcases keyIs_shape hb with ⟨j, u, rfl, e⟩ | ⟨y, u, rfl, e⟩
      · exact nomatch e
      · injection e with e1 _; rw [e1]
  byValue := fun k v h => by
    rcases keyIs_shape h with ⟨i, t, rfl, rfl⟩ | ⟨x, t, rfl, rfl⟩ <;> rfl
  pyHash := fun hv h => by
    rcases keyIs_shape hv with ⟨i, t, rfl, rfl⟩ | ⟨x, t, rfl, rfl⟩
    · exact wpAny_pyHash_int h
    · exact wpAny_pyHash_str h
  eqBool := fun hu hv h => by
    rcases keyIs_shape hu with ⟨i, t, rfl, rfl⟩ | ⟨x, t, rfl, rfl⟩
    · rcases keyIs_shape hv with ⟨j, u, rfl, rfl⟩ | ⟨y, u, rfl, rfl⟩
      · rw [key_ll] at h; exact wpAny_eqBool_int h
      · rw [key_lr] at h; exact SeqAt.EqAt.int_str i t y u _ _ _ _ h
    · rcases keyIs_shape hv with ⟨j, u, rfl, rfl⟩ | ⟨y, u, rfl, rfl⟩
      · rw [key_rl] at h; exact SeqAt.EqAt.str_int x t j u _ _ _ _ h
      · rw [key_rr] at h; exact wpAny_eqBool_str h
  «strs» := fun k x t v h => by
    rcases keyIs_shape h with ⟨i, u, rfl, e⟩ | ⟨y, u, rfl, e⟩
    · exact nomatch e
    · injection e with e1 _
      subst e1
      cases v <;> rfl

theorem mixKind_int (prog : Program) (w : World) (i : Int) (t : Tok) : (mixKind prog w).is (.inl i) (.int i t) = true := keyIs_int i t
theorem mixKind_str (prog : Program) (w : World) (x : Str) (t : Tok) : (mixKind prog w).is (.inr x) (.str x t) = true := keyIs_str x t
end L2

namespace L2
open PySem PySem.Spec PyProof.Rows

/-- a value, without the heap -/
inductive V where
  | non | bl (b : Bool) | int (i : Int) | str (x : Str) | byt (b : Array UInt8) | flt (b : UInt64) | ref (a : Addr) | ty (n : String)
  deriving DecidableEq

def RelV : V → Value → Prop
  | .non, u => u = Value.none
  | .bl b, u => u = Value.bool b
  | .int i, u => ∃ t, u = Value.int i t
  | .str x, u => ∃ t, u = Value.str x t
  | .byt b, u => ∃ t, u = Value.bytes b t
  | .flt b, u => ∃ t, u = Value.float b t
  | .ref a, u => u = Value.ref a
  | .ty n, u => u = Value.type n

abbrev Vals : List V → List Value → Prop := Paired RelV
theorem Vals.length {xs : List V} {us : List Value} (r : Vals xs us) : xs.length = us.length := Paired.length r
theorem Vals.get : ∀ {xs : List V} {us : List Value} {i : Nat} {x : V}, Vals xs us → xs[i]? = some x → ∃ u, us[i]? = some u ∧ RelV x u
  | _, _, _, _, .nil, e => by simp at e
  | _, _, 0, _, .cons r _, e => by simp at e; subst e; exact ⟨_, rfl, r⟩
  | _, _, i + 1, x, .cons _ t, e => by
    obtain ⟨u, h1, h2⟩ := Vals.get (i := i) (x := x) t (by simpa using e)
    exact ⟨u, by simpa using h1, h2⟩
theorem Vals.set {x : V} {u : Value} (r : RelV x u) : ∀ {xs : List V} {us : List Value} (i : Nat), Vals xs us → Vals (xs.set i x) (us.set i u)
  | _, _, _, .nil => .nil
  | _, _, 0, .cons _ t => .cons r t
  | _, _, i + 1, .cons q t => .cons q (Vals.set r i t)
theorem Vals.append : ∀ {xs ys : List V} {us ws : List Value}, Vals xs us → Vals ys ws → Vals (xs ++ ys) (us ++ ws)
  | _, _, _, _, .nil, s => s
  | _, _, _, _, .cons r t, s => .cons r (Vals.append t s)
theorem Vals.take : ∀ {xs : List V} {us : List Value} (n : Nat), Vals xs us → Vals (xs.take n) (us.take n)
  | _, _, 0, _ => .nil
  | _, _, _ + 1, .nil => .nil
  | _, _, n + 1, .cons r t => .cons r (Vals.take n t)
theorem Vals.drop : ∀ {xs : List V} {us : List Value} (n : Nat), Vals xs us → Vals (xs.drop n) (us.drop n)
  | _, _, 0, r => r
  | _, _, _ + 1, .nil => .nil
  | _, _, n + 1, .cons _ t => Vals.drop n t

def RelO : Option V → Option Value → Prop
  | some v, some u => RelV v u
  | none, none => True
  | _, _ => False
def KV {κ : Type} : List (κ × V) → List (κ × Value) → Prop := Paired fun (p : κ × V) (q : κ × Value) => p.1 = q.1 ∧ RelV p.2 q.2

/-- a key of a dict (00_mix): an int or a text -/
def kV : Key → V
  | .inl i => .int i
  | .inr x => .str x

/-- what stands at a tracked address -/
inductive HO where
  /-- a list -/
  | lst (xs : List V)
  /-- a tuple (never changes) -/
  | tup (xs : List V)
  /-- a dict whose keys are ints and texts; one whose keys are tuples of ints and texts (the empty one is both) -/
  | dK (kvs : List (Key × V)) | dT (kvs : List (List Key × V))
  /-- a set of ints: its members, its size -/
  | set (S : Int → Bool) (n : Nat)
  /-- an instance of the class at C, its dict at dx, its attributes -/
  | ins (C dx : Addr) (fs : List (Str × V))
  /-- the dict of the instance at x -/
  | own (x : Addr)
  /-- the dict of an exception -/
  | xd (fs : List (Str × V))
  /-- a bound method, f of x -/
  | met (f x : Addr)
  /-- a range object lo, lo + 1, .. below hi -/
  | rng (lo hi : Int)
  /-- a thing that is known to the object (the script; a dict while a loop walks it): read, never written while it is so -/
  | frz (o : Obj) (u : HO)
  /-- a code object's table -/
  | tbl (ps : Array Value)
  /-- any other thing, by what is true of its one object (a def of one's own: SetO a S n := HO.ext fun h => ..) -/
  | ext (φ : Heap → Prop)

abbrev Hp := Addr → Option HO
def upd (H : Hp) (a : Addr) (o : HO) : Hp := fun b => if b = a then some o else H b
theorem upd_same {H : Hp} {a : Addr} {o : HO} : upd H a o a = some o := by unfold upd; rw [if_pos rfl]
theorem upd_ne {H : Hp} {a b : Addr} {o : HO} (h : b ≠ a) : upd H a o b = H b := by unfold upd; rw [if_neg h]
theorem upd_upd {H : Hp} {a : Addr} {o u : HO} : upd (upd H a o) a u = upd H a u := by
  funext b; unfold upd; split <;> rfl
/-- two objects of different content stand apart -/
theorem ne_of {H : Hp} {a b : Addr} {o u : HO} (h : H a = some o) (h' : H b = some u) (d : o ≠ u) : a ≠ b := by
  intro e; subst e; rw [h] at h'; exact d (Option.some.inj h')
theorem ne_of_none {H : Hp} {a b : Addr} {o : HO} (h : H a = some o) (h' : H b = none) : a ≠ b := by
  intro e; subst e; rw [h] at h'; cases h'

section
variable (P : Program) (w : World)
def ObjOk (H : Hp) (h : Heap) (a : Addr) : HO → Prop
  | .lst xs => xs.length ≤ sizeLine ∧ ∃ (its : List Value) (n : Nat), Vals xs its ∧ h.get? a = some { cls := .type "list", data := .seq its.toArray n }
  | .tup xs => xs.length ≤ sizeLine ∧ ∃ its : List Value, Vals xs its ∧ IsTup h a its.toArray
  | .dK kvs => kvs.length ≤ sizeLine ∧ (a == sysModules) = false ∧ ∃ vs, KV kvs vs ∧ h.DictOf (mixKind P w) a vs
  | .dT kvs => kvs.length ≤ sizeLine ∧ (a == sysModules) = false ∧ ∃ xs : List (List Key × Addr × Value),
      Paired (fun (p : List Key × V) (q : List Key × Addr × Value) => p.1 = q.1 ∧ H q.2.1 = some (.tup (p.1.map kV)) ∧ RelV p.2 q.2.2) kvs xs ∧
      ∃ o es ep, h.get? a = some o ∧ o.ExactDict ∧ o.data = .dict es ep ∧ es.toList = xs.map (entryOfKey (tupleKind (mixKind P w))) ∧ (xs.map (·.1)).Nodup
  | .set S n => h.SetOf (intKind P w) a S n
  | .ins C dx fs => H dx = some (.own a) ∧ fs.length ≤ 1000 ∧ dx ≠ a ∧ h.get? a = some (PySem.W.instObj C dx) ∧
      ∃ mA, h.Ns1 dx mA ∧ (∀ f, RelO (fs.lookup f) (mA f)) ∧ PySem.Within mA (fs.map (·.1))
  | .own _ => ∃ o, h.get? a = some o
  | .xd fs => ∃ mA, h.Ns1 a mA ∧ ∀ f, RelO (fs.lookup f) (mA f)
  | .rng lo hi => ∃ t u v, h.get? a = some { cls := .type "range", data := .fields #[.int lo t, .int hi u, .int 1 v] }
  | .frz o u => h.get? a = some o ∧ ObjOk H h a u
  | .tbl ps => h.get? a = some { cls := .none, data := .fields ps }
  | .met f x => h.get? a = some (PySem.W.methodObj (.ref f) (.ref x))
  | .ext φ => φ h ∧ (∃ o, h.get? a = some o) ∧ ∀ h1 h2 : Heap, φ h1 → (∀ o, h1.get? a = some o → h2.get? a = some o) → φ h2
/-- the abstract heap is held -/
def HOk (H : Hp) (h : Heap) : Prop := ∀ a o, H a = some o → ObjOk P w H h a o
end

section
variable {P : Program} {w : World} {H H' : Hp} {h h' : Heap} {a : Addr} {o : HO}
theorem ObjOk.lt (x : ObjOk P w H h a o) : a < h.objs.size := by
  cases o with
  | lst xs => obtain ⟨_, _, _, _, e⟩ := x; exact Heap.lt_size e
  | tup xs => obtain ⟨_, _, _, p⟩ := x; exact p.lt
  | dK kvs => obtain ⟨_, _, _, _, o, _, _, e, _⟩ := x; exact Heap.lt_size e
  | dT kvs => obtain ⟨_, _, _, _, o, _, _, e, _⟩ := x; exact Heap.lt_size e
  | set S n => obtain ⟨o, _, _, _, e, _⟩ := x; exact Heap.lt_size e
  | ins C dx fs => obtain ⟨_, _, _, e, _⟩ := x; exact Heap.lt_size e
  | own y => obtain ⟨_, e⟩ := x; exact Heap.lt_size e
  | xd fs => obtain ⟨_, ⟨_, _, _, e, _⟩, _⟩ := x; exact Heap.lt_size e
  | rng lo hi => obtain ⟨_, _, _, e⟩ := x; exact Heap.lt_size e
  | frz ob u => obtain ⟨e, _⟩ := x; exact Heap.lt_size e
  | tbl ps => exact Heap.lt_size (show h.get? a = some _ from x)
  | met f y => exact Heap.lt_size (show h.get? a = some _ from x)
  | ext φ => obtain ⟨_, ⟨_, e⟩, _⟩ := x; exact Heap.lt_size e
theorem Paired.mapP {α β : Type} {F G : α → β → Prop} : ∀ {l₁ : List α} {l₂ : List β}, Paired F l₁ l₂ → (∀ a b, F a b → G a b) → Paired G l₁ l₂
  | _, _, .nil, _ => .nil
  | _, _, .cons r t, f => .cons (f _ _ r) (Paired.mapP t f)
/-- what an object's description leans on: its own object, its own dict, the tuples -/
theorem ObjOk.stay (x : ObjOk P w H h a o) (k : ∀ b u, (b = a ∨ H b = some (.own a)) → h.get? b = some u → h'.get? b = some u)
    (ho : ∀ b, H b = some (.own a) → H' b = some (.own a)) (ht : ∀ b xs, H b = some (.tup xs) → H' b = some (.tup xs)) : ObjOk P w H' h' a o := by
  induction o with
  | lst xs => obtain ⟨z, its, n, r, e⟩ := x; exact ⟨z, its, n, r, k _ _ (.inl rfl) e⟩
  | tup xs => obtain ⟨z, its, r, ob, e, c⟩ := x; exact ⟨z, its, r, ob, k _ _ (.inl rfl) e, c⟩
  | dK kvs => obtain ⟨z, y, vs, r, ob, es, ep, e, c⟩ := x; exact ⟨z, y, vs, r, ob, es, ep, k _ _ (.inl rfl) e, c⟩
  | dT kvs =>
    obtain ⟨z, y, xs, r, ob, es, ep, e, c⟩ := x
    exact ⟨z, y, xs, Paired.mapP r fun p q z => ⟨z.1, ht _ _ z.2.1, z.2.2⟩, ob, es, ep, k _ _ (.inl rfl) e, c⟩
  | set S n => obtain ⟨ob, es, ep, t, e, c⟩ := x; exact ⟨ob, es, ep, t, k _ _ (.inl rfl) e, c⟩
  | ins C dx fs =>
    obtain ⟨d, z, ne, e, mA, ⟨od, es, ep, e2, c⟩, r⟩ := x
    exact ⟨ho _ d, z, ne, k _ _ (.inl rfl) e, mA, ⟨od, es, ep, k _ _ (.inr d) e2, c⟩, r⟩
  | own y => obtain ⟨ob, e⟩ := x; exact ⟨ob, k _ _ (.inl rfl) e⟩
  | xd fs => obtain ⟨mA, ⟨od, es, ep, e, c⟩, r⟩ := x; exact ⟨mA, ⟨od, es, ep, k _ _ (.inl rfl) e, c⟩, r⟩
  | rng lo hi => obtain ⟨t, u, v, e⟩ := x; exact ⟨t, u, v, k _ _ (.inl rfl) e⟩
  | frz ob u ih => obtain ⟨e, q⟩ := x; exact ⟨k _ _ (.inl rfl) e, ih q⟩
  | tbl ps =>
    have e : h.get? a = some { cls := .none, data := .fields ps } := x
    show h'.get? a = some { cls := .none, data := .fields ps }
    exact k a _ (.inl rfl) e
  | met f y =>
    have e : h.get? a = some (PySem.W.methodObj (.ref f) (.ref y)) := x
    show h'.get? a = some (PySem.W.methodObj (.ref f) (.ref y))
    exact k a _ (.inl rfl) e
  | ext φ => obtain ⟨p, ⟨o, e⟩, st⟩ := x; exact ⟨st _ _ p fun o q => k _ _ (.inl rfl) q, ⟨o, k _ _ (.inl rfl) e⟩, st⟩
theorem HOk.lt (x : HOk P w H h) (e : H a = some o) : a < h.objs.size := (x a o e).lt
theorem HOk.fresh (x : HOk P w H h) (e : h.objs.size ≤ a) : H a = none := by
  cases q : H a with
  | none => rfl
  | some u => exact absurd (Nat.lt_of_lt_of_le (x.lt q) e) (Nat.lt_irrefl _)
/-- every object of the heap is kept -/
theorem HOk.kept (x : HOk P w H h) (k : ∀ b u, h.get? b = some u → h'.get? b = some u) : HOk P w H h' := fun a o e =>
  (x a o e).stay (fun b u _ q => k b u q) (fun _ q => q) fun _ _ q => q
/-- a new object is laid and tracked -/
theorem HOk.laid (x : HOk P w H h) (k : ∀ b u, h.get? b = some u → h'.get? b = some u) (hp : h.objs.size ≤ a) (new : ObjOk P w (upd H a o) h' a o) : HOk P w (upd H a o) h' := fun b u e => by
  have hn := x.fresh hp
  by_cases hb : b = a
  · subst hb; rw [upd_same] at e; cases e; exact new
  · rw [upd_ne hb] at e
    exact (x b u e).stay (fun c v _ q => k c v q) (fun c q => by rw [upd_ne (ne_of_none q hn)]; exact q) fun c xs q => by rw [upd_ne (ne_of_none q hn)]; exact q
end

/-- what may be read as u: it is u, or a known u -/
def Rd (H : Hp) (a : Addr) (u : HO) : Prop := H a = some u ∨ ∃ o, H a = some (.frz o u)
theorem Rd.ok {P : Program} {w : World} {H : Hp} {h : Heap} {a : Addr} {u : HO} (r : Rd H a u) (x : HOk P w H h) : ObjOk P w H h a u := by
  rcases r with r | ⟨o, r⟩
  · exact x a u r
  · obtain ⟨_, q⟩ := x a _ r
    exact q
/-- what may be written -/
def Mut : Option HO → Prop
  | some (.lst _) => True
  | some (.dK _) => True
  | some (.dT _) => True
  | some (.set _ _) => True
  | some (.ins _ _ _) => True
  | some (.ext _) => True
  | _ => False
section
variable {P : Program} {w : World} {H : Hp} {h h' : Heap} {x e : Addr} {o' : HO}
/-- the object at e is changed: x itself, or the dict of the instance x -/
theorem HOk.write (ok : HOk P w H h) (mu : Mut (H x)) (he : e = x ∨ H e = some (.own x)) (k : ∀ b u, b ≠ e → h.get? b = some u → h'.get? b = some u) (heo : ∃ u, h'.get? e = some u)
    (new : ObjOk P w (upd H x o') h' x o') : HOk P w (upd H x o') h' := fun b u q => by
  have nown : ∀ c y, H c = some (.own y) → c ≠ x := fun c y r z => by subst z; rw [r] at mu; exact mu
  have ntup : ∀ c xs, H c = some (.tup xs) → c ≠ x := fun c xs r z => by subst z; rw [r] at mu; exact mu
  by_cases hb : b = x
  · subst hb; rw [upd_same] at q; cases q; exact new
  · rw [upd_ne hb] at q
    by_cases hbe : b = e
    · have q' : H b = some (.own x) := by
        rcases he with z | z
        · exact absurd (hbe.trans z) hb
        · rw [hbe]; exact z
      rw [q] at q'; cases q'
      obtain ⟨v, hv⟩ := heo
      exact ⟨v, by rw [hbe]; exact hv⟩
    · refine (ok b u q).stay (fun c v hc r => k c v ?_ r) (fun c r => by rw [upd_ne (nown c b r)]; exact r) fun c xs r => by rw [upd_ne (ntup c xs r)]; exact r
      rcases hc with rfl | hc
      · exact hbe
      · rintro rfl
        rcases he with z | z
        · exact nown c b hc z
        · rw [hc] at z; cases z; exact hb rfl
end

/-! ### kept unless tracked; of the frames at fs (the callers') the slots may change (an exception that passes writes there); of the records at ex (iterators) nothing is said -/
structure Un (fs ex : List Addr) (H H' : Hp) (h h' : Heap) : Prop where
  keep : ∀ b o, h.get? b = some o → H b = none → b ∉ fs → b ∉ ex → h'.get? b = some o
  slot : ∀ b o, h.get? b = some o → H b = none → b ∈ fs → b ∉ ex → ∃ sl, h'.get? b = some { o with slots := sl }
  free : ∀ b o, h.get? b = some o → H b = none → b ∉ ex → H' b = none
  there : ∀ b o, h.get? b = some o → b ∉ ex → ∃ o', h'.get? b = some o'
  tups : ∀ b xs, H b = some (.tup xs) → H' b = some (.tup xs)
  frzs : ∀ b o u, H b = some (.frz o u) → H' b = some (.frz o u)
  tbls : ∀ b ps, H b = some (.tbl ps) → ∃ more, H' b = some (.tbl (ps ++ more))
section
variable {fs fs' ex ex' : List Addr} {H H1 H2 : Hp} {h h1 h2 h' : Heap} {a x e : Addr} {o : HO}
theorem Un.any (u : Un fs ex H H1 h h1) {b : Addr} {ob : Obj} (q : h.get? b = some ob) (n : H b = none) (hx : b ∉ ex) : ∃ sl, h1.get? b = some { ob with slots := sl } := by
  by_cases hb : b ∈ fs
  · exact u.slot b ob q n hb hx
  · exact ⟨ob.slots, u.keep b ob q n hb hx⟩
theorem Un.kept (k : ∀ b u, h.get? b = some u → h'.get? b = some u) : Un fs ex H H h h' :=
  ⟨fun b ob q _ _ _ => k b ob q, fun b ob q _ _ _ => ⟨ob.slots, k b ob q⟩, fun _ _ _ n _ => n, fun b ob q _ => ⟨ob, k b ob q⟩, fun _ _ q => q, fun _ _ _ q => q, fun _ ps q => ⟨#[], by rw [q]; simp⟩⟩
theorem Un.refl : Un fs ex H H h h := Un.kept fun _ _ q => q
theorem Un.laid (k : ∀ b u, h.get? b = some u → h'.get? b = some u) (hp : h.objs.size ≤ a) (hn : H a = none) : Un fs ex H (upd H a o) h h' where
  keep := fun b u q _ _ _ => k b u q
  slot := fun b u q _ _ _ => ⟨u.slots, k b u q⟩
  free := fun b u q n _ => by rw [upd_ne (Nat.ne_of_lt (Nat.lt_of_lt_of_le (Heap.lt_size q) hp))]; exact n
  there := fun b u q _ => ⟨u, k b u q⟩
  tups := fun b xs q => by rw [upd_ne (ne_of_none q hn)]; exact q
  frzs := fun b u xs q => by rw [upd_ne (ne_of_none q hn)]; exact q
  tbls := fun b ps q => ⟨#[], by rw [upd_ne (ne_of_none q hn), q]; simp⟩
theorem Un.write (mu : Mut (H x)) (he : e = x ∨ H e = some (.own x)) (k : ∀ b u, b ≠ e → h.get? b = some u → h'.get? b = some u) (heo : ∃ u, h'.get? e = some u) : Un fs ex H (upd H x o) h h' := by
  have hx : ∀ b, H b = none → b ≠ x := fun b n z => by subst z; rw [n] at mu; exact mu
  have hb : ∀ b, H b = none → b ≠ e := fun b n z => by
    subst z
    rcases he with r | r
    · exact hx b n r
    · rw [n] at r; cases r
  have hm : ∀ b u, H b = some u → ¬ Mut (some u) → b ≠ x := fun b u q nm z => by subst z; rw [q] at mu; exact nm mu
  refine ⟨fun b u q n _ _ => k b u (hb b n) q, fun b u q n _ _ => ⟨u.slots, k b u (hb b n) q⟩, fun b u q n _ => by rw [upd_ne (hx b n)]; exact n, fun b u q _ => ?_,
    fun b xs q => by rw [upd_ne (hm b _ q fun z => z)]; exact q, fun b u xs q => by rw [upd_ne (hm b _ q fun z => z)]; exact q, fun b ps q => ⟨#[], by rw [upd_ne (hm b _ q fun z => z), q]; simp⟩⟩
  by_cases hbe : b = e
  · subst hbe; exact heo
  · exact ⟨u, k b u hbe q⟩
end

/-! ### the heap without what is tracked -/
def trk (h : Heap) (H : Hp) : List Addr := (List.range h.objs.size).filter fun a => (H a).isSome
def hidT (h : Heap) (H : Hp) : Heap := PySem.W.hideAll h (trk h H)
theorem hidT_size (h : Heap) (H : Hp) : (hidT h H).objs.size = h.objs.size := PySem.W.hideAll_size _ _
theorem hidT_get {h : Heap} {H : Hp} {b : Addr} {o : Obj} (e : h.get? b = some o) (n : H b = none) : (hidT h H).get? b = some o :=
  PySem.W.hideAll_get _ e fun hm => by
    have q : (H b).isSome = true := (List.mem_filter.mp hm).2
    rw [n] at q; simp at q
theorem of_hidT {h : Heap} {H : Hp} {b : Addr} {o : Obj} (e : (hidT h H).get? b = some o) : h.get? b = some o ∧ H b = none := by
  have e' : h.get? b = some o := PySem.W.of_hideAll (trk h H) e
  refine ⟨e', ?_⟩
  cases q : H b with
  | none => rfl
  | some x =>
    have hm : b ∈ trk h H := List.mem_filter.mpr ⟨List.mem_range.mpr (Heap.lt_size e'), by simp [q]⟩
    have z : (hidT h H).get? b = none := PySem.W.hideAll_none (trk h H) hm
    rw [z] at e; cases e

/-! ### OpenK's ledger, filled with every new object but one -/
end L2

namespace L2
open PySem PySem.Spec PyProof.Rows

/-- the module's facts, over the base: the heap at the law's entry without what is tracked there -/
structure Mod (K : PySem.W.Frag) (mg : Str → Option Value) (base : Heap) : Prop where
  kin : K.In base
  glob : base.Ns mainGlobals mg
  blt : ∃ mb, base.Ns builtinsNs mb ∧ ∀ x : Str, x ≠ "__name__" → mb x = bootBuiltins x
  nolimit : base.NoLimit

/-- the context: a def's body (or a comprehension's block) running. base: fixed through the whole law; s₀, H₀: the entry; outer: the frames whose slots others may change (a def's callers); stack: all frames that run;
   ex: iterators that were made ahead of the entry and are walked here (a comprehension's); fn: the names whose cells were made at the entry (a def: all; a comprehension's block: its own); calm: not within an except suite; pn: pins that every state bears; xe: what is wanted of an exception that leaves the code -/
structure Cx where
  prog : Program
  w : World
  K : PySem.W.Frag
  mg : Str → Option Value
  base : Heap
  A : Around
  N : List Str
  s₀ : Shared
  H₀ : Hp
  env : Env
  outer : List Env
  stack : List Env
  ex : List Addr
  fn : Str → Bool
  calm : Bool
  pn : List (Addr × Obj)
  xe : Value → Shared → Prop
/-- the callers' frames -/
def frs (l : List Env) : List Addr := l.filterMap (·.frame)
abbrev Cx.fs (X : Cx) : List Addr := frs X.outer

def Vis (sc : Scope) (x : Str) : Prop := sc.names.lookup x = some .local ∨ sc.names.lookup x = some .cell ∨ sc.names.lookup x = some .free
def Loc (sc : Scope) (x : Str) : Prop := sc.names.lookup x = some .local ∨ sc.names.lookup x = some .cell
def Look (env : Env) (h : Heap) (m : Str → Option Value) (x : Str) (u : Value) : Prop :=
  (env.kindOf x = some .local ∧ m x = some u) ∨ ((env.kindOf x = some .cell ∨ env.kindOf x = some .free) ∧ ∃ c, env.cells.lookup x = some c ∧ h.IsCell c (some u))

structure Cx.Ok (X : Cx) : Prop where
  mod : Mod X.K X.mg X.base
  kind : X.env.scope.kind = .function
  glob : X.env.globals = mainGlobals
  blt : X.env.builtins = builtinsNs
  above : X.s₀.heap.objs.size ≤ X.env.locals
  inj : ∀ x y c, X.env.cells.lookup x = some c → X.env.cells.lookup y = some c → x = y
  has : ∀ x, (X.env.kindOf x = some .cell ∨ X.env.kindOf x = some .free) → ∃ c, X.env.cells.lookup x = some c
  cab : ∀ x c, X.fn x = true → X.env.cells.lookup x = some c → X.s₀.heap.objs.size ≤ c
  hd : X.calm = true → X.A.handled = none
  frames : X.A.frames = some X.stack
  stk : X.stack = X.outer ∨ (X.stack = X.env :: X.outer ∧ X.env.frame = some X.env.locals)
  exf : ∀ b ∈ X.ex, b ≠ X.env.locals ∧ ∀ x c, X.env.cells.lookup x = some c → c ≠ b
  bs : ∀ b o, X.base.get? b = some o → X.s₀.heap.get? b = some o ∧ X.H₀ b = none
  bsz : X.base.objs.size ≤ X.s₀.heap.objs.size
  noex : ∀ b o, X.base.get? b = some o → b ∉ X.ex
  exfs : ∀ b ∈ X.ex, b ∉ X.fs
  funs : X.s₀.heap.FunFrames X.base X.outer
  frf : ∀ b ∈ X.fs, X.H₀ b = none

structure Inv (X : Cx) (pins : List (Addr × Obj)) (σ : List (Option V)) (H : Hp) (s : Shared) : Prop where
  ok : X.Ok
  os : s.os = X.s₀.os
  bare : AllBare s.gens
  base : Un X.fs X.ex X.H₀ H X.s₀.heap s.heap
  loc : ∃ m, s.heap.Ns X.env.locals m ∧ ∀ (i : Nat) (x : Str) (v : V), X.N[i]? = some x → σ[i]? = some (some v) → Vis X.env.scope x → ∃ u, RelV v u ∧ Look X.env s.heap m x u
  cell : ∀ x c, X.env.cells.lookup x = some c → ∃ v, s.heap.IsCell c v
  free : H X.env.locals = none
  freeC : ∀ x c, X.env.cells.lookup x = some c → H c = none
  pin : ∀ p ∈ X.pn ++ pins, s.heap.get? p.1 = some p.2 ∧ H p.1 = none ∧ p.1 ≠ X.env.locals ∧ p.1 ∉ X.fs ∧ ∀ v, p.2.data ≠ .cell v
  hok : HOk X.prog X.w H s.heap
  len : σ.length = X.N.length

section
variable {X : Cx} {pins : List (Addr × Obj)} {σ : List (Option V)} {H H' : Hp} {s : Shared} {h' : Heap}

theorem Cx.Ok.nofr (ok : X.Ok) {b : Addr} {o : Obj} (e : X.base.get? b = some o) : b ∉ X.fs := fun hb => by
  have := (ok.funs.mem hb).1
  rw [e] at this; cases this
theorem Inv.bs (I : Inv X pins σ H s) : ∀ b o, X.base.get? b = some o → s.heap.get? b = some o ∧ H b = none := fun b o e =>
  ⟨I.base.keep b o (I.ok.bs b o e).1 (I.ok.bs b o e).2 (I.ok.nofr e) (I.ok.noex b o e), I.base.free b o (I.ok.bs b o e).1 (I.ok.bs b o e).2 (I.ok.noex b o e)⟩
theorem Inv.bk (I : Inv X pins σ H s) : ∀ b o, X.base.get? b = some o → s.heap.get? b = some o := fun b o e => (I.bs b o e).1
theorem Inv.mod (I : Inv X pins σ H s) : Mod X.K X.mg X.base := I.ok.mod
theorem Inv.kIn (I : Inv X pins σ H s) : X.K.In s.heap := I.ok.mod.kin.keeps I.bk
theorem Inv.lt (I : Inv X pins σ H s) : X.env.locals < s.heap.objs.size := let ⟨_, hn, _⟩ := I.loc; hn.lt
theorem Inv.sz (I : Inv X pins σ H s) : X.s₀.heap.objs.size ≤ s.heap.objs.size := Nat.le_trans I.ok.above (Nat.le_of_lt I.lt)
theorem Inv.nofs (I : Inv X pins σ H s) {a : Addr} (h : s.heap.objs.size ≤ a) : a ∉ X.fs := fun hb => by
  obtain ⟨_, o, ho, _⟩ := I.ok.funs.mem hb
  exact absurd (Nat.lt_of_lt_of_le (Heap.lt_size ho) (Nat.le_trans I.sz h)) (Nat.lt_irrefl _)
theorem Inv.cne (I : Inv X pins σ H s) : ∀ x c, X.env.cells.lookup x = some c → c ≠ X.env.locals := fun x c e z => by
  obtain ⟨v, o, ho, hd⟩ := I.cell x c e
  obtain ⟨m, ⟨o', es, ep, ho', hd', _⟩, _⟩ := I.loc
  rw [z, ho'] at ho; cases ho; rw [hd'] at hd; cases hd
theorem Inv.funs (I : Inv X pins σ H s) : s.heap.FunFrames X.base X.outer := by
  have all : ∀ (l : List Env), (∀ b ∈ frs l, b ∈ X.fs) → X.s₀.heap.FunFrames X.base l → s.heap.FunFrames X.base l := by
    intro l
    induction l with
    | nil => intro _ _; trivial
    | cons env r ih =>
      intro hs hl
      obtain ⟨hk, ⟨L, o, hf, hn, ho, hd⟩, hr⟩ := hl
      have hL : L ∈ X.fs := hs L (by unfold frs; rw [List.filterMap_cons, hf]; exact List.mem_cons_self)
      obtain ⟨sl, e⟩ := I.base.slot L o ho (I.ok.frf L hL) hL fun z => I.ok.exfs L z hL
      exact ⟨hk, ⟨L, _, hf, hn, e, hd⟩, ih (fun b hb => hs b (by unfold frs; rw [List.filterMap_cons, hf]; exact List.mem_cons_of_mem _ hb)) hr⟩
  exact all X.outer (fun _ hb => hb) I.ok.funs

/-- the frames that run, for a call -/
theorem Inv.stack (I : Inv X pins σ H s) : s.heap.FunFrames X.base X.stack := by
  rcases I.ok.stk with e | ⟨e, hf⟩
  · rw [e]; exact I.funs
  · rw [e]
    obtain ⟨m, hn, _⟩ := I.loc
    refine .cons (by rw [I.ok.kind]; decide) hf hn ?_ I.funs
    exact Heap.get?_none_of_le (Nat.le_trans I.ok.bsz I.ok.above)
theorem Inv.stkSub (I : Inv X pins σ H s) : ∀ b ∈ frs X.stack, b ∈ X.env.locals :: X.fs := fun b hb => by
  rcases I.ok.stk with e | ⟨e, hf⟩
  · rw [e] at hb; exact List.mem_cons_of_mem _ hb
  · rw [e] at hb
    unfold frs at hb
    rw [List.filterMap_cons, hf] at hb
    exact hb
theorem Inv.stkFree (I : Inv X pins σ H s) : ∀ b ∈ frs X.stack, H b = none := fun b hb => by
  rcases List.mem_cons.mp (I.stkSub b hb) with e | hb
  · rw [e]; exact I.free
  · obtain ⟨_, o, ho, _⟩ := I.ok.funs.mem hb
    exact I.base.free b o ho (I.ok.frf b hb) fun z => I.ok.exfs b z hb

/-- THE STEP: the untracked objects but the frame and the records at ch are kept (the callers' frames up to slots), the frame's map is kept, the new abstract heap is held -/
theorem Inv.step {g' : Array GenState} {t' : Nat} {d' : Drawn} {ch : List Addr} (I : Inv X pins σ H s)
    (hch : ∀ b ∈ ch, (b ∈ X.ex ∨ X.s₀.heap.objs.size ≤ b) ∧ b ≠ X.env.locals ∧ (∀ x c, X.env.cells.lookup x = some c → c ≠ b) ∧ ∀ p ∈ X.pn ++ pins, p.1 ≠ b)
    (keep : ∀ b o, b ≠ X.env.locals → b ∉ X.fs → b ∉ ch → s.heap.get? b = some o → H b = none → h'.get? b = some o)
    (slot : ∀ b o, b ≠ X.env.locals → b ∈ X.fs → b ∉ ch → s.heap.get? b = some o → H b = none → ∃ sl, h'.get? b = some { o with slots := sl }) (free : ∀ b o, b ∉ ch → s.heap.get? b = some o → H b = none → H' b = none)
    (there : ∀ b o, b ∉ ch → s.heap.get? b = some o → ∃ o', h'.get? b = some o')
    (tups : ∀ b xs, H b = some (.tup xs) → H' b = some (.tup xs)) (frzs : ∀ b o u, H b = some (.frz o u) → H' b = some (.frz o u)) (tbls : ∀ b ps, H b = some (.tbl ps) → ∃ more, H' b = some (.tbl (ps ++ more)))
    (ns : ∀ m, s.heap.Ns X.env.locals m → h'.Ns X.env.locals m) (hok : HOk X.prog X.w H' h') (hg : AllBare g') :
    Inv X pins σ H' { s with heap := h', gens := g', drawn := d', toks := t' } := by
  have neL : ∀ b o, X.s₀.heap.get? b = some o → b ≠ X.env.locals := fun b o e => Nat.ne_of_lt (Nat.lt_of_lt_of_le (Heap.lt_size e) I.ok.above)
  have neC : ∀ b o, X.s₀.heap.get? b = some o → b ∉ X.ex → b ∉ ch := fun b o e hx hb => by
    rcases (hch b hb).1 with z | z
    · exact hx z
    · exact absurd (Nat.lt_of_lt_of_le (Heap.lt_size e) z) (Nat.lt_irrefl _)
  have cellK : ∀ x c, X.env.cells.lookup x = some c → ∀ v, s.heap.IsCell c v → h'.IsCell c v := fun x c e v ⟨o, ho, hd⟩ => by
    have nch : c ∉ ch := fun z => (hch c z).2.2.1 x c e rfl
    by_cases hc : c ∈ X.fs
    · obtain ⟨sl, q⟩ := slot c o (I.cne x c e) hc nch ho (I.freeC x c e)
      exact ⟨_, q, hd⟩
    · exact ⟨o, keep c o (I.cne x c e) hc nch ho (I.freeC x c e), hd⟩
  refine ⟨I.ok, I.os, hg, ⟨fun b o e n hb hx => ?_, fun b o e n hb hx => ?_, fun b o e n hx => ?_, fun b o e hx => ?_, fun b xs e => tups b xs (I.base.tups b xs e), fun b o xs e => frzs b o xs (I.base.frzs b o xs e), fun b ps e => ?_⟩, ?_, fun x c e => ?_, ?_, fun x c e => ?_, fun p hp => ?_, hok, I.len⟩
  · exact keep b o (neL b o e) hb (neC b o e hx) (I.base.keep b o e n hb hx) (I.base.free b o e n hx)
  · obtain ⟨sl, e1⟩ := I.base.slot b o e n hb hx
    obtain ⟨sl', e2⟩ := slot b _ (neL b o e) hb (neC b o e hx) e1 (I.base.free b o e n hx)
    exact ⟨sl', e2⟩
  · obtain ⟨o', e1⟩ := I.base.there b o e hx
    exact free b o' (neC b o e hx) e1 (I.base.free b o e n hx)
  · obtain ⟨o', e1⟩ := I.base.there b o e hx
    exact there b o' (neC b o e hx) e1
  · obtain ⟨m1, e1⟩ := I.base.tbls b ps e
    obtain ⟨m2, e2⟩ := tbls b _ e1
    exact ⟨m1 ++ m2, by rw [e2, Array.append_assoc]⟩
  · obtain ⟨m, hn, hl⟩ := I.loc
    refine ⟨m, ns m hn, fun i x v e1 e2 e3 => ?_⟩
    obtain ⟨u, r, l⟩ := hl i x v e1 e2 e3
    refine ⟨u, r, ?_⟩
    rcases l with l | ⟨k, c, e, z⟩
    · exact .inl l
    · exact .inr ⟨k, c, e, cellK x c e _ z⟩
  · obtain ⟨v, z⟩ := I.cell x c e
    exact ⟨v, cellK x c e v z⟩
  · obtain ⟨m, ⟨o, _, _, ho, _⟩, _⟩ := I.loc
    exact free _ o (fun z => (hch _ z).2.1 rfl) ho I.free
  · obtain ⟨v, o, ho, hd⟩ := I.cell x c e
    exact free c o (fun z => (hch c z).2.2.1 x c e rfl) ho (I.freeC x c e)
  · obtain ⟨e, n, ne, nf, d⟩ := I.pin p hp
    have nch : p.1 ∉ ch := fun z => (hch p.1 z).2.2.2 p hp rfl
    exact ⟨keep p.1 p.2 ne nf nch e n, free p.1 p.2 nch e n, ne, nf, d⟩
/-- .. where the frame's own object is kept too -/
theorem Inv.un {t' : Nat} (I : Inv X pins σ H s) (u : Un X.fs [] H H' s.heap h') (hok : HOk X.prog X.w H' h') : Inv X pins σ H' { s with heap := h', toks := t' } := by
  obtain ⟨m, ⟨o, es, ep, ho, r⟩, _⟩ := id I.loc
  obtain ⟨sl, hL⟩ := u.any ho I.free (by simp)
  exact I.step (g' := s.gens) (d' := s.drawn) (ch := []) (fun _ z => nomatch z) (fun b o _ hb _ e n => u.keep b o e n hb (by simp)) (fun b o _ hb _ e n => u.slot b o e n hb (by simp)) (fun b o _ e n => u.free b o e n (by simp)) (fun b o _ e => u.there b o e (by simp)) u.tups u.frzs u.tbls (fun m' hm => by
    obtain ⟨o', es', ep', ho', r'⟩ := hm
    rw [ho] at ho'; cases ho'
    exact ⟨_, es', ep', hL, r'⟩) hok I.bare
/-- behind a call (or a comprehension's block): the slots of this frame may have changed too, the records at ch may have turned -/
theorem Inv.call {g' : Array GenState} {t' : Nat} {d' : Drawn} {ch : List Addr} (I : Inv X pins σ H s) (u : Un (frs X.stack) ch H H' s.heap h') (hok : HOk X.prog X.w H' h') (hg : AllBare g')
    (hch : ∀ b ∈ ch, (b ∈ X.ex ∨ X.s₀.heap.objs.size ≤ b) ∧ b ≠ X.env.locals ∧ (∀ x c, X.env.cells.lookup x = some c → c ≠ b) ∧ ∀ p ∈ X.pn ++ pins, p.1 ≠ b) :
    Inv X pins σ H' { s with heap := h', gens := g', drawn := d', toks := t' } := by
  obtain ⟨m, ⟨o, es, ep, ho, r⟩, _⟩ := id I.loc
  obtain ⟨sl, hL⟩ := u.any ho I.free fun z => (hch _ z).2.1 rfl
  exact I.step (ch := ch) hch (fun b o hL hb hc e n => u.keep b o e n (fun z => (List.mem_cons.mp (I.stkSub b z)).elim hL hb) hc) (fun b o _ _ hc e n => u.any e n hc) (fun b o hc e n => u.free b o e n hc) (fun b o hc e => u.there b o e hc) u.tups u.frzs u.tbls (fun m' hm => by
    obtain ⟨o', es', ep', ho', r'⟩ := hm
    rw [ho] at ho'; cases ho'
    exact ⟨_, es', ep', hL, r'⟩) hok hg
/-- an untracked record of ours (an iterator) has turned -/
theorem Inv.turned {t' : Nat} {it : Addr} (I : Inv X pins σ H s) (k : ∀ b o, b ≠ it → s.heap.get? b = some o → h'.get? b = some o) (hn : H it = none) (hL : it ≠ X.env.locals)
    (h1 : it ∈ X.ex ∨ X.s₀.heap.objs.size ≤ it) (h2 : ∀ x c, X.env.cells.lookup x = some c → c ≠ it) (h3 : ∀ p ∈ X.pn ++ pins, p.1 ≠ it) : Inv X pins σ H { s with heap := h', toks := t' } := by
  have nit : ∀ b u, H b = some u → b ≠ it := fun b u e z => by rw [z, hn] at e; cases e
  refine I.step (g' := s.gens) (d' := s.drawn) (ch := [it]) (fun b hb => ?_) (fun b o _ _ hc e _ => k b o (fun z => hc (by simp [z])) e) (fun b o _ _ hc e _ => ⟨o.slots, k b o (fun z => hc (by simp [z])) e⟩) (fun _ _ _ _ n => n)
    (fun b o hc e => ⟨o, k b o (fun z => hc (by simp [z])) e⟩) (fun _ _ e => e) (fun _ _ _ e => e) (fun b ps e => ⟨#[], by rw [e]; simp⟩) (fun m hm => ?_) (fun b u e => ?_) I.bare
  · have e : b = it := by simpa using hb
    subst e
    exact ⟨h1, hL, h2, h3⟩
  · obtain ⟨o, es, ep, ho, r⟩ := hm
    exact ⟨o, es, ep, k _ o (Ne.symm hL) ho, r⟩
  · refine (I.hok b u e).stay (fun c v hc q => k c v ?_ q) (fun _ q => q) fun _ _ q => q
    rcases hc with z | z
    · rw [z]; exact nit b u e
    · exact nit c _ z
theorem Inv.tok (I : Inv X pins σ H s) (t : Nat) : Inv X pins σ H { s with toks := t } := I.un (h' := s.heap) (t' := t) Un.refl I.hok
/-- all objects kept -/
theorem Inv.kept {t' : Nat} (I : Inv X pins σ H s) (k : ∀ b u, s.heap.get? b = some u → h'.get? b = some u) : Inv X pins σ H { s with heap := h', toks := t' } := I.un (Un.kept k) (I.hok.kept k)
/-- a new object laid and tracked -/
theorem Inv.laid {a : Addr} {o : HO} {t' : Nat} (I : Inv X pins σ H s) (k : ∀ b u, s.heap.get? b = some u → h'.get? b = some u) (hp : s.heap.objs.size ≤ a) (new : ObjOk X.prog X.w (upd H a o) h' a o) :
    Inv X pins σ (upd H a o) { s with heap := h', toks := t' } := I.un (Un.laid k hp (I.hok.fresh hp)) (I.hok.laid k hp new)
/-- an object written -/
theorem Inv.write {x e : Addr} {o : HO} {t' : Nat} (I : Inv X pins σ H s) (mu : Mut (H x)) (he : e = x ∨ H e = some (.own x)) (k : ∀ b u, b ≠ e → s.heap.get? b = some u → h'.get? b = some u) (heo : ∃ u, h'.get? e = some u)
    (new : ObjOk X.prog X.w (upd H x o) h' x o) : Inv X pins σ (upd H x o) { s with heap := h', toks := t' } := I.un (Un.write mu he k heo) (I.hok.write mu he k heo new)
theorem Inv.pins_of {pins' : List (Addr × Obj)} (I : Inv X pins σ H s) (h : ∀ p ∈ pins', s.heap.get? p.1 = some p.2 ∧ H p.1 = none ∧ p.1 ≠ X.env.locals ∧ p.1 ∉ X.fs ∧ ∀ v, p.2.data ≠ .cell v) : Inv X pins' σ H s :=
  ⟨I.ok, I.os, I.bare, I.base, I.loc, I.cell, I.free, I.freeC, fun p hp => (List.mem_append.mp hp).elim (fun z => I.pin p (List.mem_append_left _ z)) (h p), I.hok, I.len⟩

theorem nodup_ix {N : List Str} (hN : N.Nodup) {i j : Nat} {x : Str} (a : N[i]? = some x) (b : N[j]? = some x) : i = j := by
  obtain ⟨h1, e1⟩ := List.getElem?_eq_some_iff.mp a
  obtain ⟨h2, e2⟩ := List.getElem?_eq_some_iff.mp b
  exact (List.getElem_inj hN).mp (e1.trans e2.symm)

/-- a name is stored; what changed -/
theorem store_ok2 {M : Model} {A : Around} {E : Value → Shared → Prop} {i : Nat} {x : Str} {v : V} {u : Value} {Q : Unit → Shared → Prop} (I : Inv X pins σ H s) (hN : X.N.Nodup) (hi : X.N[i]? = some x) (hx : Loc X.env.scope x) (r : RelV v u)
    (h : ∀ s', Inv X pins (σ.set i (some v)) H s' → (∃ a, Heap.SameBut a s.heap s'.heap ∧ (a = X.env.locals ∨ X.env.cells.lookup x = some a)) → Q () s') (hf : X.fn x = true ∨ X.env.scope.names.lookup x = some .local := by first | exact .inl rfl | exact .inr rfl | assumption) : wpAny M A (storeName X.env x u) Q E s := by
  obtain ⟨m, hn, hl⟩ := id I.loc
  have hcls : (X.env.scope.kind == .class || (X.env.scope.kind == .module && X.env.locals != X.env.globals)) = false := by rw [I.ok.kind]; rfl
  have hiσ : i < σ.length := by rw [I.len]; exact (List.getElem?_eq_some_iff.mp hi).1
  have cne := I.cne
  have tracked : ∀ {a : Addr} {h' : Heap}, (∃ o, s.heap.get? a = some o ∧ H a = none) → Heap.SameBut a s.heap h' → HOk X.prog X.w H h' := fun {a h'} ha hs b ob e => by
    obtain ⟨_, _, hfree⟩ := ha
    refine (I.hok b ob e).stay (fun c w' hc q => (hs.2 c ?_).trans q) (fun _ q => q) fun _ _ q => q
    rintro rfl
    rcases hc with rfl | hc
    · rw [hfree] at e; cases e
    · rw [hfree] at hc; cases hc
  rcases hx with hk | hk
  · refine wpAny_storeName_local hk hn (fun h' hn' hs => ?_) hcls
    obtain ⟨oL, _, _, hoL, _⟩ := id hn
    refine h _ ⟨I.ok, I.os, I.bare, ⟨fun b o e n hb hx => ?_, fun b o e n hb hx => ?_, I.base.free, fun b o e hx => ?_, I.base.tups, I.base.frzs, I.base.tbls⟩, ⟨_, hn', fun j y v' e1 e2 e3 => ?_⟩, fun y c e => ?_, I.free, I.freeC, fun p hp => ?_, tracked ⟨oL, hoL, I.free⟩ hs, by simpa using I.len⟩ ⟨_, hs, .inl rfl⟩
    · exact (hs.2 b (Nat.ne_of_lt (Nat.lt_of_lt_of_le (Heap.lt_size e) I.ok.above))).trans (I.base.keep b o e n hb hx)
    · obtain ⟨sl, e1⟩ := I.base.slot b o e n hb hx
      exact ⟨sl, (hs.2 b (Nat.ne_of_lt (Nat.lt_of_lt_of_le (Heap.lt_size e) I.ok.above))).trans e1⟩
    · obtain ⟨o', e1⟩ := I.base.there b o e hx
      exact ⟨o', (hs.2 b (Nat.ne_of_lt (Nat.lt_of_lt_of_le (Heap.lt_size e) I.ok.above))).trans e1⟩
    · by_cases hj : j = i
      · subst hj
        rw [hi] at e1; cases e1
        rw [List.getElem?_set_self hiσ] at e2
        cases e2
        exact ⟨u, r, .inl ⟨hk, by simp⟩⟩
      · rw [List.getElem?_set_ne (Ne.symm hj)] at e2
        obtain ⟨u', r', q⟩ := hl j y v' e1 e2 e3
        refine ⟨u', r', ?_⟩
        rcases q with ⟨k, e⟩ | ⟨k, c, e, z⟩
        · refine .inl ⟨k, ?_⟩
          have : y ≠ x := fun e => hj (nodup_ix hN e1 (e ▸ hi))
          simp [this, e]
        · exact .inr ⟨k, c, e, z.sameBut hs (cne y c e)⟩
    · obtain ⟨w', z⟩ := I.cell y c e
      exact ⟨w', z.sameBut hs (cne y c e)⟩
    · obtain ⟨e, n, ne, nf, d⟩ := I.pin p hp
      exact ⟨(hs.2 p.1 ne).trans e, n, ne, nf, d⟩
  · have hfn : X.fn x = true := by
      rcases hf with z | z
      · exact z
      · rw [z] at hk; cases hk
    obtain ⟨c, hc⟩ := I.ok.has x (.inl hk)
    obtain ⟨w', z⟩ := I.cell x c hc
    refine wpAny_storeName_cell I.ok.kind hk hc z (fun h' hc' hs => ?_)
    obtain ⟨oc, hoc, hocd⟩ := id z
    refine h { s with heap := h' } ⟨I.ok, I.os, I.bare, ⟨fun b o e n hb hx => ?_, fun b o e n hb hx => ?_, I.base.free, fun b o e hx => ?_, I.base.tups, I.base.frzs, I.base.tbls⟩, ⟨m, hn.sameBut hs (Ne.symm (cne x c hc)), fun j y v' e1 e2 e3 => ?_⟩, fun y c' e => ?_, I.free, I.freeC, fun p hp => ?_, tracked ⟨oc, hoc, I.freeC x c hc⟩ hs, by simpa using I.len⟩ ⟨c, hs, .inr hc⟩
    · exact (hs.2 b (Nat.ne_of_lt (Nat.lt_of_lt_of_le (Heap.lt_size e) (I.ok.cab x c hfn hc)))).trans (I.base.keep b o e n hb hx)
    · obtain ⟨sl, e1⟩ := I.base.slot b o e n hb hx
      exact ⟨sl, (hs.2 b (Nat.ne_of_lt (Nat.lt_of_lt_of_le (Heap.lt_size e) (I.ok.cab x c hfn hc)))).trans e1⟩
    · obtain ⟨o', e1⟩ := I.base.there b o e hx
      exact ⟨o', (hs.2 b (Nat.ne_of_lt (Nat.lt_of_lt_of_le (Heap.lt_size e) (I.ok.cab x c hfn hc)))).trans e1⟩
    · by_cases hj : j = i
      · subst hj
        rw [hi] at e1; cases e1
        rw [List.getElem?_set_self hiσ] at e2
        cases e2
        exact ⟨u, r, .inr ⟨.inl hk, c, hc, hc'⟩⟩
      · rw [List.getElem?_set_ne (Ne.symm hj)] at e2
        obtain ⟨u', r', q⟩ := hl j y v' e1 e2 e3
        refine ⟨u', r', ?_⟩
        rcases q with q | ⟨k, c', e, z'⟩
        · exact .inl q
        · refine .inr ⟨k, c', e, z'.sameBut hs ?_⟩
          rintro rfl
          exact hj (nodup_ix hN e1 (I.ok.inj _ _ _ e hc ▸ hi))
    · by_cases hcc : c' = c
      · subst hcc; exact ⟨_, hc'⟩
      · obtain ⟨w2, z2⟩ := I.cell y c' e
        exact ⟨w2, z2.sameBut hs hcc⟩
    · obtain ⟨e, n, ne, nf, d⟩ := I.pin p hp
      refine ⟨(hs.2 p.1 ?_).trans e, n, ne, nf, d⟩
      intro q
      rw [q, hoc] at e
      have q' : oc = p.2 := Option.some.inj e
      exact d w' (by rw [← q']; exact hocd)
theorem store_ok {M : Model} {A : Around} {E : Value → Shared → Prop} {i : Nat} {x : Str} {v : V} {u : Value} {Q : Unit → Shared → Prop} (I : Inv X pins σ H s) (hN : X.N.Nodup) (hi : X.N[i]? = some x) (hx : Loc X.env.scope x) (r : RelV v u)
    (h : ∀ s', Inv X pins (σ.set i (some v)) H s' → Q () s') (hf : X.fn x = true ∨ X.env.scope.names.lookup x = some .local := by first | exact .inl rfl | exact .inr rfl | assumption) : wpAny M A (storeName X.env x u) Q E s :=
  store_ok2 I hN hi hx r (fun s' I' _ => h s' I') hf
end

/-! ### the judgements -/
/-- an exception: its class, its own dict's address (where it has one), the abstract heap behind it -/
abbrev XK := Value → Option Addr → Hp → Prop
abbrev St := List (Option V)
abbrev VK := V → Hp → Prop
/-- an expression's reading; a test's; an argument list's -/
abbrev TE := St → Hp → VK → Prop
abbrev TT := St → Hp → (Bool → Hp → Prop) → Prop
abbrev TA := St → Hp → (List V → Hp → Prop) → Prop
/-- what is wanted behind a statement -/
structure Ends where
  nx : St → Hp → Prop
  rt : VK
  bk : St → Hp → Prop := fun _ _ => False
  ct : St → Hp → Prop := fun _ _ => False
abbrev TS := Ends → St → Hp → Prop

def EP (X : Cx) (pins : List (Addr × Obj)) (σ : St) (Q : VK) (u : Value) (s' : Shared) : Prop := ∃ v H', Inv X pins σ H' s' ∧ RelV v u ∧ Q v H'
def TP (X : Cx) (pins : List (Addr × Obj)) (σ : St) (Q : Bool → Hp → Prop) (b : Bool) (s' : Shared) : Prop := ∃ H', Inv X pins σ H' s' ∧ Q b H'
def AP (X : Cx) (pins : List (Addr × Obj)) (σ : St) (Q : List V → Hp → Prop) (us : List Value) (s' : Shared) : Prop := ∃ vs H', Inv X pins σ H' s' ∧ Vals vs us ∧ Q vs H'
def SP (X : Cx) (pins : List (Addr × Obj)) (D : Ends) (f : Flow) (s' : Shared) : Prop :=
  match f with
  | .next => ∃ σ' H', Inv X pins σ' H' s' ∧ D.nx σ' H'
  | .brk => ∃ σ' H', Inv X pins σ' H' s' ∧ D.bk σ' H'
  | .cont => ∃ σ' H', Inv X pins σ' H' s' ∧ D.ct σ' H'
  | .ret u => ∃ v σ' H', Inv X pins σ' H' s' ∧ RelV v u ∧ D.rt v H'

def PE (X : Cx) (e : Expr) (t : TE) : Prop :=
  ∀ (pins : List (Addr × Obj)) (s : Shared) (σ : St) (H : Hp) (Q : VK), Inv X pins σ H s → t σ H Q → wpAny (model X.prog X.w) X.A (eval e X.env) (EP X pins σ Q) X.xe s
def PT (X : Cx) (e : Expr) (t : TT) : Prop :=
  ∀ (pins : List (Addr × Obj)) (s : Shared) (σ : St) (H : Hp) (Q : Bool → Hp → Prop), Inv X pins σ H s → t σ H Q → wpAny (model X.prog X.w) X.A (isTrue e X.env (eval e X.env)) (TP X pins σ Q) X.xe s
/-- a test whatever its 'whole' is (and, or) -/
def PW (X : Cx) (e : Expr) (t : TT) : Prop :=
  ∀ (whole : Sem Value) (pins : List (Addr × Obj)) (s : Shared) (σ : St) (H : Hp) (Q : Bool → Hp → Prop), Inv X pins σ H s → t σ H Q → wpAny (model X.prog X.w) X.A (isTrue e X.env whole) (TP X pins σ Q) X.xe s
theorem PW.pt {X : Cx} {e : Expr} {t : TT} (h : PW X e t) : PT X e t := h _
/-- an argument list (no star), from the left -/
def PA (X : Cx) (es : List Expr) (t : TA) : Prop :=
  ∀ (pos : Pos) (pins : List (Addr × Obj)) (s : Shared) (σ : St) (H : Hp) (Q : List V → Hp → Prop), Inv X pins σ H s → t σ H Q → wpAny (model X.prog X.w) X.A (spliced (backTo pos (starEach es X.env))) (AP X pins σ Q) X.xe s
def PS (X : Cx) (st : Stmt) (t : TS) : Prop :=
  ∀ (pins : List (Addr × Obj)) (s : Shared) (σ : St) (H : Hp) (D : Ends), Inv X pins σ H s → t D σ H → wpAny (model X.prog X.w) X.A (exec st X.env) (SP X pins D) X.xe s
def PSs (X : Cx) (st : List Stmt) (t : TS) : Prop :=
  ∀ (pins : List (Addr × Obj)) (s : Shared) (σ : St) (H : Hp) (D : Ends), Inv X pins σ H s → t D σ H → wpAny (model X.prog X.w) X.A (execs st X.env) (SP X pins D) X.xe s
/-- weaken the end -/
theorem thn {α : Type} {t : Sem α} {Q Q' : α → Shared → Prop} {M : Model} {A : Around} {E : Value → Shared → Prop} {s : Shared} (h : wpAny M A t Q E s) (hQ : ∀ a s, Q a s → Q' a s) : wpAny M A t Q' E s := wpAny_mono h hQ fun _ _ x => x
end L2

namespace L2
open PySem PySem.Spec PyProof.Rows
section
variable {X : Cx}

/-- two expressions in a row -/
theorem bin {a b : Expr} {ta tb : TE} (ha : PE X a ta) (hb : PE X b tb) {pins : List (Addr × Obj)} {s : Shared} {σ : St} {H : Hp} {R : V → V → Hp → Prop} (I : Inv X pins σ H s) (h : ta σ H fun x H1 => tb σ H1 fun y H2 => R x y H2)
    {α : Type} {Q : α → Shared → Prop} {f : Value → Value → Sem α}
    (hf : ∀ v u s2 x y H2, Inv X pins σ H2 s2 → RelV x v → RelV y u → R x y H2 → wpAny (model X.prog X.w) X.A (f v u) Q X.xe s2) :
    wpAny (model X.prog X.w) X.A (eval a X.env) (fun v s₁ => wpAny (model X.prog X.w) X.A (eval b X.env) (fun u s₂ => wpAny (model X.prog X.w) X.A (f v u) Q X.xe s₂) X.xe s₁) X.xe s := by
  refine thn (ha pins s σ H _ I h) fun v s1 ⟨x, H1, I1, r1, q1⟩ => ?_
  refine thn (hb pins s1 σ H1 _ I1 q1) fun u s2 ⟨y, H2, I2, r2, q2⟩ => ?_
  exact hf v u s2 x y H2 I2 r1 r2 q2

/-! ### names and constants -/
def tVar (i : Nat) : TE := fun σ H Q => ∃ v, σ[i]? = some (some v) ∧ Q v H
def tC (v : V) : TE := fun _ H Q => Q v H
theorem pe_var {i : Nat} {x : Str} {pos : Pos} (hN : X.N[i]? = some x) (hv : Vis X.env.scope x) (hd : (x == ("__debug__" : Str)) = false := by decide) (hcd : (x == ("__classdict__" : Str)) = false := by decide) : PE X (.Name x pos) (tVar i) := by
  intro pins s σ H Q I h
  obtain ⟨v, e, h⟩ := h
  obtain ⟨m, hn, hl⟩ := I.loc
  obtain ⟨u, r, l⟩ := hl i x v hN e hv
  have fin : EP X pins σ Q u s := ⟨v, H, I, r, h⟩
  rcases l with ⟨hk, hm⟩ | ⟨hk, c, hc, hcell⟩
  · exact wpAny_Name (wpAny_loadName_local I.ok.kind hk hn hm fin) hd
  · rcases hk with hk | hk
    · exact wpAny_Name (wpAny_loadName_cell I.ok.kind hk hc hcell fin) hd
    · exact wpAny_Name (wpAny_loadName_free I.ok.kind hk hc hcell fin hcd) hd
theorem pe_int {i j pos} : PE X (.Constant (.int i) j pos) (tC (.int i)) := fun _ _ _ H _ I h => wpAny_Constant_int ⟨.int i, H, I.tok _, ⟨_, rfl⟩, h⟩
theorem pe_bl {b j pos} : PE X (.Constant (.bool b) j pos) (tC (.bl b)) := fun _ _ _ H _ I h => Constant_bool ⟨.bl b, H, I, rfl, h⟩
theorem pe_non {j pos} : PE X (.Constant .none j pos) (tC .non) := fun _ _ _ H _ I h => Constant_none ⟨.non, H, I, rfl, h⟩
theorem pe_str {x j pos} : PE X (.Constant (.str x) j pos) (tC (.str x)) := fun _ _ _ H _ I h => Calls.Constant_str ⟨.str x, H, I.tok _, ⟨_, rfl⟩, h⟩

/-- a global name of the def -/
def Gl (X : Cx) (x : Str) : Prop := X.env.kindOf x = some .globalImplicit
theorem ld_glob {E : Value → Shared → Prop} {pins : List (Addr × Obj)} {s : Shared} {σ : St} {H : Hp} {x : Str} {u : Value} {pos : Pos} {Q : Value → Shared → Prop} (I : Inv X pins σ H s) (hg : Gl X x) (hm : X.mg x = some u) (h : Q u s)
    (hd : (x == ("__debug__" : Str)) = false := by decide) : wpAny (model X.prog X.w) X.A (eval (.Name x pos) X.env) Q E s :=
  Calls.Name_function_global I.ok.kind hg (Calls.loadGlobal_global (by rw [I.ok.glob]; exact I.mod.glob.keeps I.bk) hm h) hd
theorem ld_blt {E : Value → Shared → Prop} {pins : List (Addr × Obj)} {s : Shared} {σ : St} {H : Hp} {x : Str} {u : Value} {pos : Pos} {Q : Value → Shared → Prop} (I : Inv X pins σ H s) (hg : Gl X x) (hm : X.mg x = none) (hv : bootBuiltins x = some u) (h : Q u s)
    (hn : x ≠ "__name__" := by decide) (hd : (x == ("__debug__" : Str)) = false := by decide) : wpAny (model X.prog X.w) X.A (eval (.Name x pos) X.env) Q E s := by
  obtain ⟨mb, h1, h2⟩ := I.mod.blt
  exact Calls.Name_function_global I.ok.kind hg (Calls.loadGlobal_builtin (by rw [I.ok.glob]; exact I.mod.glob.keeps I.bk) hm (by rw [I.ok.blt]; exact h1.keeps I.bk) ((h2 x hn).trans hv) h) hd
theorem pe_bltn {x : Str} {v : V} {u : Value} {pos : Pos} (hg : Gl X x) (hm : X.mg x = none) (hv : bootBuiltins x = some u) (r : RelV v u) (hn : x ≠ "__name__" := by decide) (hd : (x == ("__debug__" : Str)) = false := by decide) : PE X (.Name x pos) (tC v) :=
  fun _ _ _ H _ I h => ld_blt I hg hm hv ⟨v, H, I, r, h⟩ hn hd

/-! ### arithmetic -/
variable {a b : Expr} {ta tb : TE} {pos : Pos}

/-! ### comparisons -/
def PC (X : Cx) (op : CmpOp) (a b : Expr) (t : TE) : Prop :=
  ∀ (pins : List (Addr × Obj)) (s : Shared) (σ : St) (H : Hp) (Q : VK), Inv X pins σ H s → t σ H Q →
    wpAny (model X.prog X.w) X.A (eval a X.env) (fun v s₁ => wpAny (model X.prog X.w) X.A (eval b X.env) (fun u s₂ => wpAny (model X.prog X.w) X.A (compareOp op v u) (EP X pins σ Q) X.xe s₂) X.xe s₁) X.xe s
/-- a comparison as a value, as a test -/
def tB (t : TE) : TT := fun σ H Q => t σ H fun x H1 => ∃ c, x = .bl c ∧ Q c H1
theorem pt_cmp {op : CmpOp} {t : TE} (h : PC X op a b t) (h1 : behindInMarks op b = false := by first | exact nobehind _ (by decide) (by decide) | rfl) : PT X (.Compare a [op] [b] pos) (tB t) := by
  intro pins s σ H Q I hw
  refine wpAny_isTrue_Compare1 (thn (h pins s σ H _ I hw) fun v s1 h1 => thn h1 fun u s2 h2 => thn h2 fun c s3 ⟨x, H1, I1, r1, q1⟩ => ?_) h1
  obtain ⟨d, rfl, q⟩ := q1
  cases r1
  exact wpAny_truthy_bool ⟨H1, I1, q⟩

/-! ### and, or, not -/
variable {tA tB' : TT} {rest : List Expr}
def tAnd (t u : TT) : TT := fun σ H Q => t σ H fun c H1 => if c = true then u σ H1 Q else Q false H1
def tOr (t u : TT) : TT := fun σ H Q => t σ H fun c H1 => if c = true then Q true H1 else u σ H1 Q
def tNot (t : TT) : TT := fun σ H Q => t σ H fun c H1 => Q (!c) H1
theorem pw_and1 (ha : PT X a tA) : PW X (.BoolOp .And [a] pos) tA := by
  intro wh pins s σ H Q I h
  refine isTrue_and (thn (ha pins s σ H Q I h) fun c s1 e => ?_)
  cases c with
  | true => exact isTrue_and_nil e
  | false => exact e
theorem pw_or1 (ha : PT X a tA) : PW X (.BoolOp .Or [a] pos) tA := by
  intro wh pins s σ H Q I h
  refine isTrue_or (thn (ha pins s σ H Q I h) fun c s1 e => ?_)
  cases c with
  | false => exact isTrue_or_nil e
  | true => exact e
theorem pw_and (ha : PT X a tA) (hb : PW X (.BoolOp .And (b :: rest) pos) tB') : PW X (.BoolOp .And (a :: b :: rest) pos) (tAnd tA tB') := by
  intro wh pins s σ H Q I h
  refine isTrue_and (thn (ha pins s σ H _ I h) fun c s1 ⟨H1, I1, q1⟩ => ?_)
  cases c with
  | true => exact hb wh pins s1 σ H1 Q I1 q1
  | false => exact ⟨H1, I1, q1⟩
theorem pw_or (ha : PT X a tA) (hb : PW X (.BoolOp .Or (b :: rest) pos) tB') : PW X (.BoolOp .Or (a :: b :: rest) pos) (tOr tA tB') := by
  intro wh pins s σ H Q I h
  refine isTrue_or (thn (ha pins s σ H _ I h) fun c s1 ⟨H1, I1, q1⟩ => ?_)
  cases c with
  | true => exact ⟨H1, I1, q1⟩
  | false => exact hb wh pins s1 σ H1 Q I1 q1
theorem pt_not (ha : PT X a tA) : PT X (.UnaryOp .Not a pos) (tNot tA) := by
  intro pins s σ H Q I h
  exact isTrue_not (ha pins s σ H (fun c H1 => Q (!c) H1) I h)
/-- .. as values (bools) -/
def tAndV (ta tb : TE) : TE := fun σ H Q => ta σ H fun x H1 => ∃ c, x = .bl c ∧ if c = true then tb σ H1 Q else Q (.bl false) H1
theorem pe_one {op} {t : TE} (h : PE X a t) : PE X (.BoolOp op [a] pos) t := fun pins s σ H Q I hw => BoolOp_one (h pins s σ H Q I hw)
theorem pe_and (ha : PE X a ta) (hb : PE X (.BoolOp .And (b :: rest) pos) tb) : PE X (.BoolOp .And (a :: b :: rest) pos) (tAndV ta tb) := by
  intro pins s σ H Q I h
  refine BoolOp_and (thn (ha pins s σ H _ I h) fun v s1 ⟨x, H1, I1, r1, q1⟩ => ?_)
  obtain ⟨c, rfl, q1⟩ := q1
  cases r1
  refine wpAny_truthy_bool ?_
  cases c with
  | true => exact hb pins s1 σ H1 Q I1 q1
  | false => exact ⟨.bl false, H1, I1, rfl, q1⟩
end
end L2

namespace L2
open PySem PySem.Spec PyProof.Rows

/-! ### a list, a tuple that is read: tracked, frozen, or an object of the module -/
def SqL (K : PySem.W.Frag) (H : Hp) (a : Addr) (xs : List V) : Prop :=
  Rd H a (.lst xs) ∨
    ∃ (o : Obj) (its : Array Value) (n : Nat), K.lookup a = some o ∧ o.cls = .type "list" ∧ o.dict = none ∧ o.data = .seq its n ∧ its.size ≤ sizeLine ∧ Vals xs its.toList
def SqT (K : PySem.W.Frag) (H : Hp) (a : Addr) (xs : List V) : Prop :=
  Rd H a (.tup xs) ∨
    ∃ (o : Obj) (its : Array Value) (n : Nat), K.lookup a = some o ∧ o.cls = .type "tuple" ∧ o.data = .seq its n ∧ its.size ≤ sizeLine ∧ Vals xs its.toList
def absV : Value → Option V
  | .none => some .non
  | .bool b => some (.bl b)
  | .int i _ => some (.int i)
  | .str x _ => some (.str x)
  | .bytes b _ => some (.byt b)
  | .float b _ => some (.flt b)
  | .ref a => some (.ref a)
  | .type n => some (.ty n)
  | _ => none
theorem RelV.abs {x : V} {u : Value} (r : RelV x u) : absV u = some x := by
  cases x with
  | non => cases r; rfl
  | bl _ => cases r; rfl
  | int _ => obtain ⟨t, rfl⟩ := r; rfl
  | str _ => obtain ⟨t, rfl⟩ := r; rfl
  | byt _ => obtain ⟨t, rfl⟩ := r; rfl
  | flt _ => obtain ⟨t, rfl⟩ := r; rfl
  | ref _ => cases r; rfl
  | ty _ => cases r; rfl
theorem RelV.inj {x y : V} {u : Value} (r : RelV x u) (q : RelV y u) : x = y := Option.some.inj (r.abs.symm.trans q.abs)
theorem Vals.inj : ∀ {xs ys : List V} {us : List Value}, Vals xs us → Vals ys us → xs = ys
  | _, _, _, .nil, .nil => rfl
  | _, _, _, .cons r t, .cons r' t' => by rw [r.inj r', Vals.inj t t']
section
variable {X : Cx} {pins : List (Addr × Obj)} {σ : St} {H : Hp} {s : Shared} {a : Addr} {xs ys : List V}
theorem SqL.of {K : PySem.W.Frag} (h : H a = some (.lst xs)) : SqL K H a xs := .inl (.inl h)
theorem SqT.of {K : PySem.W.Frag} (h : H a = some (.tup xs)) : SqT K H a xs := .inl (.inl h)
theorem Inv.list (I : Inv X pins σ H s) (h : SqL X.K H a xs) : ∃ its : List Value, Vals xs its ∧ PlainL s.heap a its.toArray ∧ xs.length ≤ sizeLine := by
  rcases h with h | ⟨o, its, n, hk, hc, hd, hs, hz, r⟩
  · obtain ⟨z, its, n, r, e⟩ := h.ok I.hok
    exact ⟨its, r, ⟨_, n, e, rfl, rfl, rfl⟩, z⟩
  · refine ⟨its.toList, r, ⟨o, n, I.kIn a o hk, hc, hd, by simpa using hs⟩, ?_⟩
    have e := r.length
    simp only [Array.length_toList] at e
    omega
theorem Inv.tuple (I : Inv X pins σ H s) (h : SqT X.K H a xs) : ∃ its : List Value, Vals xs its ∧ IsTup s.heap a its.toArray ∧ xs.length ≤ sizeLine := by
  rcases h with h | ⟨o, its, n, hk, hc, hs, hz, r⟩
  · obtain ⟨z, its, r, p⟩ := h.ok I.hok
    exact ⟨its, r, p, z⟩
  · refine ⟨its.toList, r, ⟨o, I.kIn a o hk, hc, n, by simpa using hs⟩, ?_⟩
    have e := r.length
    simp only [Array.length_toList] at e
    omega
theorem Inv.list_inj (I : Inv X pins σ H s) (h : SqL X.K H a xs) (h' : SqL X.K H a ys) : xs = ys := by
  obtain ⟨its, r, ⟨o, n, e, _, _, d⟩, _⟩ := I.list h
  obtain ⟨its', r', ⟨o', n', e', _, _, d'⟩, _⟩ := I.list h'
  rw [e] at e'; cases e'
  rw [d] at d'
  injection d' with d1 _
  have : its = its' := by simpa using congrArg Array.toList d1
  subst this
  exact r.inj r'
theorem Inv.tuple_inj (I : Inv X pins σ H s) (h : SqT X.K H a xs) (h' : SqT X.K H a ys) : xs = ys := by
  obtain ⟨its, r, ⟨o, e, _, n, d⟩, _⟩ := I.tuple h
  obtain ⟨its', r', ⟨o', e', _, n', d'⟩, _⟩ := I.tuple h'
  rw [e] at e'; cases e'
  rw [d] at d'
  injection d' with d1 _
  have : its = its' := by simpa using congrArg Array.toList d1
  subst this
  exact r.inj r'
end

/-! ### another wish about exceptions -/
abbrev Cx.wish (X : Cx) (E : Value → Shared → Prop) : Cx := { X with xe := E }
/-- no exception leaves -/
abbrev Cx.nox (X : Cx) : Cx := X.wish fun _ _ => False
theorem Cx.Ok.wish {X : Cx} (ok : X.Ok) (E : Value → Shared → Prop) : (X.wish E).Ok :=
  ⟨ok.mod, ok.kind, ok.glob, ok.blt, ok.above, ok.inj, ok.has, ok.cab, ok.hd, ok.frames, ok.stk, ok.exf, ok.bs, ok.bsz, ok.noex, ok.exfs, ok.funs, ok.frf⟩
theorem Cx.Ok.unwish {X : Cx} {E : Value → Shared → Prop} (ok : (X.wish E).Ok) : X.Ok :=
  ⟨ok.mod, ok.kind, ok.glob, ok.blt, ok.above, ok.inj, ok.has, ok.cab, ok.hd, ok.frames, ok.stk, ok.exf, ok.bs, ok.bsz, ok.noex, ok.exfs, ok.funs, ok.frf⟩
section
variable {X : Cx} {pins : List (Addr × Obj)} {σ : St} {H : Hp} {s : Shared} {E : Value → Shared → Prop}
theorem Inv.wish (I : Inv X pins σ H s) (E : Value → Shared → Prop) : Inv (X.wish E) pins σ H s := ⟨I.ok.wish E, I.os, I.bare, I.base, I.loc, I.cell, I.free, I.freeC, I.pin, I.hok, I.len⟩
theorem Inv.unwish (I : Inv (X.wish E) pins σ H s) : Inv X pins σ H s := ⟨I.ok.unwish, I.os, I.bare, I.base, I.loc, I.cell, I.free, I.freeC, I.pin, I.hok, I.len⟩
theorem SP.unwish {D : Ends} {f : Flow} {s' : Shared} (h : SP (X.wish E) pins D f s') : SP X pins D f s' := by
  cases f with
  | next => obtain ⟨σ', H', I, q⟩ := h; exact ⟨σ', H', I.unwish, q⟩
  | brk => obtain ⟨σ', H', I, q⟩ := h; exact ⟨σ', H', I.unwish, q⟩
  | cont => obtain ⟨σ', H', I, q⟩ := h; exact ⟨σ', H', I.unwish, q⟩
  | ret u => obtain ⟨v, σ', H', I, r, q⟩ := h; exact ⟨v, σ', H', I.unwish, r, q⟩
theorem PSs.nox {st : List Stmt} {t : TS} (h : PSs X.nox st t) : PSs X st t := fun pins s σ H D I hw =>
  wpAny_mono (h pins s σ H D (I.wish _) hw) (fun _ _ q => q.unwish) fun _ _ z => False.elim z
end

/-! ### blocks and small statements -/
section
variable {X : Cx} {st : Stmt} {rest : List Stmt} {t u : TS} {e : Expr} {te : TE} {pos : Pos}
def tNext : TS := fun D σ H => D.nx σ H
def tSeq (t u : TS) : TS := fun D σ H => t { D with nx := u D } σ H
theorem pss_nil : PSs X [] tNext := fun _ _ σ H _ I h => wpAny_execs_nil ⟨σ, H, I, h⟩
theorem pss_cons (h1 : PS X st t) (h2 : PSs X rest u) : PSs X (st :: rest) (tSeq t u) := by
  intro pins s σ H D I h
  refine wpAny_execs_cons (thn (h1 pins s σ H { D with nx := u D } I h) fun f s1 q => ?_)
  cases f with
  | next =>
    obtain ⟨σ', H', I', q⟩ := q
    exact h2 pins s1 σ' H' D I' q
  | ret v => exact q
  | brk => exact q
  | cont => exact q
theorem pss_one (h1 : PS X st t) : PSs X [st] t := by
  intro pins s σ H D I h
  refine wpAny_execs_cons (thn (h1 pins s σ H D I h) fun f s1 q => ?_)
  cases f with
  | next => exact wpAny_execs_nil q
  | ret v => exact q
  | brk => exact q
  | cont => exact q
/-- in a def's body nothing is shown -/
theorem Inv.quiet {pins : List (Addr × Obj)} {σ : St} {H : Hp} {s : Shared} (I : Inv X pins σ H s) : interactive X.env = false := by simp [interactive, I.ok.kind]
/-- an expression whose value is dropped -/
def tDrop (te : TE) : TS := fun D σ H => te σ H fun _ H1 => D.nx σ H1
theorem ps_expr (he : PE X e te) (hs : swapsWith e none pos.line X.env = pure false := by rfl) : PS X (.Expr e pos) (tDrop te) := by
  intro pins s σ H D I h
  exact wpAny_Expr_any (thn (he pins s σ H _ I h) fun v s1 ⟨x, H1, I1, r1, q1⟩ => ⟨σ, H1, I1, q1⟩) I.quiet hs
def tRet (te : TE) : TS := fun D σ H => te σ H D.rt
theorem ps_ret (he : PE X e te) : PS X (.Return (some e) pos) (tRet te) := by
  intro pins s σ H D I h
  exact wpAny_Return_some (thn (he pins s σ H _ I h) fun v s1 ⟨x, H1, I1, r1, q1⟩ => ⟨x, σ, H1, I1, r1, q1⟩)
def tIfS (c : TT) (t u : TS) : TS := fun D σ H => c σ H fun b H1 => if b = true then t D σ H1 else u D σ H1
theorem ps_if {c : Expr} {a b : List Stmt} {tc : TT} (hc : PT X c tc) (ha : PSs X a t) (hb : PSs X b u) : PS X (.If c a b pos) (tIfS tc t u) := by
  intro pins s σ H D I h
  refine wpAny_If (thn (hc pins s σ H _ I h) fun d s1 ⟨H1, I1, q1⟩ => ?_)
  cases d with
  | true => exact ha pins s1 σ H1 D I1 q1
  | false => exact hb pins s1 σ H1 D I1 q1
/-- code that the proof never comes to -/
def tNever : TS := fun _ _ _ => False
theorem ps_never : PS X st tNever := fun _ _ _ _ _ _ h => h.elim
end

/-! ### targets -/
abbrev TG := V → St → Hp → (St → Hp → Prop) → Prop
abbrev TGs := List V → St → Hp → (St → Hp → Prop) → Prop
def PG (X : Cx) (target : Expr) (t : TG) : Prop :=
  ∀ (pins : List (Addr × Obj)) (s : Shared) (σ : St) (H : Hp) (v : V) (u : Value) (Q : St → Hp → Prop), Inv X pins σ H s → RelV v u → t v σ H Q →
    wpAny (model X.prog X.w) X.A (assign target X.env u) (fun _ s' => ∃ σ' H', Inv X pins σ' H' s' ∧ Q σ' H') X.xe s
/-- several targets, one after another -/
def PGs (X : Cx) (ts : List Expr) (t : TGs) : Prop :=
  ∀ (pins : List (Addr × Obj)) (s : Shared) (σ : St) (H : Hp) (vs : List V) (us : List Value) (Q : St → Hp → Prop), Inv X pins σ H s → Vals vs us → t vs σ H Q →
    wpAny (model X.prog X.w) X.A (assignInOrder ((assignEach ts X.env).map (·.2)) us) (fun _ s' => ∃ σ' H', Inv X pins σ' H' s' ∧ Q σ' H') X.xe s
section
variable {X : Cx} {pos : Pos}
def gName (i : Nat) : TG := fun v σ H Q => Q (σ.set i (some v)) H
theorem pg_name {i : Nat} {x : Str} (hN : X.N.Nodup) (hi : X.N[i]? = some x) (hx : Loc X.env.scope x) (hf : X.fn x = true ∨ X.env.scope.names.lookup x = some .local := by first | exact .inl rfl | exact .inr rfl | assumption) : PG X (.Name x pos) (gName i) := by
  intro pins s σ H v u Q I r h
  exact wpAny_assign_Name (store_ok I hN hi hx r (fun s' I' => ⟨_, H, I', h⟩) hf)
def gNil : TGs := fun vs σ H Q => vs = [] ∧ Q σ H
def gCons (t : TG) (u : TGs) : TGs := fun vs σ H Q => ∃ v r, vs = v :: r ∧ t v σ H fun σ' H' => u r σ' H' Q
theorem pgs_nil : PGs X [] gNil := by
  intro pins s σ H vs us Q I r h
  obtain ⟨e, h⟩ := h
  subst e
  cases r
  exact assignInOrder_nil ⟨σ, H, I, h⟩
theorem pgs_cons {e : Expr} {es : List Expr} {t : TG} {u : TGs} (h1 : PG X e t) (h2 : PGs X es u)
    (hs : (assignEach (e :: es) X.env).map (·.2) = assign e X.env :: (assignEach es X.env).map (·.2) := by rfl) : PGs X (e :: es) (gCons t u) := by
  intro pins s σ H vs us Q I r h
  obtain ⟨v, vr, e1, h⟩ := h
  subst e1
  cases r with
  | cons r rr =>
    rw [hs]
    refine assignInOrder_cons (thn (h1 pins s σ H _ _ _ I r h) fun _ s1 ⟨σ1, H1, I1, q1⟩ => ?_)
    exact h2 pins s1 σ1 H1 _ _ Q I1 rr q1
/-- (a, b, ..) = a tuple of that length -/
def gTup (K : PySem.W.Frag) (n : Nat) (t : TGs) : TG := fun v σ H Q => ∃ a xs, v = .ref a ∧ SqT K H a xs ∧ xs.length = n ∧ t xs σ H Q
theorem pg_tup {es : List Expr} {k : Nat} {t : TGs} {n : Nat} (hc : X.calm = true) (h : PGs X es t)
    (hn : (assignEach es X.env).length = n := by rfl) (hst : (assignEach es X.env).findIdx? (·.1) = none := by rfl) : PG X (.Tuple es k pos) (gTup X.K n t) := by
  intro pins s σ H v u Q I r hw
  obtain ⟨a, xs, e1, hq, hl, hw⟩ := hw
  subst e1
  cases r
  obtain ⟨its, rv, ht, hz⟩ := I.tuple hq
  refine assign_Tuple_tuple (I.ok.hd hc) ht (by simp [hn, ← hl, rv.length]) hst fun h' hx => ?_
  have I1 : Inv X pins σ H { s with heap := h' } := I.kept (t' := s.toks) fun b o e => hx b o (Nat.ne_of_lt (Heap.lt_size e)) e
  exact h pins _ σ H xs _ Q I1 (by simpa using rv) hw
/-- target = value -/
def tAsg (te : TE) (g : TG) : TS := fun D σ H => te σ H fun x H1 => g x σ H1 D.nx
/-- name = value -/
theorem ps_set {i : Nat} {x : Str} {e : Expr} {te : TE} {pos' : Pos} (hN : X.N.Nodup) (hi : X.N[i]? = some x) (hx : Loc X.env.scope x) (he : PE X e te) (hs : swapsWith e (some (.Name x pos')) pos.line X.env = pure false := by rfl) (hf : X.fn x = true ∨ X.env.scope.names.lookup x = some .local := by first | exact .inl rfl | exact .inr rfl | assumption) :
    PS X (.Assign [.Name x pos'] e pos) (tAsg te (gName i)) := by
  intro pins s σ H D I h
  refine wpAny_Assign_Name (thn (he pins s σ H _ I h) fun v s1 ⟨y, H1, I1, r1, q1⟩ => ?_) hs
  exact store_ok I1 hN hi hx r1 (fun s2 I2 => ⟨_, H1, I2, q1⟩) hf
end

/-! ### while -/
section
variable {X : Cx} {pos : Pos}
end

/-! ### what a loop or a comprehension walks -/
/-- at turn i: it yields x (the heap may grow), or it stops -/
structure It where
  go : Nat → Hp → Prop
  yld : Nat → Hp → V → Hp → Prop
  stop : Nat → Hp → Prop
/-- the iterator's own objects may turn: they are not the frame's, not pinned, younger than the entry (or a comprehension's own) -/
def FpOk (X : Cx) (pins : List (Addr × Obj)) (H : Hp) (b : Addr) : Prop :=
  H b = none ∧ b ≠ X.env.locals ∧ b ∉ X.fs ∧ (b ∈ X.ex ∨ X.s₀.heap.objs.size ≤ b) ∧ (∀ x c, X.env.cells.lookup x = some c → c ≠ b) ∧ ∀ p ∈ X.pn ++ pins, p.1 ≠ b
theorem Inv.fpOk {X : Cx} {pins : List (Addr × Obj)} {σ : St} {H H' : Hp} {s : Shared} {b : Addr} (I : Inv X pins σ H s) (hb : s.heap.objs.size ≤ b) (hn : H' b = none) : FpOk X pins H' b := by
  refine ⟨hn, Nat.ne_of_gt (Nat.lt_of_lt_of_le I.lt hb), I.nofs hb, .inr (Nat.le_trans I.sz hb), fun x c e z => ?_, fun p hp z => ?_⟩
  · obtain ⟨v, q⟩ := I.cell x c e
    exact absurd (Nat.lt_of_lt_of_le q.lt (by rw [z]; exact hb)) (Nat.lt_irrefl _)
  · exact absurd (Nat.lt_of_lt_of_le (Heap.lt_size (I.pin p hp).1) (by rw [z]; exact hb)) (Nat.lt_irrefl _)
structure Turn (P : Program) (w : World) (K : PySem.W.Frag) (tg : Expr) (J : It) (fp : List Addr) (it : Addr) (tn : Nat → Heap → Prop) : Prop where
  mem : it ∈ fp
  obj : ∀ i h, tn i h → ∀ b ∈ fp, ∃ o, h.get? b = some o ∧ ∀ v, o.data ≠ .cell v
  keep : ∀ i h h', tn i h → (∀ b ∈ fp, ∀ o, h.get? b = some o → h'.get? b = some o) → tn i h'
  item : ∀ (X : Cx), X.prog = P → X.w = w → X.K = K → X.calm = true → ∀ (i : Nat) (pins : List (Addr × Obj)) (s : Shared) (σ : St) (H : Hp) (E : Value → Shared → Prop), Inv X pins σ H s → (∀ b ∈ fp, FpOk X pins H b) → tn i s.heap → J.go i H →
    wpAny (model P w) X.A (pyNext (.ref it)) (fun r s1 => ∃ u, r = some u ∧
      wpAny (model P w) X.A (letOwnedTupleGo tg (.ref it) u) (fun _ s2 => ∃ x H', Inv X pins σ H' s2 ∧ RelV x u ∧ J.yld i H x H' ∧ tn (i + 1) s2.heap ∧ ∀ b ∈ fp, H' b = none) E s1) E s
  done : ∀ (X : Cx), X.prog = P → X.w = w → X.K = K → X.calm = true → ∀ (i : Nat) (pins : List (Addr × Obj)) (s : Shared) (σ : St) (H : Hp) (E : Value → Shared → Prop), Inv X pins σ H s → (∀ b ∈ fp, FpOk X pins H b) → tn i s.heap → J.stop i H →
    wpAny (model P w) X.A (pyNext (.ref it)) (fun r s1 => r = none ∧ Inv X pins σ H s1) E s
  self : ∀ (A : Around) (i : Nat) (s : Shared) (Q : Value → Shared → Prop) (E : Value → Shared → Prop), tn i s.heap → Q (.ref it) s → wpAny (model P w) A (pyIter (.ref it)) Q E s
abbrev TI := St → Hp → (It → Hp → Prop) → Prop
/-- an iterator has come -/
def PIE (X : Cx) (pins : List (Addr × Obj)) (σ : St) (tg : Expr) (R : It → Hp → Prop) (itv : Value) (s2 : Shared) : Prop :=
  ∃ (it : Addr) (fp : List Addr) (tn : Nat → Heap → Prop) (J : It) (H' : Hp), itv = .ref it ∧ Inv X pins σ H' s2 ∧ Turn X.prog X.w X.K tg J fp it tn ∧ tn 0 s2.heap ∧ (∀ b ∈ fp, FpOk X pins H' b) ∧ R J H'
def PI (X : Cx) (tg iter : Expr) (wi : TI) : Prop :=
  ∀ (pins : List (Addr × Obj)) (s : Shared) (σ : St) (H : Hp) (R : It → Hp → Prop), Inv X pins σ H s → wi σ H R →
    wpAny (model X.prog X.w) X.A (eval iter X.env) (fun v s1 => wpAny (model X.prog X.w) X.A (pyIter v) (PIE X pins σ tg R) X.xe s1) X.xe s

/-- the step ahead of the store is nothing for an iterator that keeps no tuple -/
theorem go_of {M : Model} {A : Around} {E : Value → Shared → Prop} {s : Shared} {tg : Expr} {it : Addr} {u : Value} {o : Obj} {n : String} {vs : Array Value} {Q : Unit → Shared → Prop} (ho : s.heap.get? it = some o) (hc : o.cls = .type n) (hd : o.data = .fields vs)
    (hn : ["enumerate", "zip", "dict_itemiterator", "dict_reverseitemiterator", "odict_iterator", "itertools.zip_longest", "itertools.pairwise"].contains n = false) (hQ : Q () s) : wpAny M A (letOwnedTupleGo tg (.ref it) u) Q E s := by
  unfold letOwnedTupleGo
  cases tg <;> first
    | exact wpAny_pure hQ
    | (cases u <;> first
        | exact wpAny_pure hQ
        | (refine wpAny_bind (wpAny_load ho ?_)
           rw [hc, hd]
           show wpAny M A (if (["enumerate", "zip", "dict_itemiterator", "dict_reverseitemiterator", "odict_iterator", "itertools.zip_longest", "itertools.pairwise"].contains n && vs[0]? == some (rawInt _)) = true then _ else _) Q E s
           rw [if_neg (by intro h; rw [hn, Bool.false_and] at h; cases h)]
           exact wpAny_pure hQ))

/-- the list at a, as it stands at each turn (a loop may append to it) -/
def Itl (K : PySem.W.Frag) (a : Addr) : It :=
  ⟨fun i H => ∃ xs x, SqL K H a xs ∧ xs[i]? = some x, fun i H x H' => H' = H ∧ ∀ xs, SqL K H a xs → xs[i]? = some x, fun i H => ∃ xs, SqL K H a xs ∧ xs.length ≤ i⟩
def Itt (K : PySem.W.Frag) (a : Addr) : It :=
  ⟨fun i H => ∃ xs x, SqT K H a xs ∧ xs[i]? = some x, fun i H x H' => H' = H ∧ ∀ xs, SqT K H a xs → xs[i]? = some x, fun i H => ∃ xs, SqT K H a xs ∧ xs.length ≤ i⟩
/-- lo, lo + 1, .. (n of them) -/
def Itr (lo : Int) (n : Nat) : It := ⟨fun i _ => i < n, fun i H x H' => H' = H ∧ x = .int (lo + i), fun i _ => n ≤ i⟩
theorem turn_list {P : Program} {w : World} {K : PySem.W.Frag} {tg : Expr} (a it : Addr) : Turn P w K tg (Itl K a) [it] it (fun i h => h.IsListIter it a i) where
  mem := by simp
  obj := fun i h st b hb => by
    have e : b = it := by simpa using hb
    subst e
    obtain ⟨o, e, c, d⟩ := st
    exact ⟨o, e, fun v z => by rw [d] at z; cases z⟩
  keep := fun i h h' st k => st.at fun o e => k it (by simp) o e
  item := by
    intro X hP hw hK hc i pins s σ H E I hf st hg
    subst hP hw hK
    obtain ⟨xs, x, hq, hx⟩ := hg
    obtain ⟨its, rv, p, hz⟩ := I.list hq
    obtain ⟨u, hu, ru⟩ := rv.get hx
    obtain ⟨f0, f1, f2, f3, f4, f5⟩ := hf it (by simp)
    refine wpAny_pyNext_list_item st p.isList (x := u) (by simpa using hu) fun h' st' sb => ?_
    have I1 : Inv X pins σ H { s with heap := h' } := I.turned (t' := s.toks) (fun b o hb e => (sb.2 b hb).trans e) f0 f1 f3 f4 f5
    obtain ⟨o, e, c, d⟩ := id st'
    exact ⟨u, rfl, go_of (s := { s with heap := h' }) e c d (by decide) ⟨x, H, I1, ru, ⟨rfl, fun ys hy => by rw [I.list_inj hy hq]; exact hx⟩, st', fun b hb => (hf b hb).1⟩⟩
  done := by
    intro X hP hw hK hc i pins s σ H E I hf st hg
    subst hP hw hK
    obtain ⟨xs, hq, hx⟩ := hg
    obtain ⟨its, rv, p, hz⟩ := I.list hq
    obtain ⟨f0, f1, f2, f3, f4, f5⟩ := hf it (by simp)
    have hl := rv.length
    exact wpAny_pyNext_list_end (I.ok.hd hc) st p.isList (by simp; omega) fun h' eb => ⟨rfl, I.turned (t' := s.toks) (fun b o hb e => eb b o hb e) f0 f1 f3 f4 f5⟩
  self := fun _ _ _ _ _ st h => wpAny_pyIter_listiter st h
theorem turn_tuple {P : Program} {w : World} {K : PySem.W.Frag} {tg : Expr} (a it : Addr) : Turn P w K tg (Itt K a) [it] it (fun i h => h.IsTupleIter it a i) where
  mem := by simp
  obj := fun i h st b hb => by
    have e : b = it := by simpa using hb
    subst e
    obtain ⟨o, e, c, d⟩ := st
    exact ⟨o, e, fun v z => by rw [d] at z; cases z⟩
  keep := fun i h h' st k => st.at fun o e => k it (by simp) o e
  item := by
    intro X hP hw hK hc i pins s σ H E I hf st hg
    subst hP hw hK
    obtain ⟨xs, x, hq, hx⟩ := hg
    obtain ⟨its, rv, p, hz⟩ := I.tuple hq
    obtain ⟨u, hu, ru⟩ := rv.get hx
    obtain ⟨f0, f1, f2, f3, f4, f5⟩ := hf it (by simp)
    refine wpAny_pyNext_tuple_item st (show s.heap.IsTuple a its.toArray from p) (x := u) (by simpa using hu) fun h' st' sb => ?_
    have I1 : Inv X pins σ H { s with heap := h' } := I.turned (t' := s.toks) (fun b o hb e => (sb.2 b hb).trans e) f0 f1 f3 f4 f5
    obtain ⟨o, e, c, d⟩ := id st'
    exact ⟨u, rfl, go_of (s := { s with heap := h' }) e c d (by decide) ⟨x, H, I1, ru, ⟨rfl, fun ys hy => by rw [I.tuple_inj hy hq]; exact hx⟩, st', fun b hb => (hf b hb).1⟩⟩
  done := by
    intro X hP hw hK hc i pins s σ H E I hf st hg
    subst hP hw hK
    obtain ⟨xs, hq, hx⟩ := hg
    obtain ⟨its, rv, p, hz⟩ := I.tuple hq
    obtain ⟨f0, f1, f2, f3, f4, f5⟩ := hf it (by simp)
    have hl := rv.length
    exact wpAny_pyNext_tuple_end (I.ok.hd hc) st (show s.heap.IsTuple a its.toArray from p) (by simp; omega) fun h' eb => ⟨rfl, I.turned (t' := s.toks) (fun b o hb e => eb b o hb e) f0 f1 f3 f4 f5⟩
  self := fun _ _ _ _ _ st h => wpAny_pyIter_tupleiter st h
theorem turn_range {P : Program} {w : World} {K : PySem.W.Frag} {tg : Expr} (it : Addr) (lo : Int) (n : Nat) : Turn P w K tg (Itr lo n) [it] it (fun i h => IsRangeIter h it (lo + (i : Nat) * 1) ((n : Int) - (i : Nat)) 1) where
  mem := by simp
  obj := fun i h st b hb => by
    have e : b = it := by simpa using hb
    subst e
    exact ⟨_, st, fun v z => by
      have z' : Data.fields _ = Data.cell v := z
      cases z'⟩
  keep := fun i h h' st k => k it (by simp) _ st
  item := by
    intro X hP hw hK hc i pins s σ H E I hf st hg
    subst hP hw hK
    obtain ⟨f0, f1, f2, f3, f4, f5⟩ := hf it (by simp)
    have W := Walks.range (prog := X.prog) (w := X.w) (I.ok.hd hc) it lo 1 n
    refine W.item i s _ _ hg st fun v h' tk hv st' kk => ?_
    obtain ⟨t, rfl⟩ := hv
    have I1 : Inv X pins σ H { s with heap := h', toks := tk } := I.turned (fun b o hb e => kk b o (by simpa using hb) e) f0 f1 f3 f4 f5
    refine ⟨_, rfl, go_of (s := { s with heap := h', toks := tk }) (n := "range_iterator") st' rfl rfl (by decide) ⟨.int (lo + i), H, I1, ⟨t, ?_⟩, ⟨rfl, rfl⟩, st', fun b hb => (hf b hb).1⟩⟩
    rw [Int.mul_one]
  done := by
    intro X hP hw hK hc i pins s σ H E I hf st hg
    subst hP hw hK
    obtain ⟨f0, f1, f2, f3, f4, f5⟩ := hf it (by simp)
    exact wpAny_pyNext_range_end (I.ok.hd hc) st (by have : n ≤ i := hg; omega) fun h' eb => ⟨rfl, I.turned (t' := s.toks) (fun b o hb e => eb b o hb e) f0 f1 f3 f4 f5⟩
  self := fun _ _ _ _ _ st h => wpAny_pyIter_rangeiter st h
end L2

namespace L2
open PySem PySem.Spec PyProof.Rows
section
variable {X : Cx} {tg : Expr}
def iList (K : PySem.W.Frag) (tl : TE) : TI := fun σ H R => tl σ H fun x H1 => ∃ a, x = .ref a ∧ (∃ xs, SqL K H1 a xs) ∧ R (Itl K a) H1
theorem pi_list {l : Expr} {tl : TE} (hl : PE X l tl) : PI X tg l (iList X.K tl) := by
  intro pins s σ H R I h
  refine thn (hl pins s σ H _ I h) fun v s1 ⟨x, H1, I1, r1, q1⟩ => ?_
  obtain ⟨a, e, ⟨xs, hq⟩, q⟩ := q1
  subst e
  cases r1
  obtain ⟨its, rv, p, hz⟩ := I1.list hq
  refine wpAny_pyIter_list p.isList ?_
  refine ⟨s1.heap.objs.size, [s1.heap.objs.size], _, _, H1, rfl, I1.kept (t' := s1.toks) fun b o e => Heap.get?_push_of_some _ e, turn_list a _, ⟨_, Heap.get?_push_size _ rfl, rfl, rfl⟩, fun b hb => ?_, q⟩
  have e : b = s1.heap.objs.size := by simpa using hb
  subst e
  exact I1.fpOk (Nat.le_refl _) (I1.hok.fresh (Nat.le_refl _))
/-- a range object just made, walked -/
theorem range_it {pins : List (Addr × Obj)} {σ : St} {H : Hp} {s : Shared} {R : It → Hp → Prop} {E : Value → Shared → Prop} {lo hi : Int} {t u v : Tok} {tk : Nat} (I : Inv X pins σ H s) (h1 : -(2 ^ 62) ≤ lo) (h2 : lo < 2 ^ 62) (h3 : -(2 ^ 62) ≤ hi) (h4 : hi < 2 ^ 62)
    (q : R (Itr lo (hi - lo).toNat) H) : wpAny (model X.prog X.w) X.A (pyIter (.ref s.heap.objs.size)) (PIE X pins σ tg R) E { s with heap := s.heap.push { cls := .type "range", data := .fields #[.int lo t, .int hi u, .int 1 v] }, toks := tk } := by
  refine wpAny_pyIter_range (IsRange.new ..) (small_one h1 h2 h3 h4) ?_
  have I1 : Inv X pins σ H { s with heap := s.heap.push { cls := .type "range", data := .fields #[.int lo t, .int hi u, .int 1 v] }, toks := tk } := I.kept fun b o e => Heap.get?_push_of_some _ e
  refine ⟨(s.heap.push { cls := .type "range", data := .fields #[.int lo t, .int hi u, .int 1 v] }).objs.size, [(s.heap.push { cls := .type "range", data := .fields #[.int lo t, .int hi u, .int 1 v] }).objs.size], _, _, H, rfl,
    I1.kept (t' := tk) fun b o e => Heap.get?_push_of_some _ e, turn_range _ lo (hi - lo).toNat, ?_, fun b hb => ?_, q⟩
  · have e1 : lo + ((0 : Nat) : Int) * 1 = lo := by simp
    have e2 : (((hi - lo).toNat : Nat) : Int) - ((0 : Nat) : Int) = Builtin.Range.rangeSize lo hi 1 := by rw [rangeSize_one]; split <;> omega
    show IsRangeIter _ _ (lo + ((0 : Nat) : Int) * 1) ((((hi - lo).toNat : Nat) : Int) - ((0 : Nat) : Int)) 1
    rw [e1, e2]
    exact Heap.get?_push_size _ rfl
  · have e : b = (s.heap.push { cls := .type "range", data := .fields #[.int lo t, .int hi u, .int 1 v] }).objs.size := by simpa using hb
    subst e
    exact I1.fpOk (Nat.le_refl _) (I1.hok.fresh (Nat.le_refl _))
def iRng1 (ta : TA) : TI := fun σ H R => ta σ H fun vs H1 => ∃ j : Int, vs = [.int j] ∧ -(2 ^ 62) ≤ j ∧ j < 2 ^ 62 ∧ R (Itr 0 j.toNat) H1
def iRng2 (ta : TA) : TI := fun σ H R => ta σ H fun vs H1 => ∃ i j : Int, vs = [.int i, .int j] ∧ (-(2 ^ 62) ≤ i ∧ i < 2 ^ 62 ∧ -(2 ^ 62) ≤ j ∧ j < 2 ^ 62) ∧ R (Itr i (j - i).toNat) H1
theorem pi_range1 {a : Expr} {ta : TA} {p pos : Pos} (hg : Gl X "range") (hm : X.mg "range" = none) (ha : PA X [a] ta) (hs : starEach [a] X.env = [(false, eval a X.env)] := by rfl) : PI X tg (.Call (.Name "range" p) [a] [] pos) (iRng1 ta) := by
  intro pins s σ H R I h
  refine Call_ (ld_blt I hg hm boot_range (PyProof.Rows.callWith_type1 (thn (ha pos pins s σ H _ I h) fun us s1 ⟨vs, H1, I1, r1, q1⟩ => ?_) hs rfl))
  obtain ⟨j, e, q1, q2, q⟩ := q1
  subst e
  cases r1 with
  | cons r rr =>
    cases rr
    obtain ⟨t, rfl⟩ := r
    exact call_range_1 (range_it I1 (by omega) (by omega) q1 q2 (by simpa using q))
theorem pi_range2 {a b : Expr} {ta : TA} {p pos : Pos} (hg : Gl X "range") (hm : X.mg "range" = none) (ha : PA X [a, b] ta) (hs : starEach [a, b] X.env = [(false, eval a X.env), (false, eval b X.env)] := by rfl) (hs2 : starEach [b] X.env = [(false, eval b X.env)] := by rfl) :
    PI X tg (.Call (.Name "range" p) [a, b] [] pos) (iRng2 ta) := by
  intro pins s σ H R I h
  refine Call_ (ld_blt I hg hm boot_range (PyProof.Rows.callWith_type1 (thn (ha pos pins s σ H _ I h) fun us s1 ⟨vs, H1, I1, r1, q1⟩ => ?_) (by rw [hs, hs2]) (by rw [hs2]; rfl)))
  obtain ⟨i, j, e, ⟨q1, q2, q3, q4⟩, q⟩ := q1
  subst e
  cases r1 with
  | cons r rr =>
    cases rr with
    | cons r' rr =>
      cases rr
      obtain ⟨t, rfl⟩ := r
      obtain ⟨t', rfl⟩ := r'
      exact call_range_2 (range_it I1 q1 q2 q3 q4 q)

/-! ### for -/
/-- W: the invariant by the turn and a measure; N: what the body is to reach -/
def tFor (wi : TI) (g : TG) (tb : TS) : TS := fun D σ H => wi σ H fun J H1 => ∃ W : Nat → Nat → St → Hp → Prop, (∃ m, W 0 m σ H1) ∧ ∀ i m σ H, W i m σ H →
  (J.stop i H ∧ D.nx σ H) ∨ (J.go i H ∧ ∃ N : St → Hp → Prop, (∀ σ' H', N σ' H' → ∃ m', m' < m ∧ W (i + 1) m' σ' H') ∧ ∀ x H', J.yld i H x H' → g x σ H' fun σ2 H2 => tb { D with nx := N, ct := N, bk := D.nx } σ2 H2)
/-- the records at fp as they stand -/
def pinsAt (fp : List Addr) (h : Heap) : List (Addr × Obj) := fp.filterMap fun b => (h.get? b).map fun o => (b, o)
theorem mem_pinsAt {fp : List Addr} {h : Heap} {b : Addr} {o : Obj} (hb : b ∈ fp) (e : h.get? b = some o) : (b, o) ∈ pinsAt fp h := List.mem_filterMap.mpr ⟨b, hb, by rw [e]; rfl⟩
theorem of_pinsAt {fp : List Addr} {h : Heap} {p : Addr × Obj} (hp : p ∈ pinsAt fp h) : p.1 ∈ fp ∧ h.get? p.1 = some p.2 := by
  obtain ⟨b, hb, e⟩ := List.mem_filterMap.mp hp
  cases q : h.get? b with
  | none => rw [q] at e; cases e
  | some o =>
    rw [q] at e
    have e' : (b, o) = p := Option.some.inj e
    subst e'
    exact ⟨hb, q⟩
theorem Inv.pinned {pins : List (Addr × Obj)} {σ : St} {H : Hp} {s : Shared} {fp : List Addr} (I : Inv X pins σ H s) (hf : ∀ b ∈ fp, FpOk X pins H b) (ho : ∀ b ∈ fp, ∃ o, s.heap.get? b = some o ∧ ∀ v, o.data ≠ .cell v) : Inv X (pins ++ pinsAt fp s.heap) σ H s :=
  I.pins_of fun p hp => (List.mem_append.mp hp).elim (fun z => I.pin p (List.mem_append_right _ z)) fun z => by
    obtain ⟨hb, e⟩ := of_pinsAt z
    obtain ⟨f0, f1, f2, _⟩ := hf p.1 hb
    obtain ⟨o, e', d⟩ := ho p.1 hb
    rw [e] at e'; cases e'
    exact ⟨e, f0, f1, f2, d⟩
theorem Inv.unpinned {pins pl : List (Addr × Obj)} {σ : St} {H : Hp} {s : Shared} (I : Inv X (pins ++ pl) σ H s) : Inv X pins σ H s := I.pins_of fun p hp => I.pin p (List.mem_append_right _ (List.mem_append_left _ hp))
theorem ps_for {iter : Expr} {body : List Stmt} {wi : TI} {g : TG} {tb : TS} {pos : Pos} (hp : PassesOwn (model X.prog X.w) X.A X.env X.xe) (hc : X.calm = true) (hi : PI X tg iter wi) (hg : PG X tg g) (hb : PSs X body tb)
    (hs : ∀ x, foldedSetIterable iter X.env x = pure x := by intro _; rfl) : PS X (.For tg iter body [] pos) (tFor wi g tb) := by
  intro pins s σ H D I h
  refine wpAny_For (thn (hi pins s σ H _ I h) fun v s1 h1 => thn h1 fun itv s2 h2 => ?_) hs
  obtain ⟨it, fp, tn, J, H2, e, I2, T, st2, f2, W, ⟨m0, w0⟩, turn⟩ := h2
  subst e
  -- what stays true of the iterator's objects through the loop
  have stat : ∀ {H' : Hp}, (∀ b ∈ fp, H' b = none) → ∀ b ∈ fp, FpOk X pins H' b := fun hn b hb => ⟨hn b hb, (f2 b hb).2⟩
  refine codeAny_forLoop_any (fun n s' => ∃ i σ' H', Inv X pins σ' H' s' ∧ tn i s'.heap ∧ (∀ b ∈ fp, H' b = none) ∧ W i n σ' H') ?_ m0 ⟨0, σ, H2, I2, st2, fun b hb => (f2 b hb).1, w0⟩
  rintro n s3 ⟨i, σ3, H3, I3, st3, fr3, w3⟩
  rcases turn i n σ3 H3 w3 with ⟨stop, qn⟩ | ⟨go, N, hN, step⟩
  · refine wpAny_passesOwn hp (thn (T.done X rfl rfl rfl hc i pins s3 σ3 H3 X.xe I3 (stat fr3) st3 stop) fun r s4 ⟨hr, I4⟩ => ?_)
    subst hr
    exact wpAny_execs_nil ⟨σ3, H3, I4, qn⟩
  · refine wpAny_passesOwn hp (thn (T.item X rfl rfl rfl hc i pins s3 σ3 H3 X.xe I3 (stat fr3) st3 go) fun r s4 ⟨u, hr, h4⟩ => ?_)
    subst hr
    refine wpAny_passesOwn hp (thn h4 fun _ s5 ⟨x, H5, I5, r5, y5, st5, fr5⟩ => ?_)
    have I5' := I5.pinned (stat fr5) (T.obj _ _ st5)
    refine wpAny_passesOwn hp (thn (hg _ s5 σ3 H5 x u _ I5' r5 (step x H5 y5)) fun _ s6 ⟨σ6, H6, I6, q6⟩ => ?_)
    refine wpAny_passesOwn hp (thn (hb _ s6 σ6 H6 _ I6 q6) fun f s7 q7 => ?_)
    have again : ∀ {σ7 : St} {H7 : Hp}, Inv X (pins ++ pinsAt fp s5.heap) σ7 H7 s7 → N σ7 H7 → ∃ m, m < n ∧ ∃ i σ' H', Inv X pins σ' H' s7 ∧ tn i s7.heap ∧ (∀ b ∈ fp, H' b = none) ∧ W i m σ' H' := fun {σ7 H7} I7 n7 => by
      obtain ⟨m', hm, w7⟩ := hN σ7 H7 n7
      refine ⟨m', hm, i + 1, σ7, H7, I7.unpinned, T.keep _ _ _ st5 fun b hb o e => (I7.pin (b, o) (List.mem_append_right _ (List.mem_append_right _ (mem_pinsAt hb e)))).1, fun b hb => ?_, w7⟩
      obtain ⟨o, e, d⟩ := T.obj _ _ st5 b hb
      exact (I7.pin (b, o) (List.mem_append_right _ (List.mem_append_right _ (mem_pinsAt hb e)))).2.1
    cases f with
    | next => obtain ⟨σ7, H7, I7, n7⟩ := q7; exact again I7 n7
    | cont => obtain ⟨σ7, H7, I7, n7⟩ := q7; exact again I7 n7
    | brk => obtain ⟨σ7, H7, I7, q7⟩ := q7; exact ⟨σ7, H7, I7.unpinned, q7⟩
    | ret v => obtain ⟨x7, σ7, H7, I7, r7, q7⟩ := q7; exact ⟨x7, σ7, H7, I7.unpinned, r7, q7⟩
end

/-! ### the forms one uses -/
/-- over a list that the body leaves as it is -/
theorem for_list {K : PySem.W.Frag} {a : Addr} {xs : List V} {g : TG} {tb : TS} {D : Ends} {σ : St} {H : Hp} (Pv : Nat → St → Hp → Prop) (h0 : Pv 0 σ H) (hl : ∀ i σ H, i ≤ xs.length → Pv i σ H → SqL K H a xs)
    (hs : ∀ i x σ H, xs[i]? = some x → Pv i σ H → g x σ H fun σ2 H2 => tb { D with nx := Pv (i + 1), ct := Pv (i + 1), bk := D.nx } σ2 H2) (hd : ∀ σ H, Pv xs.length σ H → D.nx σ H) :
    ∃ W : Nat → Nat → St → Hp → Prop, (∃ m, W 0 m σ H) ∧ ∀ i m σ H, W i m σ H →
      ((Itl K a).stop i H ∧ D.nx σ H) ∨ ((Itl K a).go i H ∧ ∃ N : St → Hp → Prop, (∀ σ' H', N σ' H' → ∃ m', m' < m ∧ W (i + 1) m' σ' H') ∧ ∀ x H', (Itl K a).yld i H x H' → g x σ H' fun σ2 H2 => tb { D with nx := N, ct := N, bk := D.nx } σ2 H2) := by
  refine ⟨fun i m σ H => m = xs.length - i ∧ i ≤ xs.length ∧ Pv i σ H, ⟨xs.length, by simp, Nat.zero_le _, h0⟩, ?_⟩
  rintro i m σ H ⟨rfl, hi, p⟩
  have q := hl i σ H hi p
  by_cases hlt : i < xs.length
  · refine .inr ⟨⟨xs, xs[i], q, by simp [hlt]⟩, Pv (i + 1), fun σ' H' p' => ⟨xs.length - (i + 1), by omega, rfl, hlt, p'⟩, fun x H' y => ?_⟩
    obtain ⟨e, y⟩ := y
    subst e
    exact hs i x σ _ (y xs q) p
  · have e : i = xs.length := by omega
    subst e
    exact .inl ⟨⟨xs, q, Nat.le_refl _⟩, hd σ H p⟩
theorem for_range {lo : Int} {n : Nat} {g : TG} {tb : TS} {D : Ends} {σ : St} {H : Hp} (Pv : Nat → St → Hp → Prop) (h0 : Pv 0 σ H)
    (hs : ∀ i σ H, i < n → Pv i σ H → g (.int (lo + i)) σ H fun σ2 H2 => tb { D with nx := Pv (i + 1), ct := Pv (i + 1), bk := D.nx } σ2 H2) (hd : ∀ σ H, Pv n σ H → D.nx σ H) :
    ∃ W : Nat → Nat → St → Hp → Prop, (∃ m, W 0 m σ H) ∧ ∀ i m σ H, W i m σ H →
      ((Itr lo n).stop i H ∧ D.nx σ H) ∨ ((Itr lo n).go i H ∧ ∃ N : St → Hp → Prop, (∀ σ' H', N σ' H' → ∃ m', m' < m ∧ W (i + 1) m' σ' H') ∧ ∀ x H', (Itr lo n).yld i H x H' → g x σ H' fun σ2 H2 => tb { D with nx := N, ct := N, bk := D.nx } σ2 H2) := by
  refine ⟨fun i m σ H => m = n - i ∧ i ≤ n ∧ Pv i σ H, ⟨n, by simp, Nat.zero_le _, h0⟩, ?_⟩
  rintro i m σ H ⟨rfl, hi, p⟩
  by_cases hlt : i < n
  · refine .inr ⟨hlt, Pv (i + 1), fun σ' H' p' => ⟨n - (i + 1), by omega, rfl, hlt, p'⟩, fun x H' y => ?_⟩
    obtain ⟨e, y⟩ := y
    subst e y
    exact hs i σ _ hlt p
  · have e : i = n := by omega
    subst e
    exact .inl ⟨Nat.le_refl _, hd σ H p⟩
end L2

namespace L2
open PySem PySem.Spec PyProof.Rows

abbrev R2 := V → V → Hp → VK → Prop
/-- a two-place operation on values: f is binaryOp op, inplaceOp op or compareOp op -/
def OpR (X : Cx) (f : Value → Value → Sem Value) (r : R2) : Prop :=
  ∀ (pins : List (Addr × Obj)) (s : Shared) (σ : St) (H : Hp) (x y : V) (v u : Value) (Q : VK), Inv X pins σ H s → RelV x v → RelV y u → r x y H Q →
    wpAny (model X.prog X.w) X.A (f v u) (EP X pins σ Q) X.xe s
/-- a one-place operation -/
def UnR (X : Cx) (f : Value → Sem Value) (r : V → Hp → VK → Prop) : Prop :=
  ∀ (pins : List (Addr × Obj)) (s : Shared) (σ : St) (H : Hp) (x : V) (v : Value) (Q : VK), Inv X pins σ H s → RelV x v → r x H Q →
    wpAny (model X.prog X.w) X.A (f v) (EP X pins σ Q) X.xe s
/-- a call of a value that is known (a builtin, a type) with values -/
def CallR (X : Cx) (f : Value) (r : List V → Hp → VK → Prop) : Prop :=
  ∀ (pins : List (Addr × Obj)) (s : Shared) (σ : St) (H : Hp) (xs : List V) (us : List Value) (Q : VK), Inv X pins σ H s → Vals xs us → r xs H Q →
    wpAny (model X.prog X.w) X.A (call f us) (EP X pins σ Q) X.xe s
/-- a value's truth -/
def TruR (X : Cx) (r : V → Hp → (Bool → Hp → Prop) → Prop) : Prop :=
  ∀ (pins : List (Addr × Obj)) (s : Shared) (σ : St) (H : Hp) (x : V) (v : Value) (Q : Bool → Hp → Prop), Inv X pins σ H s → RelV x v → r x H Q →
    wpAny (model X.prog X.w) X.A (truthy v) (TP X pins σ Q) X.xe s

def tOp (r : R2) (ta tb : TE) : TE := fun σ H Q => ta σ H fun x H1 => tb σ H1 fun y H2 => r x y H2 Q
def tUn (r : V → Hp → VK → Prop) (ta : TE) : TE := fun σ H Q => ta σ H fun x H1 => r x H1 Q
/-- ints in, under C, and a value out -/
def rI (C : Int → Int → Prop) (g : Int → Int → V) : R2 := fun x y H Q => ∃ i j, x = .int i ∧ y = .int j ∧ C i j ∧ Q (g i j) H
def rI0 (g : Int → Int → V) : R2 := fun x y H Q => ∃ i j, x = .int i ∧ y = .int j ∧ Q (g i j) H
def rU (g : Int → V) : V → Hp → VK → Prop := fun x H Q => ∃ i, x = .int i ∧ Q (g i) H

section
variable {X : Cx} {a b c : Expr} {ta tb tc : TE} {pos : Pos}

theorem binT (ha : PE X a ta) (hb : PE X b tb) {pins : List (Addr × Obj)} {s : Shared} {σ : St} {H : Hp} {R : V → V → Hp → Prop} (I : Inv X pins σ H s)
    (h : ta σ H fun x H1 => tb σ H1 fun y H2 => R x y H2) {Q : Value → Shared → Prop} {f : Value → Value → Sem Value}
    (hf : ∀ v u s2 x y H2, Inv X pins σ H2 s2 → RelV x v → RelV y u → R x y H2 → wpAny (model X.prog X.w) X.A (f v u) Q X.xe s2) :
    wpAny (model X.prog X.w) X.A (eval a X.env) (fun v s₁ => wpAny (model X.prog X.w) X.A (eval b X.env) (fun u s₂ => wpAny (model X.prog X.w) X.A (f v u) Q X.xe s₂) X.xe s₁) X.xe s := by
  refine thn (ha pins s σ H _ I h) fun v s1 ⟨x, H1, I1, r1, q1⟩ => ?_
  refine thn (hb pins s1 σ H1 _ I1 q1) fun u s2 ⟨y, H2, I2, r2, q2⟩ => ?_
  exact hf v u s2 x y H2 I2 r1 r2 q2

theorem pe_op {op : Operator} {r : R2} (ho : OpR X (binaryOp op) r) (ha : PE X a ta) (hb : PE X b tb) : PE X (.BinOp a op b pos) (tOp r ta tb) := by
  intro pins s σ H Q I h
  exact wpAny_BinOp (binT ha hb I h fun v u s2 x y H2 I2 rx ry q => ho pins s2 σ H2 x y v u Q I2 rx ry q)
theorem pe_un {op : UnaryOp} {r : V → Hp → VK → Prop} (ho : UnR X (unaryOp op) r) (ha : PE X a ta) : PE X (.UnaryOp op a pos) (tUn r ta) := by
  intro pins s σ H Q I h
  exact UnaryOp_ (thn (ha pins s σ H _ I h) fun v s1 ⟨x, H1, I1, r1, q1⟩ => ho pins s1 σ H1 x v Q I1 r1 q1)

/-! ### ints -/
theorem opI {f : Value → Value → Sem Value} {C : Int → Int → Prop} {g : Int → Int → Int}
    (rule : ∀ (i j : Int) (t u : Tok) (s : Shared) (Q : Value → Shared → Prop) (E : Value → Shared → Prop), C i j → Q (.int (g i j) s.toks) { s with toks := s.toks + 1 } → wpAny (model X.prog X.w) X.A (f (.int i t) (.int j u)) Q E s) :
    OpR X f (rI C fun i j => .int (g i j)) := by
  intro pins s σ H x y v u Q I rx ry h
  obtain ⟨i, j, rfl, rfl, hc, q⟩ := h
  obtain ⟨t, rfl⟩ := rx
  obtain ⟨t', rfl⟩ := ry
  exact rule i j t t' s _ _ hc ⟨.int (g i j), H, I.tok _, ⟨_, rfl⟩, q⟩
theorem opI0 {f : Value → Value → Sem Value} {g : Int → Int → Int}
    (rule : ∀ (i j : Int) (t u : Tok) (s : Shared) (Q : Value → Shared → Prop) (E : Value → Shared → Prop), Q (.int (g i j) s.toks) { s with toks := s.toks + 1 } → wpAny (model X.prog X.w) X.A (f (.int i t) (.int j u)) Q E s) :
    OpR X f (rI0 fun i j => .int (g i j)) := by
  intro pins s σ H x y v u Q I rx ry h
  obtain ⟨i, j, rfl, rfl, q⟩ := h
  obtain ⟨t, rfl⟩ := rx
  obtain ⟨t', rfl⟩ := ry
  exact rule i j t t' s _ _ ⟨.int (g i j), H, I.tok _, ⟨_, rfl⟩, q⟩
theorem opB0 {f : Value → Value → Sem Value} {g : Int → Int → Bool}
    (rule : ∀ (i j : Int) (t u : Tok) (s : Shared) (Q : Value → Shared → Prop) (E : Value → Shared → Prop), Q (.bool (g i j)) s → wpAny (model X.prog X.w) X.A (f (.int i t) (.int j u)) Q E s) :
    OpR X f (rI0 fun i j => .bl (g i j)) := by
  intro pins s σ H x y v u Q I rx ry h
  obtain ⟨i, j, rfl, rfl, q⟩ := h
  obtain ⟨t, rfl⟩ := rx
  obtain ⟨t', rfl⟩ := ry
  exact rule i j t t' s _ _ ⟨.bl (g i j), H, I, rfl, q⟩

def CDiv (i j : Int) : Prop := 0 < j ∧ j < 1073741824
def CPow (i j : Int) : Prop := 0 ≤ j ∧ j ≤ 1000000 ∧ i.natAbs < 2 ^ 64
def CMul (i j : Int) : Prop := (-(2 ^ 64) < i ∧ i < 2 ^ 64) ∨ (-(2 ^ 64) < j ∧ j < 2 ^ 64)
theorem CMul.ok {i j : Int} (h : CMul i j) : IntMulOk i j := by
  rcases h with ⟨h1, h2⟩ | ⟨h1, h2⟩
  · exact .of_left (intBits_le_64 h1 h2)
  · exact .of_right (intBits_le_64 h1 h2)

theorem op_add : OpR X (binaryOp .Add) (rI0 fun i j => .int (i + j)) := opI0 fun _ _ _ _ _ _ _ q => add_int q
theorem op_sub : OpR X (binaryOp .Sub) (rI0 fun i j => .int (i - j)) := opI0 fun _ _ _ _ _ _ _ q => sub_int q
theorem op_mul : OpR X (binaryOp .Mult) (rI CMul fun i j => .int (i * j)) := opI fun _ _ _ _ _ _ _ hc q => mul_int q hc.ok
/-- // by a positive divisor -/
theorem op_fdiv : OpR X (binaryOp .FloorDiv) (rI CDiv fun i j => .int (i / j)) := opI fun i j _ _ _ _ _ hc q => by
  have h1 : (0 : Int) < j := hc.1
  have h2 : j < 1073741824 := hc.2
  exact floordiv_int (by omega) (by rw [Int.fdiv_eq_ediv_of_nonneg i (by omega)]; exact q) (.inl (PyProof.noPylong_small (by omega)))
/-- % by a positive divisor of any size -/
theorem op_mod : OpR X (binaryOp .Mod) (rI (fun _ j => 0 < j) fun i j => .int (i % j)) := opI fun i j _ _ _ _ _ hc q => by
  have h1 : (0 : Int) < j := hc
  exact mod_int' (by omega) (by rw [Int.fmod_eq_emod_of_nonneg i (by omega)]; exact q)
theorem op_pow : OpR X (binaryOp .Pow) (rI CPow fun i j => .int (i ^ j.toNat)) := opI fun _ _ _ _ _ _ _ hc q => pow_int_small hc.1 hc.2.1 hc.2.2 q


theorem unI {f : Value → Sem Value} {g : Int → Int}
    (rule : ∀ (i : Int) (t : Tok) (s : Shared) (Q : Value → Shared → Prop) (E : Value → Shared → Prop), Q (.int (g i) s.toks) { s with toks := s.toks + 1 } → wpAny (model X.prog X.w) X.A (f (.int i t)) Q E s) :
    UnR X f (rU fun i => .int (g i)) := by
  intro pins s σ H x v Q I rx h
  obtain ⟨i, rfl, q⟩ := h
  obtain ⟨t, rfl⟩ := rx
  exact rule i t s _ _ ⟨.int (g i), H, I.tok _, ⟨_, rfl⟩, q⟩
theorem un_neg : UnR X (unaryOp .USub) (rU fun i => .int (-i)) := unI fun _ _ _ _ _ q => neg_int q

/-! ### bools among ints: n += (a < b) -/
end

/-! ### comparisons -/
/-- the scalars that == tells apart as data does -/
def scal : V → V → Bool
  | .non, .non => true | .non, .int _ => true | .int _, .non => true | .non, .bl _ => true | .bl _, .non => true | .non, .str _ => true | .str _, .non => true
  | .int _, .int _ => true | .bl _, .bl _ => true | .str _, .str _ => true | .byt _, .byt _ => true
  | .int _, .str _ => true | .str _, .int _ => true | .bl _, .str _ => true | .str _, .bl _ => true
  | _, _ => false
def rEq : R2 := fun x y H Q => scal x y = true ∧ Q (.bl (decide (x = y))) H
def rNe : R2 := fun x y H Q => scal x y = true ∧ Q (.bl (!decide (x = y))) H

theorem dec_int {i j : Int} : decide (V.int i = V.int j) = (i == j) := by
  rw [Bool.eq_iff_iff]
  simp
theorem dec_bl {i j : Bool} : decide (V.bl i = V.bl j) = (i == j) := by
  rw [Bool.eq_iff_iff]
  simp
theorem dec_str {i j : Str} : decide (V.str i = V.str j) = (i == j) := by
  rw [Bool.eq_iff_iff]
  simp
theorem dec_byt {i j : Array UInt8} : decide (V.byt i = V.byt j) = (i.toList == j.toList) := by
  rw [Bool.eq_iff_iff]
  cases i
  cases j
  simp

section
variable {X : Cx} {a b c : Expr} {ta tb tc : TE} {pos : Pos}
theorem fin_bl {pins : List (Addr × Obj)} {σ : St} {H : Hp} {s : Shared} {Q : VK} {k k' : Bool} (I : Inv X pins σ H s) (q : Q (.bl k) H) (e : k = k') : EP X pins σ Q (.bool k') s := by
  subst e
  exact ⟨.bl k, H, I, rfl, q⟩
theorem op_eq : OpR X (compareOp .Eq) rEq := by
  intro pins s σ H x y v u Q I rx ry h
  obtain ⟨hs, q⟩ := h
  cases x with
  | non =>
    cases rx
    cases y with
    | non => cases ry; exact PySem.EqNone.eq_none_none (fin_bl I q (by simp))
    | bl j => cases ry; exact PySem.EqNone.eq_none_bool (fin_bl I q (by simp))
    | int j => obtain ⟨t', rfl⟩ := ry; exact PySem.EqNone.eq_none_int (fin_bl I q (by simp))
    | str j => obtain ⟨t', rfl⟩ := ry; exact PySem.EqNone.eq_none_str (fin_bl I q (by simp))
    | _ => exact absurd (show false = true from hs) Bool.false_ne_true
  | bl i =>
    cases rx
    cases y with
    | non => cases ry; exact PySem.EqNone.eq_bool_none (fin_bl I q (by simp))
    | bl j => cases ry; exact eq_bool (fin_bl I q dec_bl)
    | str j => obtain ⟨t', rfl⟩ := ry; exact PySem.EqMixed.eq_bool_str (fin_bl I q (by simp))
    | _ => exact absurd (show false = true from hs) Bool.false_ne_true
  | int i =>
    obtain ⟨t, rfl⟩ := rx
    cases y with
    | non => cases ry; exact PySem.EqNone.eq_int_none (fin_bl I q (by simp))
    | int j => obtain ⟨t', rfl⟩ := ry; exact eq_int (fin_bl I q dec_int)
    | str j => obtain ⟨t', rfl⟩ := ry; exact PySem.EqMixed.eq_int_str (fin_bl I q (by simp))
    | _ => exact absurd (show false = true from hs) Bool.false_ne_true
  | str i =>
    obtain ⟨t, rfl⟩ := rx
    cases y with
    | non => cases ry; exact PySem.EqNone.eq_str_none (fin_bl I q (by simp))
    | bl j => cases ry; exact PySem.EqMixed.eq_str_bool (fin_bl I q (by simp))
    | int j => obtain ⟨t', rfl⟩ := ry; exact PySem.EqMixed.eq_str_int (fin_bl I q (by simp))
    | str j => obtain ⟨t', rfl⟩ := ry; exact eq_str (fin_bl I q dec_str)
    | _ => exact absurd (show false = true from hs) Bool.false_ne_true
  | byt i =>
    obtain ⟨t, rfl⟩ := rx
    cases y with
    | byt j => obtain ⟨t', rfl⟩ := ry; exact PySem.W.eq_bytes (fin_bl I q dec_byt)
    | _ => exact absurd (show false = true from hs) Bool.false_ne_true
  | _ => cases y <;> exact absurd (show false = true from hs) Bool.false_ne_true
theorem op_ne : OpR X (compareOp .NotEq) rNe := by
  intro pins s σ H x y v u Q I rx ry h
  obtain ⟨hs, q⟩ := h
  cases x with
  | non =>
    cases rx
    cases y with
    | non => cases ry; exact PySem.EqNone.ne_none_none (fin_bl I q (by simp))
    | bl j => cases ry; exact PySem.EqNone.ne_none_bool (fin_bl I q (by simp))
    | int j => obtain ⟨t', rfl⟩ := ry; exact PySem.EqNone.ne_none_int (fin_bl I q (by simp))
    | str j => obtain ⟨t', rfl⟩ := ry; exact PySem.EqNone.ne_none_str (fin_bl I q (by simp))
    | _ => exact absurd (show false = true from hs) Bool.false_ne_true
  | bl i =>
    cases rx
    cases y with
    | non => cases ry; exact PySem.EqNone.ne_bool_none (fin_bl I q (by simp))
    | bl j => cases ry; exact ne_bool (fin_bl I q (congrArg not dec_bl))
    | str j => obtain ⟨t', rfl⟩ := ry; exact PySem.EqMixed.ne_bool_str (fin_bl I q (by simp))
    | _ => exact absurd (show false = true from hs) Bool.false_ne_true
  | int i =>
    obtain ⟨t, rfl⟩ := rx
    cases y with
    | non => cases ry; exact PySem.EqNone.ne_int_none (fin_bl I q (by simp))
    | int j => obtain ⟨t', rfl⟩ := ry; exact ne_int (fin_bl I q (congrArg not dec_int))
    | str j => obtain ⟨t', rfl⟩ := ry; exact PySem.EqMixed.ne_int_str (fin_bl I q (by simp))
    | _ => exact absurd (show false = true from hs) Bool.false_ne_true
  | str i =>
    obtain ⟨t, rfl⟩ := rx
    cases y with
    | non => cases ry; exact PySem.EqNone.ne_str_none (fin_bl I q (by simp))
    | bl j => cases ry; exact PySem.EqMixed.ne_str_bool (fin_bl I q (by simp))
    | int j => obtain ⟨t', rfl⟩ := ry; exact PySem.EqMixed.ne_str_int (fin_bl I q (by simp))
    | str j => obtain ⟨t', rfl⟩ := ry; exact ne_str (fin_bl I q (congrArg not dec_str))
    | _ => exact absurd (show false = true from hs) Bool.false_ne_true
  | byt i =>
    obtain ⟨t, rfl⟩ := rx
    cases y with
    | byt j => obtain ⟨t', rfl⟩ := ry; exact PySem.W.ne_bytes (fin_bl I q (congrArg not dec_byt))
    | _ => exact absurd (show false = true from hs) Bool.false_ne_true
  | _ => cases y <;> exact absurd (show false = true from hs) Bool.false_ne_true

theorem op_lt : OpR X (compareOp .Lt) (rI0 fun i j => .bl (decide (i < j))) := opB0 fun _ _ _ _ _ _ _ q => lt_int q
theorem op_gt : OpR X (compareOp .Gt) (rI0 fun i j => .bl (decide (j < i))) := opB0 fun _ _ _ _ _ _ _ q => gt_int q



/-- two rules for one operation: by cases -/
theorem OpR.or {f : Value → Value → Sem Value} {r r' : R2} (h : OpR X f r) (h' : OpR X f r') : OpR X f (fun x y H Q => r x y H Q ∨ r' x y H Q) := by
  intro pins s σ H x y v u Q I rx ry q
  rcases q with q | q
  · exact h pins s σ H x y v u Q I rx ry q
  · exact h' pins s σ H x y v u Q I rx ry q

theorem nomark (b : Expr) {op : CmpOp} (h : op ≠ .In := by decide) (h2 : op ≠ .NotIn := by decide) : behindInMarks op b = false := by
  have e1 : (op == CmpOp.In) = false := by cases op <;> first | rfl | exact absurd rfl h
  have e2 : (op == CmpOp.NotIn) = false := by cases op <;> first | rfl | exact absurd rfl h2
  cases b <;> simp [behindInMarks, e1, e2]
/-- a comparison as a value; hm: nomark b, or (for in, not in) by with_unfolding_all rfl -/
theorem pe_cmpR {op : CmpOp} {r : R2} (ho : OpR X (compareOp op) r) (ha : PE X a ta) (hb : PE X b tb) (hm : behindInMarks op b = false) : PE X (.Compare a [op] [b] pos) (tOp r ta tb) := by
  intro pins s σ H Q I h
  exact wpAny_Compare1 (binT ha hb I h fun v u s2 x y H2 I2 rx ry q => ho pins s2 σ H2 x y v u Q I2 rx ry q) hm
/-- a reading of a value as a test -/
def tTest (t : TE) : TT := fun σ H Q => t σ H fun x H' => ∃ k, x = .bl k ∧ Q k H'
theorem pt_cmpR {op : CmpOp} {r : R2} (ho : OpR X (compareOp op) r) (ha : PE X a ta) (hb : PE X b tb) (hm : behindInMarks op b = false) : PT X (.Compare a [op] [b] pos) (tTest (tOp r ta tb)) := by
  intro pins s σ H Q I h
  refine wpAny_isTrue_Compare1 (thn (ha pins s σ H _ I h) fun v s1 ⟨x, H1, I1, r1, q1⟩ => thn (hb pins s1 σ H1 _ I1 q1) fun u s2 ⟨y, H2, I2, r2, q2⟩ =>
    thn (ho pins s2 σ H2 x y v u _ I2 r1 r2 q2) fun c s3 ⟨z, H3, I3, r3, k, e, q3⟩ => ?_) hm
  subst e
  cases r3
  exact wpAny_truthy_bool ⟨H3, I3, q3⟩

/-! ### truth -/
/-- a value's truth by the abstract heap -/
def TruV (K : PySem.W.Frag) (x : V) (H : Hp) (k : Bool) : Prop :=
  match x with
  | .non => k = false
  | .bl b => k = b
  | .int i => k = (i != 0)
  | .str y => y.length ≤ sizeLine ∧ k = ((y.length : Int) != 0)
  | .byt y => y.size ≤ sizeLine ∧ k = ((y.size : Int) != 0)
  | .ref p => (∃ xs, SqL K H p xs ∧ k = !xs.isEmpty) ∨ (∃ xs, SqT K H p xs ∧ k = !xs.isEmpty) ∨ ∃ kvs, H p = some (.dK kvs) ∧ k = !kvs.isEmpty
  | _ => False
theorem isEmpty_kv {κ : Type} {kvs : List (κ × V)} {vs : List (κ × Value)} (r : KV kvs vs) : (!vs.isEmpty) = !kvs.isEmpty := by
  cases r <;> rfl
theorem isEmpty_of {xs : List V} {its : List Value} (r : Vals xs its) : (!its.toArray.isEmpty) = !xs.isEmpty := by
  cases r <;> simp
theorem line63 : (sizeLine : Nat) < 2 ^ 63 := by rw [sizeLine_eq]; decide
theorem tru_ok : TruR X (fun x H Q => ∃ k, TruV X.K x H k ∧ Q k H) := by
  intro pins s σ H x v Q I rx h
  obtain ⟨k, e, q⟩ := h
  have hl := line63
  have hs : sizeLine = 16777216 := sizeLine_eq
  cases x with
  | non =>
    cases rx
    have e' : k = false := e
    subst e'
    exact truthy_none ⟨H, I, q⟩
  | bl b =>
    cases rx
    have e' : k = b := e
    subst e'
    exact wpAny_truthy_bool ⟨H, I, q⟩
  | int i =>
    obtain ⟨t, rfl⟩ := rx
    have e' : k = (i != 0) := e
    subst e'
    exact PySem.P.truthy_int ⟨H, I, q⟩
  | str y =>
    obtain ⟨t, rfl⟩ := rx
    obtain ⟨hy, e'⟩ : y.length ≤ sizeLine ∧ k = ((y.length : Int) != 0) := e
    subst e'
    exact PySem.P.truthy_str (by omega) ⟨H, I.tok _, q⟩
  | byt y =>
    obtain ⟨t, rfl⟩ := rx
    obtain ⟨hy, e'⟩ : y.size ≤ sizeLine ∧ k = ((y.size : Int) != 0) := e
    subst e'
    exact PySem.W.truthy_bytes (by omega) ⟨H, I.tok _, q⟩
  | ref p =>
    cases rx
    have e' : (∃ xs, SqL X.K H p xs ∧ k = !xs.isEmpty) ∨ (∃ xs, SqT X.K H p xs ∧ k = !xs.isEmpty) ∨ ∃ kvs, H p = some (.dK kvs) ∧ k = !kvs.isEmpty := e
    rcases e' with ⟨xs, hx, e'⟩ | ⟨xs, hx, e'⟩ | ⟨kvs, hx, e'⟩
    · subst e'
      obtain ⟨its, r, pl, hz⟩ := I.list hx
      have hlen := r.length
      exact wpAny_truthy_list pl.isList (by simp only [List.size_toArray]; omega) ⟨H, I.tok _, by rw [isEmpty_of r]; exact q⟩
    · subst e'
      obtain ⟨its, r, pl, hz⟩ := I.tuple hx
      have hlen := r.length
      exact truthy_tuple pl (by simp only [List.size_toArray]; omega) ⟨H, I.tok _, by rw [isEmpty_of r]; exact q⟩
    · subst e'
      obtain ⟨hz, hS, vs, r, m⟩ : kvs.length ≤ sizeLine ∧ (p == sysModules) = false ∧ ∃ vs, KV kvs vs ∧ s.heap.DictOf (mixKind X.prog X.w) p vs := I.hok p _ hx
      have hlen : kvs.length = vs.length := Paired.length r
      exact wpAny_truthy_dict hS m (by omega) ⟨H, I.tok _, by rw [isEmpty_kv r]; exact q⟩
  | _ => exact (show False from e).elim
/-- any expression whose test is its value's truth (a name, a call, a subscript, a field ..: he by fun _ => rfl) -/
theorem pt_truth (ha : PE X a ta) (he : ∀ whole, isTrue a X.env whole = (do let v ← whole; standAt a.pos; holding [v] (truthy v))) :
    PT X a (fun σ H Q => ta σ H fun x H' => ∃ k, TruV X.K x H' k ∧ Q k H') := by
  intro pins s σ H Q I h
  exact isTrue_plain (thn (ha pins s σ H _ I h) fun v s1 ⟨x, H1, I1, r1, q1⟩ => tru_ok pins s1 σ H1 x v Q I1 r1 q1) (he _)

/-! ### strs and bytes -/
theorem op_add_str : OpR X (binaryOp .Add) (fun x y H Q => ∃ i j, x = .str i ∧ y = .str j ∧ i.length + j.length ≤ sizeLine ∧ Q (.str (i ++ j)) H) := by
  intro pins s σ H x y v u Q I rx ry h
  obtain ⟨i, j, rfl, rfl, hz, q⟩ := h
  obtain ⟨t, rfl⟩ := rx
  obtain ⟨t', rfl⟩ := ry
  exact add_str (fun t' tk => ⟨.str (i ++ j), H, I.tok _, ⟨_, rfl⟩, q⟩) hz


/-! ### scalar builtins, by CallR -/
theorem vals1 {x : V} {us : List Value} (r : Vals [x] us) : ∃ u, us = [u] ∧ RelV x u := by
  cases r with
  | cons r1 r2 => cases r2; exact ⟨_, rfl, r1⟩
theorem vals2 {x y : V} {us : List Value} (r : Vals [x, y] us) : ∃ u w', us = [u, w'] ∧ RelV x u ∧ RelV y w' := by
  cases r with
  | cons r1 r2 =>
    cases r2 with
    | cons r3 r4 => cases r4; exact ⟨_, _, rfl, r1, r3⟩
theorem call_min2 (hc : X.calm = true) : CallR X (.builtin "min") (fun xs H Q => ∃ i j, xs = [.int i, .int j] ∧ Q (.int (if j < i then j else i)) H) := by
  intro pins s σ H xs us Q I r h
  obtain ⟨i, j, rfl, q⟩ := h
  obtain ⟨u, w', rfl, ⟨t, rfl⟩, ⟨t', rfl⟩⟩ := vals2 r
  refine min_two_ints (I.ok.hd hc) fun h' tk k => ⟨_, H, I.kept k, ?_, q⟩
  by_cases hj : j < i
  · rw [if_pos hj, if_pos hj]; exact ⟨_, rfl⟩
  · rw [if_neg hj, if_neg hj]; exact ⟨_, rfl⟩
/-- len of a str, a bytes, a list, a tuple -/
def LenV (K : PySem.W.Frag) (x : V) (H : Hp) (n : Nat) : Prop :=
  match x with
  | .str y => y.length ≤ sizeLine ∧ n = y.length
  | .byt y => y.size ≤ sizeLine ∧ n = y.size
  | .ref p => (∃ xs, SqL K H p xs ∧ n = xs.length) ∨ ∃ xs, SqT K H p xs ∧ n = xs.length
  | _ => False
theorem call_len : CallR X (.builtin "len") (fun xs H Q => ∃ x n, xs = [x] ∧ LenV X.K x H n ∧ Q (.int n) H) := by
  intro pins s σ H xs us Q I r h
  obtain ⟨x, n, rfl, e, q⟩ := h
  obtain ⟨u, rfl, rx⟩ := vals1 r
  have hl := line63
  have hs : sizeLine = 16777216 := sizeLine_eq
  cases x with
  | str y =>
    obtain ⟨t, rfl⟩ := rx
    obtain ⟨hy, e'⟩ : y.length ≤ sizeLine ∧ n = y.length := e
    subst e'
    exact len_str (by omega) ⟨.int _, H, I.tok _, ⟨_, rfl⟩, q⟩
  | byt y =>
    obtain ⟨t, rfl⟩ := rx
    obtain ⟨hy, e'⟩ : y.size ≤ sizeLine ∧ n = y.size := e
    subst e'
    exact PySem.W.len_bytes (by omega) ⟨.int _, H, I.tok _, ⟨_, rfl⟩, q⟩
  | ref p =>
    cases rx
    have e' : (∃ xs, SqL X.K H p xs ∧ n = xs.length) ∨ ∃ xs, SqT X.K H p xs ∧ n = xs.length := e
    rcases e' with ⟨xs, hx, e'⟩ | ⟨xs, hx, e'⟩
    · subst e'
      obtain ⟨its, r', pl, hz⟩ := I.list hx
      have hlen := r'.length
      exact Calls.call_len_list pl.isList (by simp only [List.size_toArray]; omega) ⟨.int xs.length, H, I.tok _, ⟨_, by simp only [List.size_toArray]; rw [hlen]⟩, q⟩
    · subst e'
      obtain ⟨its, r', pl, hz⟩ := I.tuple hx
      have hlen := r'.length
      exact len_tuple pl (by simp only [List.size_toArray]; omega) ⟨.int xs.length, H, I.tok _, ⟨_, by simp only [List.size_toArray]; rw [hlen]⟩, q⟩
  | _ => exact (show False from e).elim
end
end L2

namespace L2
open PySem PySem.Spec PyProof.Rows

/-! ### an instance, its attributes a map -/
structure ObjM (h : Heap) (x dx C : Addr) (mA : Str → Option Value) : Prop where
  obj : h.get? x = some (PySem.W.instObj C dx)
  ns : h.Ns1 dx mA
  ne : dx ≠ x

theorem lookIn_ns {h : Heap} {dx : Addr} {mA : Str → Option Value} (n : h.Ns1 dx mA) : ∃ od, h.get? dx = some od ∧ ∀ name, PySem.W.lookIn name od = some (mA name) := by
  obtain ⟨o, es, ep, ho, hd, hk, _, hm⟩ := n
  refine ⟨o, ho, fun name => ?_⟩
  have e := hm name
  unfold nsFind findBy at e
  rw [← Array.find?_toList] at e
  unfold PySem.W.lookIn
  rw [hd]
  dsimp only
  split
  · rename_i y q
    rw [q] at e
    exact congrArg some e
  · rename_i q
    rw [q] at e
    have a : es.toList.any (·.refKey) = false := by
      rw [List.any_eq_false]
      intro y hy
      obtain ⟨z, t, hkey⟩ := hk y (Array.mem_toList_iff.mp hy)
      simp [DictEntry.refKey, hkey]
    have a' : ¬ es.toList.any (·.refKey) = true := by rw [a]; exact Bool.false_ne_true
    rw [if_neg a']
    exact congrArg some e

theorem ObjM.look {h : Heap} {x dx C : Addr} {mA : Str → Option Value} (I : ObjM h x dx C mA) : ∃ od, PySem.W.InstAt h x (PySem.W.instObj C dx) C (some od) ∧ ∀ name, PySem.W.lookIn name od = some (mA name) :=
  let ⟨od, ho, hl⟩ := lookIn_ns I.ns
  ⟨od, ⟨I.obj, rfl, rfl, ho⟩, hl⟩

section
variable {prog : Program} {w : World} {A : Around} {E : Value → Shared → Prop} {s : Shared} {K : PySem.W.Frag} {x dx C f : Addr} {mA : Str → Option Value} {name : Str} {v : Value}





end

/-! ### the attributes as a list of pairs -/

theorem RelO.some_of {v : V} {o : Option Value} (r : RelO (some v) o) : ∃ u, o = some u ∧ RelV v u := by
  cases o with
  | none => exact (show False from r).elim
  | some u => exact ⟨u, rfl, r⟩

section
variable {P : Program} {w : World} {H H' : Hp} {h h' : Heap} {a C dx : Addr} {fs fs' : List (Str × V)}
theorem ins_get (hok : HOk P w H h) (e : H a = some (.ins C dx fs)) : ∃ mA, ObjM h a dx C mA ∧ (∀ f, RelO (fs.lookup f) (mA f)) ∧ PySem.Within mA (fs.map (·.1)) ∧ fs.length ≤ 1000 ∧ H dx = some (.own a) := by
  obtain ⟨d, z, ne, ob, mA, n, r, q⟩ := (show ObjOk P w H h a (.ins C dx fs) from hok a _ e)
  exact ⟨mA, ⟨ob, n, ne⟩, r, q, z, d⟩
end

/-! ### what of the text a class must have -/
structure Cls (K : PySem.W.Frag) (C : Addr) : Prop where
  pg : PySem.W.plainGet K C Str.empty = true
  hd : PySem.W.hasDictIn K C = true
  po : PySem.W.plainOver K C = true
  sa : PySem.W.findIn K (.ref C) "__setattr__" = some (some (.builtin "object.__setattr__"))
theorem Cls.get {K : PySem.W.Frag} {C : Addr} (c : Cls K C) (f : Str) : PySem.W.plainGet K C f = true := c.pg

section
variable {X : Cx} {pins : List (Addr × Obj)} {σ : St} {H : Hp} {s : Shared} {a C dx : Addr} {fs : List (Str × V)} {f : Str} {v : V} {A : Around} {E : Value → Shared → Prop}






end

/-! ### readings and rules -/

section
variable {X : Cx} {o e value : Expr} {f : Str} {pos pos' tpos : Pos} {ta tv : TE}

end

/-! ### isinstance -/
section
variable {X : Cx} {pins : List (Addr × Obj)} {σ : St} {H : Hp} {s : Shared} {A : Around} {E : Value → Shared → Prop} {Q : Value → Shared → Prop} {c : Value} {b : Bool}
/-- the type of a value, as the fragment's deciders take it; for an instance its class -/
inductive TyOf (K : PySem.W.Frag) (H : Hp) : V → Value → Prop where
  | non : TyOf K H .non (.type "NoneType")
  | bl (x : Bool) : TyOf K H (.bl x) (.type "bool")
  | int (i : Int) : TyOf K H (.int i) (.type "int")
  | str (x : Str) : TyOf K H (.str x) (.type "str")
  | flt (x : UInt64) : TyOf K H (.flt x) (.type "float")
  | lst {a : Addr} {xs : List V} (e : H a = some (.lst xs)) : TyOf K H (.ref a) (.type "list")
  | frz {a : Addr} {o : Obj} {xs : List V} (e : H a = some (.frz o (.lst xs))) : TyOf K H (.ref a) (.type "list")
  | tup {a : Addr} {xs : List V} (e : H a = some (.tup xs)) : TyOf K H (.ref a) (.type "tuple")
  | dK {a : Addr} {kvs : List (Key × V)} (e : H a = some (.dK kvs)) : TyOf K H (.ref a) (.type "dict")
  | dT {a : Addr} {kvs : List (List Key × V)} (e : H a = some (.dT kvs)) : TyOf K H (.ref a) (.type "dict")
  | ins {a C dx : Addr} {fs : List (Str × V)} (e : H a = some (.ins C dx fs)) (cl : Cls K C) (ha : PySem.W.findIn K (.ref C) "__class__" = some (some (.builtin "object.__class__")))
      (hn : PySem.W.specialIn K (.builtin "object.__class__") "__get__" = some (some (.builtin "getset_descriptor.__get__"))) (htk : PySem.W.takesIn K (.builtin "object.__class__") = some true)
      (hm : PySem.W.mroIn K C (.type "object") = some true) : TyOf K H (.ref a) (.ref C)
/-- isinstance(x, c) for one class c, a built-in or an own one: kitOne's answer -/
theorem isinst_ok {x : V} {u t : Value} (I : Inv X pins σ H s) (rx : RelV x u) (ty : TyOf X.K H x t) (e : PySem.W.kitOne X.K t c = some b) (h : ∀ tk, Q (.bool b) { s with toks := tk }) :
    wpAny (model X.prog X.w) A (call (.builtin "isinstance") [u, c]) Q E s := by
  cases ty with
  | non => cases (show u = Value.none from rx); exact PySem.W.kia_one PySem.W.kitx_none I.kIn True.intro e (fun z => nomatch z) h
  | bl y => cases (show u = Value.bool y from rx); exact PySem.W.kia_one PySem.W.kitx_bool I.kIn True.intro e (fun z => nomatch z) h
  | int i => obtain ⟨t, q⟩ := (show ∃ t, u = Value.int i t from rx); cases q; exact PySem.W.kia_one PySem.W.kitx_int I.kIn True.intro e (fun z => nomatch z) h
  | str y => obtain ⟨t, q⟩ := (show ∃ t, u = Value.str y t from rx); cases q; exact PySem.W.kia_one PySem.W.kitx_str I.kIn True.intro e (fun z => nomatch z) h
  | flt y => obtain ⟨t, q⟩ := (show ∃ t, u = Value.float y t from rx); cases q; exact PySem.W.kia_one PySem.W.kitx_float I.kIn True.intro e (fun z => nomatch z) h
  | @lst a xs ea =>
    cases (show u = Value.ref a from rx)
    obtain ⟨_, _, n, _, h1⟩ := (show ObjOk X.prog X.w H s.heap a (.lst xs) from I.hok a _ ea)
    exact PySem.W.kia_one PySem.W.kitx_list I.kIn ⟨_, h1, rfl⟩ e (fun z => nomatch z) h
  | @frz a ob xs ea =>
    cases (show u = Value.ref a from rx)
    obtain ⟨_, _, _, n, _, h1⟩ := (show ObjOk X.prog X.w H s.heap a (.frz ob (.lst xs)) from I.hok a _ ea)
    exact PySem.W.kia_one PySem.W.kitx_list I.kIn ⟨_, h1, rfl⟩ e (fun z => nomatch z) h
  | @tup a xs ea =>
    cases (show u = Value.ref a from rx)
    obtain ⟨_, _, _, p⟩ := (show ObjOk X.prog X.w H s.heap a (.tup xs) from I.hok a _ ea)
    obtain ⟨o, h1, h2, _⟩ := p
    exact PySem.W.kia_one PySem.W.kitx_tuple I.kIn ⟨o, h1, h2⟩ e (fun z => nomatch z) h
  | @dK a kvs ea =>
    cases (show u = Value.ref a from rx)
    obtain ⟨_, _, vs, _, p⟩ := (show ObjOk X.prog X.w H s.heap a (.dK kvs) from I.hok a _ ea)
    obtain ⟨o, es, ep, h1, h2, _⟩ := p
    exact PySem.W.kia_one PySem.W.kitx_dict I.kIn ⟨o, h1, h2.1⟩ e (fun z => nomatch z) h
  | @dT a kvs ea =>
    cases (show u = Value.ref a from rx)
    obtain ⟨_, _, xs, _, o, es, ep, h1, h2, _⟩ := (show ObjOk X.prog X.w H s.heap a (.dT kvs) from I.hok a _ ea)
    exact PySem.W.kia_one PySem.W.kitx_dict I.kIn ⟨o, h1, h2.1⟩ e (fun z => nomatch z) h
  | @ins a C dx fs ea cl ha hn htk hm =>
    cases (show u = Value.ref a from rx)
    obtain ⟨mA, O, _⟩ := ins_get I.hok ea
    obtain ⟨od, J, _⟩ := O.look
    exact PySem.W.kia_one (PySem.W.kitx_own (cl.get _) cl.hd ha hn htk hm) I.kIn J e (fun z => nomatch z) h
end
end L2

namespace L2
open PySem PySem.Spec PyProof.Rows

/-! ### room -/
structure Room (k : Nat) (A : Around) : Prop where
  hd : A.handled = none
  dp : A.depth + 3 * k + 5 < recursionLimit
  un : A.units + 16 * k + 200 < cLine
theorem Room.mono {j k : Nat} {A : Around} (r : Room k A) (h : j ≤ k) : Room j A := ⟨r.hd, by have := r.dp; omega, by have := r.un; omega⟩
theorem Room.deeper {k : Nat} {A : Around} (r : Room (k + 1) A) (env : Env) : Room k (A.deeper env) :=
  ⟨r.hd, by have := r.dp; show A.depth + 1 + 3 * k + 5 < _; omega, by have := r.un; show A.units + 3 + 16 * k + 200 < _; omega⟩
theorem Room.depth {k : Nat} {A : Around} (r : Room k A) : A.depth < recursionLimit := by have := r.dp; omega
theorem Room.units {k : Nat} {A : Around} (r : Room k A) : A.units + 64 < cLine := by have := r.un; omega

/-! ### argument lists and displays -/
def tNil : TA := fun _ H Q => Q [] H
def tCons (ta : TE) (tr : TA) : TA := fun σ H Q => ta σ H fun x H1 => tr σ H1 fun xs H2 => Q (x :: xs) H2
section
variable {X : Cx} {e : Expr} {es : List Expr} {te : TE} {t : TA} {pos : Pos}
theorem pa_nil : PA X [] tNil := fun _ _ _ _ H Q I h => Calls.spliced_nil ⟨[], H, I, .nil, h⟩
theorem pa_cons (ha : PE X e te) (hr : PA X es t) (hs : starEach (e :: es) X.env = (false, eval e X.env) :: starEach es X.env := by rfl) : PA X (e :: es) (tCons te t) := by
  intro pos pins s σ H Q I h
  rw [hs]
  show wpAny _ _ (spliced ((false, eval e X.env) :: backTo pos (starEach es X.env))) _ _ s
  refine Calls.spliced_cons (thn (ha pins s σ H _ I h) fun u s1 ⟨x, H1, I1, r1, q1⟩ => ?_)
  exact thn (hr pos pins s1 σ H1 _ I1 q1) fun us s2 ⟨xs, H2, I2, r2, q2⟩ => ⟨x :: xs, H2, I2, .cons r1 r2, q2⟩

/-- a tuple, a list of written items -/
def tTup (t : TA) : TE := fun σ H Q => t σ H fun xs H1 => xs.length ≤ sizeLine ∧ ∀ p, H1 p = none → Q (.ref p) (upd H1 p (.tup xs))
def tLst (t : TA) : TE := fun σ H Q => t σ H fun xs H1 => xs.length ≤ sizeLine ∧ ∀ p, H1 p = none → Q (.ref p) (upd H1 p (.lst xs))
theorem pe_tup {x1} (h : PA X es t) : PE X (.Tuple es x1 pos) (tTup t) := by
  intro pins s σ H Q I hq
  refine wpAny_Tuple_spliced (thn (h pos pins s σ H _ I hq) fun us s1 ⟨xs, H1, I1, r, z, q⟩ => ⟨by rw [← r.length]; exact z, ?_⟩)
  have hf : H1 s1.heap.objs.size = none := I1.hok.fresh (Nat.le_refl _)
  refine ⟨.ref s1.heap.objs.size, upd H1 s1.heap.objs.size (.tup xs), I1.laid (t' := s1.toks) (fun b u e => Heap.get?_push_of_some _ e) (Nat.le_refl _) ?_, rfl, q _ hf⟩
  exact ⟨z, us, r, ⟨_, Heap.get?_push_size _ rfl, rfl, _, rfl⟩⟩
theorem pe_lst (h : PA X es t) : PE X (.List es pos) (tLst t) := by
  intro pins s σ H Q I hq
  refine wpAny_List_spliced (thn (h pos pins s σ H _ I hq) fun us s1 ⟨xs, H1, I1, r, z, q⟩ => ⟨by rw [← r.length]; exact z, ?_⟩)
  have hf : H1 s1.heap.objs.size = none := I1.hok.fresh (Nat.le_refl _)
  refine ⟨.ref s1.heap.objs.size, upd H1 s1.heap.objs.size (.lst xs), I1.laid (t' := s1.toks) (fun b u e => Heap.get?_push_of_some _ e) (Nat.le_refl _) ?_, rfl, q _ hf⟩
  exact ⟨z, us, 0, r, Heap.get?_push_size _ rfl⟩
end

/-! ### what a def promises -/
/-- a def's promise: the bound arguments in the parameters' order, the heap, the wanted end, the wanted exception -/
abbrev Sp := List V → Hp → VK → XK → Prop
/-- how an exception lies behind a call (file 08 gives it): the callers' frames, abstract heap and state ahead of the call, the wish, the exception, the state -/
abbrev CXT := List Env → Hp → Shared → XK → Value → Shared → Prop

/-- the state at a call -/
structure Env0 (P : Program) (w : World) (K : PySem.W.Frag) (mg : Str → Option Value) (base : Heap) (A : Around) (outer : List Env) (s : Shared) (H : Hp) : Prop where
  frames : A.frames = some outer
  mod : Mod K mg base
  bs : ∀ b o, base.get? b = some o → s.heap.get? b = some o ∧ H b = none
  bsz : base.objs.size ≤ s.heap.objs.size
  funs : s.heap.FunFrames base outer
  frf : ∀ b ∈ frs outer, H b = none
  hok : HOk P w H s.heap
  bare : AllBare s.gens
/-- a call's end -/
def CE (outer : List Env) (P : Program) (w : World) (H : Hp) (s : Shared) (Q : VK) (u : Value) (s' : Shared) : Prop :=
  ∃ v H', s'.os = s.os ∧ AllBare s'.gens ∧ Un (frs outer) [] H H' s.heap s'.heap ∧ HOk P w H' s'.heap ∧ RelV v u ∧ Q v H'
def CR (CX : CXT) (outer : List Env) (P : Program) (w : World) (H : Hp) (s : Shared) (Q : VK) (E : XK) (r : Result) (s' : Shared) : Prop :=
  match r with
  | .ok (.ret u) => CE outer P w H s Q u s'
  | .ok _ => False
  | .error e => CX outer H s E e s'
structure FnOk (P : Program) (w : World) (K : PySem.W.Frag) (mg : Str → Option Value) (base : Heap) (CX : CXT) (k : Nat) (f : Addr) (fd : FuncData) (ps : List Str) (sp : Sp) : Prop where
  len : ∀ vs H Q E, sp vs H Q E → vs.length = ps.length
  run : ∀ (A : Around) (outer : List Env) (s : Shared) (H : Hp) (args : Args) (us : List Value) (vs : List V) (Q : VK) (E : XK), Room k A → Env0 P w K mg base A outer s H → BindsTo s fd args (ps.zip us) → Vals vs us → sp vs H Q E →
    codeAny (model P w) A (.call (.ref f) args) (CR CX outer P w H s Q E) s


section
variable {X : Cx} {pins : List (Addr × Obj)} {σ : St} {H : Hp} {s s' : Shared}
/-- from a body: what a callee wants -/
theorem Inv.env0 (I : Inv X pins σ H s) : Env0 X.prog X.w X.K X.mg X.base X.A X.stack s H :=
  ⟨I.ok.frames, I.ok.mod, I.bs, Nat.le_trans I.ok.bsz I.sz, I.stack, I.stkFree, I.hok, I.bare⟩
/-- behind a call -/
theorem Inv.after {Q : VK} {u : Value} (I : Inv X pins σ H s) (h : CE X.stack X.prog X.w H s Q u s') : EP X pins σ Q u s' := by
  obtain ⟨v, H', os, bare, un, hok, r, q⟩ := h
  obtain ⟨hh, g, d, t, os'⟩ := s'
  obtain rfl : os' = s.os := os
  exact ⟨v, H', I.call (h' := hh) (g' := g) (d' := d) (t' := t) (ch := []) un hok bare (fun b z => absurd z (by simp)), r, q⟩
end

/-! ### calls -/
/-- f(..): the written arguments, then the defaults dvs; E: what is wanted of an exception -/
def tCall (sp : Sp) (dvs : List V) (E : XK) (t : TA) : TE := fun σ H Q => t σ H fun vs H1 => sp (vs ++ dvs) H1 Q E

/-- how the parameters are bound: us the positional arguments, kw the keywords' values by name, ds the defaults that fill up -/
def Binds (K : PySem.W.Frag) (fd : FuncData) (ps : List Str) (ds : List Value) : Prop :=
  ∀ (s : Shared) (us : List Value), K.In s.heap → (us ++ ds).length = ps.length → BindsTo s fd ⟨us, []⟩ (ps.zip (us ++ ds))
/-- every parameter is given -/
theorem Binds.all {K : PySem.W.Frag} {fd : FuncData} {ps : List Str} (h : ∀ us : List Value, us.length = ps.length → bindArgs fd ⟨us, []⟩ = pure (ps.zip us)) : Binds K fd ps [] := fun s us _ hl => by
  rw [List.append_nil] at hl ⊢
  exact .of_eq (h us hl)

/-- an exception of a callee reaches what this body wants of exceptions -/
def Passes (CX : CXT) (X : Cx) (E : XK) : Prop := ∀ (pins : List (Addr × Obj)) (σ : St) (H : Hp) (s : Shared) (e : Value) (s' : Shared), Inv X pins σ H s → CX X.stack H s E e s' → X.xe e s'

section
variable {X : Cx} {CX : CXT} {k : Nat} {f C : Addr} {fd : FuncData} {ps : List Str} {sp : Sp} {dvs : List V} {ds : List Value} {E : XK} {x m : Str} {p pos apos : Pos} {e o : Expr} {es : List Expr} {ta : TE} {t : TA}

/-- the callee runs -/
theorem run_fn {pins : List (Addr × Obj)} {σ : St} {H : Hp} {s : Shared} {Q : VK} {us : List Value} {vs : List V} (F : FnOk X.prog X.w X.K X.mg X.base CX k f fd ps sp) (hr : Room k X.A) (hb : Binds X.K fd ps ds) (hd : Vals dvs ds) (hx : Passes CX X E)
    (I : Inv X pins σ H s) (r : Vals vs us) (h : sp (vs ++ dvs) H Q E) : wpAny (model X.prog X.w) X.A (call (.ref f) us) (EP X pins σ Q) X.xe s := by
  have r2 : Vals (vs ++ dvs) (us ++ ds) := r.append hd
  have hl : (us ++ ds).length = ps.length := by rw [← r2.length]; exact F.len _ _ _ _ h
  refine wpAny_call (codeAny_mono (F.run X.A X.stack s H ⟨us, []⟩ (us ++ ds) (vs ++ dvs) Q E hr I.env0 (hb s us I.kIn hl) r2 h) fun r s' hq => ?_)
  cases r with
  | error e => exact hx pins σ H s e s' I hq
  | ok fl =>
    cases fl with
    | ret u => exact I.after hq
    | next => exact False.elim hq
    | brk => exact False.elim hq
    | cont => exact False.elim hq

theorem pe_call (F : FnOk X.prog X.w X.K X.mg X.base CX k f fd ps sp) (hr : Room k X.A) (hg : Gl X x) (hm : X.mg x = some (.ref f)) (hk : PySem.W.keepIn X.K (.ref f) = true) (hb : Binds X.K fd ps ds) (hd : Vals dvs ds) (hx : Passes CX X E)
    (ha : PA X (e :: es) t) (hdb : (x == ("__debug__" : Str)) = false := by decide) (he : starEach (e :: es) X.env = (false, eval e X.env) :: starEach es X.env := by rfl) (hpl : (backTo pos (starEach es X.env)).any (·.1) = false := by rfl) :
    PE X (.Call (.Name x p) (e :: es) [] pos) (tCall sp dvs E t) := by
  intro pins s σ H Q I h
  refine wpAny_Call_Name_kw (ld_glob I hg hm ?_ hdb)
  refine PySem.W.callWith_K (h₀ := X.base) I.ok.mod.kin hk (thn (ha pos pins s σ H _ I h) fun us s1 ⟨vs, H1, I1, r, q⟩ => ⟨I1.kIn, ?_⟩) he hpl
  exact run_fn F hr hb hd hx I1 r q



end

/-! ### keywords -/
section
variable {X : Cx} {CX : CXT} {k : Nat} {f C : Addr} {fd : FuncData} {ps ks : List Str} {sp : Sp} {E : XK} {x m : Str} {p pos apos kpos : Pos} {e o : Expr} {es : List Expr} {kws : List Keyword} {te ta : TE} {t tk : TA} {nm : Option Str}

variable {g : List Value → List Value → List Value} {gV : List V → List V → List V}
end

/-! ### a def's body keeps its promise -/
/-- names: the parameters first -/
structure FnScope (N P : List Str) (sc : Scope) : Prop where
  kind : sc.kind = .function
  co : sc.isCoroutine = false
  gen : sc.isGenerator = false
  nd : N.Nodup
  pre : N.take P.length = P
  par : ∀ x ∈ P, sc.names.lookup x = some .local ∨ sc.names.lookup x = some .cell
  nofree : ∀ y ∈ sc.names, y.2 ≠ .free

theorem bindL_out {kindOf : Str → Option NameKind} {x : Str} : ∀ {binds : List (Str × Value)} {m : Str → Option Value}, (∀ v, (x, v) ∉ binds) → bindL kindOf binds m x = m x
  | [], _, _ => rfl
  | (n, v) :: r, m, h => by
    unfold bindL
    rw [bindL_out fun w hw => h w (List.mem_cons_of_mem _ hw)]
    split
    · have : x ≠ n := by rintro rfl; exact h v List.mem_cons_self
      simp [this]
    · rfl
theorem bindC_out {kindOf : Str → Option NameKind} {x : Str} : ∀ {binds : List (Str × Value)} {m : Str → Option Value}, (∀ v, (x, v) ∉ binds) → bindC kindOf binds m x = m x
  | [], _, _ => rfl
  | (n, v) :: r, m, h => by
    unfold bindC
    rw [bindC_out fun w hw => h w (List.mem_cons_of_mem _ hw)]
    split
    · rfl
    · have : x ≠ n := by rintro rfl; exact h v List.mem_cons_self
      simp [this]
theorem bindL_get {kindOf : Str → Option NameKind} {x : Str} {v : Value} : ∀ {P : List Str} {vs : List Value} {i : Nat} {m : Str → Option Value}, P.Nodup → P[i]? = some x → vs[i]? = some v → kindOf x = some .local →
    bindL kindOf (P.zip vs) m x = some v
  | [], _, _, _, _, h, _, _ => by simp at h
  | _ :: _, [], _, _, _, _, h, _ => by simp at h
  | p :: P, w :: vs, 0, m, nd, h1, h2, hk => by
    simp at h1 h2; subst h1; subst h2
    show bindL kindOf ((p, w) :: P.zip vs) m p = _
    unfold bindL
    rw [bindL_out fun v hv => (List.nodup_cons.mp nd).1 (List.of_mem_zip hv).1, if_pos hk]
    simp
  | p :: P, w :: vs, i + 1, m, nd, h1, h2, hk => by
    show bindL kindOf ((p, w) :: P.zip vs) m x = _
    unfold bindL
    exact bindL_get (i := i) (List.nodup_cons.mp nd).2 (by simpa using h1) (by simpa using h2) hk
theorem bindC_get {kindOf : Str → Option NameKind} {x : Str} {v : Value} : ∀ {P : List Str} {vs : List Value} {i : Nat} {m : Str → Option Value}, P.Nodup → P[i]? = some x → vs[i]? = some v → kindOf x ≠ some .local →
    bindC kindOf (P.zip vs) m x = some v
  | [], _, _, _, _, h, _, _ => by simp at h
  | _ :: _, [], _, _, _, _, h, _ => by simp at h
  | p :: P, w :: vs, 0, m, nd, h1, h2, hk => by
    simp at h1 h2; subst h1; subst h2
    show bindC kindOf ((p, w) :: P.zip vs) m p = _
    unfold bindC
    rw [bindC_out fun v hv => (List.nodup_cons.mp nd).1 (List.of_mem_zip hv).1, if_neg hk]
    simp
  | p :: P, w :: vs, i + 1, m, nd, h1, h2, hk => by
    show bindC kindOf ((p, w) :: P.zip vs) m x = _
    unfold bindC
    exact bindC_get (i := i) (List.nodup_cons.mp nd).2 (by simpa using h1) (by simpa using h2) hk

/-- the names' values at the entry -/
def start (N : List Str) (vs : List V) : St := vs.map some ++ List.replicate (N.length - vs.length) none

/-- the context of a def's body, at its entry; an exception leaves the frame, then lies as CX says -/
def cxOf (CX : CXT) (P : Program) (w : World) (K : PySem.W.Frag) (mg : Str → Option Value) (base : Heap) (N : List Str) (qual : Str) (scope : Scope) (f : Addr) (cd : Value) (A : Around) (outer : List Env) (s : Shared) (H : Hp) (E : XK) : Cx where
  prog := P
  w := w
  K := K
  mg := mg
  base := base
  A := A.deeper (envOfC qual scope s.heap.objs.size f cd)
  N := N
  s₀ := s
  H₀ := H
  env := envOfC qual scope s.heap.objs.size f cd
  outer := outer
  stack := envOfC qual scope s.heap.objs.size f cd :: outer
  ex := []
  calm := true
  fn := fun _ => true
  pn := []
  xe := fun e s' => wpAny (model P w) (A.deeper (envOfC qual scope s.heap.objs.size f cd)) (leaving (envOfC qual scope s.heap.objs.size f cd) e) (fun _ s'' => CX outer H s E e s'') (fun e' s'' => CX outer H s E e' s'') s'

theorem cell_has {sc : Scope} {n : Nat} {x : Str} (h : sc.names.lookup x = some .cell) : ∃ c, (cellsFrom n sc.names []).lookup x = some c := by
  have q := PySem.W.cellsFrom_some sc.names n [] (.inl h)
  exact Option.isSome_iff_exists.mp q

theorem inv_start {CX : CXT} {P : Program} {w : World} {K : PySem.W.Frag} {mg : Str → Option Value} {base : Heap} {N ps : List Str} {qual : Str} {scope : Scope} {f : Addr} {cd : Value} {A : Around} {outer : List Env} {s s1 : Shared} {H : Hp} {E : XK} {us : List Value} {vs : List V}
    (S : FnScope N ps scope) (hd : A.handled = none) (e0 : Env0 P w K mg base A outer s H) (hl : vs.length = ps.length) (r : Vals vs us)
    (x : InCallC s s.heap.objs.size (bindL (envOfC qual scope s.heap.objs.size f cd).kindOf (ps.zip us) fun _ => none) (cellsFrom (s.heap.objs.size + 1) scope.names []) (bindC (envOfC qual scope s.heap.objs.size f cd).kindOf (ps.zip us) fun _ => none) s1) :
    Inv (cxOf CX P w K mg base N qual scope f cd A outer s H E) [] (start N vs) H s1 := by
  have hpl : ps.length ≤ N.length := by have := congrArg List.length S.pre; rw [List.length_take] at this; omega
  obtain ⟨h1, tk, rfl, hk⟩ := x.done
  have noA : ∀ b : Addr, b ∉ (cxOf CX P w K mg base N qual scope f cd A outer s H E).ex := fun b z => absurd (show b ∈ ([] : List Addr) from z) (by simp)
  refine ⟨⟨e0.mod, S.kind, rfl, rfl, Nat.le_refl _, fun y z c h1 h2 => ?_, fun y hy => ?_, fun y c _ h => ?_, fun _ => hd, Around.frames_deeper e0.frames, .inr ⟨rfl, rfl⟩, fun b z => absurd z (noA b), e0.bs, e0.bsz, fun b _ _ => noA b, fun b z => absurd z (noA b), e0.funs, e0.frf⟩,
    rfl, e0.bare, Un.kept hk, ⟨_, x.toInCall.ns, fun i y v h1 h2 h3 => ?_⟩, fun y c h => ⟨_, x.cell y c h⟩, e0.hok.fresh (Nat.le_refl _), fun y c h => ?_, fun p hp => absurd (show p ∈ ([] : List (Addr × Obj)) from hp) (by simp), e0.hok.kept hk, ?_⟩
  · exact name_of_addr x.apart (PySem.mem_of_lookup h1) (PySem.mem_of_lookup h2)
  · have hy : scope.names.lookup y = some .cell ∨ scope.names.lookup y = some .free := hy
    rcases hy with hy | hy
    · exact cell_has hy
    · exact absurd rfl (S.nofree _ (PySem.mem_of_lookup hy))
  · exact Nat.le_of_lt (x.above y c (PySem.mem_of_lookup h))
  · have hi : i < vs.length := by
      unfold start at h2
      by_cases hi : i < vs.length
      · exact hi
      · rw [List.getElem?_append_right (by simpa using hi)] at h2
        rw [List.getElem?_replicate] at h2
        split at h2 <;> cases h2
    have ha : vs[i]? = some v := by
      unfold start at h2
      rw [List.getElem?_append_left (by simpa using hi), List.getElem?_map] at h2
      cases e : vs[i]? with
      | none => rw [e] at h2; cases h2
      | some a => rw [e] at h2; cases h2; rfl
    obtain ⟨u, hu, rv⟩ := r.get ha
    have hp : ps[i]? = some y := by
      rw [← S.pre, List.getElem?_take_of_lt (by omega)]; exact h1
    have ndP : ps.Nodup := by rw [← S.pre]; exact S.nd.sublist (List.take_sublist _ _)
    refine ⟨u, rv, ?_⟩
    rcases S.par y (List.mem_of_getElem? hp) with k | k
    · exact .inl ⟨k, bindL_get ndP hp hu k⟩
    · obtain ⟨c, e⟩ := cell_has (n := s.heap.objs.size + 1) k
      refine .inr ⟨.inl k, c, e, ?_⟩
      have q := x.cell y c e
      rw [bindC_get ndP hp hu (by show scope.names.lookup y ≠ _; rw [k]; decide)] at q
      exact q
  · exact e0.hok.fresh (Nat.le_of_lt (x.above y c (PySem.mem_of_lookup h)))
  · unfold start
    show _ = N.length
    rw [List.length_append, List.length_map, List.length_replicate]
    omega

/-- THE RULE: a def (or a method) of the text, by its body. The body's reading t is chosen for each entry; it is run at the parameters' values -/
theorem fn_of {CX : CXT} {P : Program} {w : World} {K : PySem.W.Frag} {mg : Str → Option Value} {base : Heap} {k : Nat} {f : Addr} {name qual : Str} {params : Arguments} {body : List Stmt} {scope : Scope} {dV kV doc pm cdv ct oc : Value} {an od : Option Addr}
    {osl : Array (Option Value)} {N ps : List Str} {sp : Sp} (lk : K.lookup f = some ⟨oc, od, .func (PySem.W.fnOf name qual params body scope dV kV doc pm an cdv ct), osl⟩) (hcd : PySem.W.codeIn K cdv qual = true) (S : FnScope N ps scope)
    (len : ∀ vs H Q E, sp vs H Q E → vs.length = ps.length)
    (hbody : ∀ (A : Around) (outer : List Env) (s : Shared) (H : Hp) (vs : List V) (Q : VK) (E : XK), Room k (A.deeper (envOfC qual scope s.heap.objs.size f cdv)) → sp vs H Q E →
      ∃ t, PSs (cxOf CX P w K mg base N qual scope f cdv A outer s H E) body t ∧ t { nx := fun _ H' => Q .non H', rt := Q } (start N vs) H) :
    FnOk P w K mg base CX (k + 1) f (PySem.W.fnOf name qual params body scope dV kV doc pm an cdv ct) ps sp := by
  refine ⟨len, fun A outer s H args us vs Q E hr e0 hb r hsp => ?_⟩
  have hl := len _ _ _ _ hsp
  have KX : K.In s.heap := e0.mod.kin.keeps fun b o e => (e0.bs b o e).1
  have lim : s.heap.NoLimit := e0.mod.nolimit.keeps fun b o e => (e0.bs b o e).1
  have hkind : ∀ y ∈ ps.zip us, scope.names.lookup y.1 = some .local ∨ (scope.names.lookup y.1 = some .cell ∧ ((cellsFrom (s.heap.objs.size + 1) scope.names []).lookup y.1).isSome = true) := fun ⟨n, v⟩ hy => by
    rcases S.par n (List.of_mem_zip hy).1 with q | q
    · exact .inl q
    · exact .inr ⟨q, PySem.W.cellsFrom_some _ _ _ (.inl q)⟩
  refine codeAny_call_function hr.depth (KX _ _ lk) rfl S.co S.gen rfl (PySem.W.codeRec_of KX hcd) (hb _ _ _ _ ?_)
  refine wpAny_newFunctionEnv_cells S.kind hkind fun env he s1 x => ?_
  subst he
  refine ⟨lim.keeps x.toInCall.keep, codeAny_func ?_⟩
  obtain ⟨t, ht, hq⟩ := hbody A outer s H vs Q E (hr.deeper _) hsp
  have I : Inv (cxOf CX P w K mg base N qual scope f cdv A outer s H E) [] (start N vs) H s1 := inv_start S hr.hd e0 hl r x
  refine wpAny_mono (ht [] s1 (start N vs) H _ I hq) (fun fl s' hs => ?_) fun e s' hs => hs
  have fin : ∀ {σ' : St} {H' : Hp} {v : V} {u : Value}, Inv (cxOf CX P w K mg base N qual scope f cdv A outer s H E) [] σ' H' s' → RelV v u → Q v H' → CE outer P w H s Q u s' :=
    fun {σ' H' v u} J rv q => ⟨v, H', J.os, J.bare, J.base, J.hok, rv, q⟩
  cases fl with
  | ret u =>
    obtain ⟨v, σ', H', J, rv, q⟩ := hs
    exact fin J rv q
  | next =>
    obtain ⟨σ', H', J, q⟩ := hs
    exact fin (v := V.non) (u := Value.none) J rfl q
  | brk =>
    obtain ⟨_, _, _, q⟩ := hs
    exact False.elim q
  | cont =>
    obtain ⟨_, _, _, q⟩ := hs
    exact False.elim q
end L2

namespace L2
open PySem PySem.Spec PyProof.Rows
section
variable {X : Cx} {x : Str} {p pos : Pos} {e : Expr} {es : List Expr} {t : TA} {id T : String} {r : List V → Hp → VK → Prop}

def tCB (r : List V → Hp → VK → Prop) (t : TA) : TE := fun σ H Q => t σ H fun vs H1 => r vs H1 Q
/-- f(e, ..), f a built-in function -/
theorem pe_callB (hc : CallR X (.builtin id) r) (hg : Gl X x) (hm : X.mg x = none) (hv : bootBuiltins x = some (.builtin id)) (ha : PA X (e :: es) t) (hn : x ≠ "__name__" := by decide) (hdb : (x == ("__debug__" : Str)) = false := by decide)
    (he : starEach (e :: es) X.env = (false, eval e X.env) :: starEach es X.env := by rfl) (hpl : (backTo pos (starEach es X.env)).any (·.1) = false := by rfl) : PE X (.Call (.Name x p) (e :: es) [] pos) (tCB r t) := by
  intro pins s σ H Q I h
  refine wpAny_Call_Name_kw (ld_blt I hg hm hv ?_ hn hdb)
  exact PyProof.Rows.callWith_builtin1 (thn (ha pos pins s σ H _ I h) fun us s1 ⟨vs, H1, I1, r1, q1⟩ => hc pins s1 σ H1 vs us Q I1 r1 q1) he hpl
/-- T(e, ..), T a built-in type -/
theorem pe_callTy (hc : CallR X (.type T) r) (hg : Gl X x) (hm : X.mg x = none) (hv : bootBuiltins x = some (.type T)) (ha : PA X (e :: es) t) (hn : x ≠ "__name__" := by decide) (hdb : (x == ("__debug__" : Str)) = false := by decide)
    (he : starEach (e :: es) X.env = (false, eval e X.env) :: starEach es X.env := by rfl) (hpl : (backTo pos (starEach es X.env)).any (·.1) = false := by rfl) : PE X (.Call (.Name x p) (e :: es) [] pos) (tCB r t) := by
  intro pins s σ H Q I h
  refine wpAny_Call_Name_kw (ld_blt I hg hm hv ?_ hn hdb)
  exact PyProof.Rows.callWith_type1 (thn (ha pos pins s σ H _ I h) fun us s1 ⟨vs, H1, I1, r1, q1⟩ => hc pins s1 σ H1 vs us Q I1 r1 q1) he hpl
end
end L2

namespace HT
open PySem PyProof.Rows



section
open PySem.SeqAt
open PySem.AutoSeq1 (wpAny_loadPart')
open PySem.MeetsSeq PySem.MeetsSeq2 PySem.MeetsSeq3

end

section
variable {prog : Program} {w : World} {A : Around} {E : Value → Shared → Prop} {s : Shared}


/-- t + u, t not empty -/
theorem cat_tup {t b : Addr} {vs ws : List Value} {Q : Value → Shared → Prop} (ht : IsTup s.heap t vs.toArray) (hb : IsTup s.heap b ws.toArray) (hv : vs ≠ [])
    (h1 : ws = [] → Q (.ref t) s) (h2 : ws ≠ [] → Q (.ref s.heap.objs.size) { s with heap := s.heap.push { cls := .type "tuple", data := .seq (vs ++ ws).toArray } })
    (hsz : vs.length + ws.length ≤ sizeLine) : wpAny (model prog w) A (binaryOp .Add (.ref t) (.ref b)) Q E s := by
  obtain ⟨⟨cls, dd, data, sl⟩, ho, hc, n, hd⟩ := id ht
  obtain ⟨⟨cls2, dd2, data2, sl2⟩, ho2, hc2, n2, hd2⟩ := id hb
  simp only at hc hd hc2 hd2
  subst hc hd hc2 hd2
  have e : vs.toArray ++ ws.toArray = (vs ++ ws).toArray := by simp
  by_cases hw : ws = []
  · exact concat_meets ⟨_, ho, rfl⟩ ⟨_, ho2, rfl⟩ noFill_tuple_add seq_tuple_add PySem.F.slot_tuple_add PySem.F.entry_tuple_add (PySem.F.args_tuple_add_2 _ _)
      (tuple_addW1 t b vs.toArray ws.toArray n n2 dd dd2 sl sl2 (by simpa using hv) (by simp [hw])) ⟨ho, ho2, h1 hw⟩
  · refine concat_meets ⟨_, ho, rfl⟩ ⟨_, ho2, rfl⟩ noFill_tuple_add seq_tuple_add PySem.F.slot_tuple_add PySem.F.entry_tuple_add (PySem.F.args_tuple_add_2 _ _)
      (tuple_addW2 t b vs.toArray ws.toArray n n2 dd dd2 sl sl2 (by simpa using hv) (by simpa using hw) (by rw [List.size_toArray, List.size_toArray]; exact hsz)) ⟨ho, ho2, ?_⟩
    rw [e]
    exact h2 hw

/-! ### t[a:b], not the whole -/
/-- a slice's bound as a place among n (d where it is left out) -/
def sIx (n d : Nat) : Option Int → Nat
  | none => d
  | some v => if v < 0 then (v + (n : Int)).toNat else min v.toNat n
theorem sIx_nat (n d k : Nat) : sIx n d (some (k : Int)) = min k n := by
  show (if (k : Int) < 0 then ((k : Int) + (n : Int)).toNat else min (k : Int).toNat n) = min k n
  rw [if_neg (by omega), Int.toNat_natCast]

end
end HT

namespace L2
open PySem PySem.Spec PyProof.Rows

/-! ### the parts of a slice -/
abbrev TO := St → Hp → (Option Int → Hp → Prop) → Prop
/-- a slice's part (left out, or an int) -/
def PO (X : Cx) (e : Option Expr) (t : TO) : Prop :=
  ∀ (pins : List (Addr × Obj)) (s : Shared) (σ : St) (H : Hp) (Q : Option Int → Hp → Prop), Inv X pins σ H s → t σ H Q →
    wpAny (model X.prog X.w) X.A (evalPart e X.env) (fun u s' => ∃ o H', Inv X pins σ H' s' ∧ IsPart u o ∧ Q o H') X.xe s
def tNoPart : TO := fun _ H Q => Q none H
def tPart (t : TE) : TO := fun σ H Q => t σ H fun x H1 => ∃ i, x = .int i ∧ Q (some i) H1


section
variable {X : Cx} {e : Expr} {te : TE} {lo hi : Option Expr} {tl th : TO} {pos p2 : Pos}

theorem po_none : PO X none tNoPart := by
  intro pins s σ H Q I h
  rw [evalPart_none]
  exact wpAny_pure ⟨none, H, I, .none, h⟩
theorem po_some (h : PE X e te) : PO X (some e) (tPart te) := by
  intro pins s σ H Q I hw
  rw [evalPart_some]
  refine thn (h pins s σ H _ I hw) fun u s1 ⟨x, H1, I1, r1, q1⟩ => ?_
  obtain ⟨i, rfl, q⟩ := q1
  obtain ⟨t, rfl⟩ := r1
  exact ⟨some i, H1, I1, .int i t, q⟩

/-- what a slice of a value is, by values: the slice object stands at sl -/
def SlR (X : Cx) (r : V → Option Int → Option Int → Hp → VK → Prop) : Prop :=
  ∀ (pins : List (Addr × Obj)) (s : Shared) (σ : St) (H : Hp) (x : V) (v vl vu : Value) (lo hi : Option Int) (sl : Addr) (Q : VK), Inv X pins σ H s → RelV x v → s.heap.IsSliceOf sl vl vu .none → IsPart vl lo → IsPart vu hi → r x lo hi H Q →
    ∃ T id, typeLookup (.type T) "__getitem__" = pure (some (.builtin id)) ∧ s.TypeIs v T ∧ wpAny (model X.prog X.w) X.A (getItem v (.ref sl)) (EP X pins σ Q) X.xe s
def tSl (r : V → Option Int → Option Int → Hp → VK → Prop) (te : TE) (tl th : TO) : TE := fun σ H Q => te σ H fun x H1 => tl σ H1 fun l H2 => th σ H2 fun u H3 => r x l u H3 Q
/-- a[lo:hi], any a -/
theorem pe_slice {r : V → Option Int → Option Int → Hp → VK → Prop} (hr : SlR X r) (he : PE X e te) (hl : PO X lo tl) (hu : PO X hi th) : PE X (.Subscript e (.Slice lo hi none p2) pos) (tSl r te tl th) := by
  intro pins s σ H Q I h
  refine Subscript_ (thn (he pins s σ H _ I h) fun v s1 ⟨x, H1, I1, r1, q1⟩ => ?_)
  refine wpAny_Slice (thn (hl pins s1 σ H1 _ I1 q1) fun vl s2 ⟨l, H2, I2, pl, q2⟩ => thn (hu pins s2 σ H2 _ I2 q2) fun vu s3 ⟨u, H3, I3, pu, q3⟩ => ?_)
  rw [evalPart_none]
  refine wpAny_pure ?_
  have I4 : Inv X pins σ H3 { s3 with heap := s3.heap.push { cls := .type "slice", data := .fields #[vl, vu, .none] } } := I3.kept (t' := s3.toks) fun b ob q => Heap.get?_push_of_some _ q
  obtain ⟨T, id, hT, ht, hg⟩ := hr pins { s3 with heap := s3.heap.push { cls := .type "slice", data := .fields #[vl, vu, .none] } } σ H3 x v vl vu l u s3.heap.objs.size Q I4 r1 (Heap.IsSliceOf.new ..) pl pu q3
  show wpAny (model X.prog X.w) X.A (subscriptTail e (.Slice lo hi none p2) v (.ref s3.heap.objs.size)) (EP X pins σ Q) X.xe { s3 with heap := s3.heap.push { cls := .type "slice", data := .fields #[vl, vu, .none] } }
  exact tail_any (ops := [.ref s3.heap.objs.size, v]) ht hT hg (by with_unfolding_all rfl)

/-- the items of xs[lo:hi] -/
def cutV (xs : List V) (lo hi : Option Int) : List V := (xs.drop (HT.sIx xs.length 0 lo)).take (HT.sIx xs.length xs.length hi - HT.sIx xs.length 0 lo)
theorem cutV_length (xs : List V) (lo hi : Option Int) : (cutV xs lo hi).length ≤ xs.length := by
  unfold cutV
  rw [List.length_take, List.length_drop]
  omega

/-! ### t < u, t + u -/
/-- t + u, t not empty: u empty gives t itself -/
def rCatT (K : PySem.W.Frag) : R2 := fun x y H Q => ∃ a b xs ys, x = .ref a ∧ y = .ref b ∧ SqT K H a xs ∧ SqT K H b ys ∧ xs ≠ [] ∧ xs.length + ys.length ≤ sizeLine ∧
  (ys = [] → Q (.ref a) H) ∧ (ys ≠ [] → ∀ p, H p = none → Q (.ref p) (upd H p (.tup (xs ++ ys))))
theorem Vals.nil_iff {xs : List V} {us : List Value} (r : Vals xs us) : us = [] ↔ xs = [] := by
  cases r with
  | nil => simp
  | cons _ _ => simp
theorem op_catT : OpR X (binaryOp .Add) (rCatT X.K) := by
  intro pins s σ H x y v u Q I rx ry h
  obtain ⟨a, b, xs, ys, rfl, rfl, ha, hb, hx, hz, q1, q2⟩ := h
  cases rx
  cases ry
  obtain ⟨its, r1, p1, _⟩ := I.tuple ha
  obtain ⟨its2, r2, p2, _⟩ := I.tuple hb
  refine HT.cat_tup p1 p2 (fun z => hx (r1.nil_iff.mp z)) (fun z => ⟨.ref a, H, I, rfl, q1 (r2.nil_iff.mp z)⟩) (fun z => ?_) (by rw [← r1.length, ← r2.length]; exact hz)
  refine ⟨.ref s.heap.objs.size, _, I.laid (t' := s.toks) (o := .tup (xs ++ ys)) (fun b ob q => Heap.get?_push_of_some _ q) (Nat.le_refl _) ?_, rfl, q2 (fun w => z (r2.nil_iff.mpr w)) _ (I.hok.fresh (Nat.le_refl _))⟩
  exact ⟨by rw [List.length_append]; exact hz, _, r1.append r2, IsTup.new _ _⟩
end
end L2

namespace L2
open PySem PySem.Spec PyProof.Rows

/-! ### places -/
/-- the place that an index of any sign means -/
def ixN (n : Nat) (i : Int) : Option Nat := if 0 ≤ i then (if i < n then some i.toNat else none) else if -(n : Int) ≤ i then some (i + n).toNat else none
def atI {α : Type} (xs : List α) (i : Int) : Option α := (ixN xs.length i).bind fun j => xs[j]?
theorem ixN_seq {n : Nat} {i : Int} {j : Nat} (h : ixN n i = some j) : seqIndex? i n = some j ∧ j < n ∧ -(n : Int) ≤ i ∧ i < n := by
  unfold ixN at h
  by_cases h0 : 0 ≤ i
  · rw [if_pos h0] at h
    by_cases h1 : i < n
    · rw [if_pos h1] at h
      have e : i.toNat = j := Option.some.inj h
      exact ⟨by rw [seqIndex_of h0 h1, e], by omega, by omega, h1⟩
    · rw [if_neg h1] at h; cases h
  · rw [if_neg h0] at h
    by_cases h1 : -(n : Int) ≤ i
    · rw [if_pos h1] at h
      have e : (i + n).toNat = j := Option.some.inj h
      exact ⟨by rw [seqIndex_neg (by omega) h1, e], by omega, h1, by omega⟩
    · rw [if_neg h1] at h; cases h
theorem atI_get {α : Type} {xs : List α} {i : Int} {v : α} (h : atI xs i = some v) : ∃ j, seqIndex? i xs.length = some j ∧ xs[j]? = some v ∧ j < xs.length ∧ -(xs.length : Int) ≤ i ∧ i < xs.length := by
  unfold atI at h
  cases e : ixN xs.length i with
  | none => rw [e] at h; cases h
  | some j =>
    rw [e] at h
    obtain ⟨h1, h2, h3, h4⟩ := ixN_seq e
    exact ⟨j, h1, h, h2, h3, h4⟩
theorem atI_nat {α : Type} {xs : List α} {j : Nat} {v : α} (h : xs[j]? = some v) : atI xs (j : Int) = some v := by
  have hj : j < xs.length := (List.getElem?_eq_some_iff.mp h).1
  have e : ixN xs.length (j : Int) = some j := by
    unfold ixN
    rw [if_pos (by omega), if_pos (by omega)]; simp
  unfold atI; rw [e]; exact h
theorem atI_last {α : Type} (xs : List α) (v : α) : atI (xs ++ [v]) (-1) = some v := by
  have hl : (xs ++ [v]).length = xs.length + 1 := by simp
  have e : ixN (xs ++ [v]).length (-1) = some xs.length := by
    unfold ixN
    rw [hl, if_neg (by decide), if_pos (by omega)]
    congr 1
    omega
  unfold atI
  rw [e]
  show (xs ++ [v])[xs.length]? = some v
  simp

/-! ### what may be subscripted -/
/-- what stands as an index of a plain subscript -/
def PlainIx (b : Expr) : Prop := ∀ o i, subscripted b false o i = operate [o, i] (getItem o i)
/-- a subscript by values -/
def IxR (X : Cx) (r : R2) : Prop :=
  ∀ (value slice : Expr) (pins : List (Addr × Obj)) (s : Shared) (σ : St) (H : Hp) (x y : V) (v u : Value) (Q : VK), Inv X pins σ H s → RelV x v → RelV y u → r x y H Q →
    subscripted slice false v u = operate [v, u] (getItem v u) → wpAny (model X.prog X.w) X.A (subscriptTail value slice v u) (EP X pins σ Q) X.xe s
/-- a call of a builtin's method by values: the receiver, the arguments -/
def MtR (X : Cx) (id : String) (r : V → List V → Hp → VK → Prop) : Prop :=
  ∀ (pins : List (Addr × Obj)) (s : Shared) (σ : St) (H : Hp) (x : V) (xs : List V) (v : Value) (us : List Value) (Q : VK), Inv X pins σ H s → RelV x v → Vals xs us → r x xs H Q →
    wpAny (model X.prog X.w) X.A (call (.builtin id) (v :: us)) (EP X pins σ Q) X.xe s
section
variable {X : Cx} {a b : Expr} {ta tb : TE} {pos : Pos}
/-- a[b] -/
theorem pe_ix {r : R2} (hr : IxR X r) (ha : PE X a ta) (hb : PE X b tb) (hs : PlainIx b) : PE X (.Subscript a b pos) (tOp r ta tb) := by
  intro pins s σ H Q I h
  exact Subscript_ (binT ha hb I h fun v u s2 x y H2 I2 rx ry q => hr a b pins s2 σ H2 x y v u Q I2 rx ry q (hs _ _))

def rIxL (K : PySem.W.Frag) : R2 := fun x y H Q => ∃ p xs i v, x = .ref p ∧ y = .int i ∧ SqL K H p xs ∧ atI xs i = some v ∧ Q v H
def rIxT (K : PySem.W.Frag) : R2 := fun x y H Q => ∃ p xs i v, x = .ref p ∧ y = .int i ∧ SqT K H p xs ∧ atI xs i = some v ∧ Q v H
def rIxS : R2 := fun x y H Q => ∃ z i c, x = .str z ∧ y = .int i ∧ z.length ≤ sizeLine ∧ atI z.cps.toList i = some c ∧ Q (.str ⟨#[c]⟩) H
theorem ix_list : IxR X (rIxL X.K) := by
  intro value slice pins s σ H x y v u Q I rx ry h hs
  obtain ⟨p, xs, i, z, rfl, rfl, hq, he, q⟩ := h
  cases rx
  obtain ⟨t, rfl⟩ := ry
  obtain ⟨its, r, pl, hz⟩ := I.list hq
  obtain ⟨j, h1, h2, h3, h4, h5⟩ := atI_get he
  obtain ⟨w, ew, rw'⟩ := r.get h2
  have hl := r.length
  have hn := line63
  have fin : EP X pins σ Q w s := ⟨z, H, I, rw', q⟩
  by_cases h0 : 0 ≤ i
  · have hj : i.toNat = j := by
      rw [seqIndex_of h0 h5] at h1
      exact Option.some.inj h1
    exact item_listR pl.isList h0 (by omega) (by rw [hj]; simpa using ew) fin hs
  · have hj : (i + (its.toArray.size : Int)).toNat = j := by
      rw [seqIndex_neg (by omega) h4] at h1
      rw [List.size_toArray, ← hl]
      exact Option.some.inj h1
    exact subscriptTail_builtinR (x := w) pl.isList.typeIs slot_list_getitem.lookup
      (wpAny_getItem_list_neg (Q := fun r s' => r = w ∧ EP X pins σ Q r s') pl.isList (by omega) (by rw [List.size_toArray] <;> omega) (by omega) (by rw [hj]; simpa using ew) ⟨rfl, fin⟩) hs
theorem ix_tup : IxR X (rIxT X.K) := by
  intro value slice pins s σ H x y v u Q I rx ry h hs
  obtain ⟨p, xs, i, z, rfl, rfl, hq, he, q⟩ := h
  cases rx
  obtain ⟨t, rfl⟩ := ry
  obtain ⟨its, r, pl, hz⟩ := I.tuple hq
  obtain ⟨j, h1, h2, h3, h4, h5⟩ := atI_get he
  obtain ⟨w, ew, rw'⟩ := r.get h2
  have hl := r.length
  have hn := line63
  have fin : EP X pins σ Q w s := ⟨z, H, I, rw', q⟩
  exact subscriptTail_builtinR (x := w) pl.typeIs slot_tuple_getitem.lookup
    (getItem_tuple (j := j) (Q := fun r s' => r = w ∧ EP X pins σ Q r s') pl (by omega) (by omega) (by rw [List.size_toArray, ← hl]; exact h1) (by simpa using ew) ⟨rfl, fin⟩) hs
theorem ix_str : IxR X rIxS := by
  intro value slice pins s σ H x y v u Q I rx ry h hs
  obtain ⟨z, i, c, rfl, rfl, hz, he, q⟩ := h
  obtain ⟨t, rfl⟩ := rx
  obtain ⟨t', rfl⟩ := ry
  obtain ⟨j, h1, h2, h3, h4, h5⟩ := atI_get he
  have hl : z.cps.toList.length = z.length := by simp [Str.length]
  rw [hl] at h1 h4 h5
  have hn := line63
  exact tail_any (typeIs_str s z t) slot_str_getitem.lookup (getItem_str (c := c) (by
    have e1 : decide (i < -(2 ^ 63 : Int)) = false := decide_eq_false (by omega)
    have e2 : decide (i ≥ 2 ^ 63) = false := decide_eq_false (by omega)
    rw [e1, e2, Bool.or_false]) (by rw [h1]; simpa using h2) ⟨.str ⟨#[c]⟩, H, I.tok _, ⟨_, rfl⟩, q⟩) hs

/-! ### xs[i] = v, any sign -/

/-! ### slices -/
theorem slice_bounds (lo hi : Option Int) (n : Nat) : (sliceBounds lo hi none n).1 = ((HT.sIx n 0 lo : Nat) : Int) ∧ (sliceBounds lo hi none n).2.1 = ((HT.sIx n n hi : Nat) : Int) ∧ (sliceBounds lo hi none n).2.2 = 1 := by
  refine ⟨?_, ?_, rfl⟩
  · cases lo with
    | none => simp [sliceBounds, HT.sIx]
    | some i =>
      simp only [sliceBounds, HT.sIx, Option.getD_none, show (1 : Int) > 0 by decide, if_true]
      by_cases h : i < 0
      · simp only [h, if_true] <;> omega
      · simp only [h, if_false] <;> omega
  · cases hi with
    | none => simp [sliceBounds, HT.sIx]
    | some i =>
      simp only [sliceBounds, HT.sIx, Option.getD_none, show (1 : Int) > 0 by decide, if_true]
      by_cases h : i < 0
      · simp only [h, if_true] <;> omega
      · simp only [h, if_false] <;> omega
theorem slicePick_cut (its : List Value) (lo hi : Option Int) : slicePick its.toArray lo hi none = ((its.drop (HT.sIx its.length 0 lo)).take (HT.sIx its.length its.length hi - HT.sIx its.length 0 lo)).toArray := by
  obtain ⟨h1, h2, h3⟩ := slice_bounds lo hi its.toArray.size
  unfold slicePick
  rw [h1, h2, h3]
  simp only [sliceRange_one, pick_run, List.size_toArray] <;> rfl
/-- xs[lo:hi] of a list: a new list -/
def rSlL (K : PySem.W.Frag) : V → Option Int → Option Int → Hp → VK → Prop := fun x lo hi H Q => ∃ a xs, x = .ref a ∧ SqL K H a xs ∧ ∀ p, H p = none → Q (.ref p) (upd H p (.lst (cutV xs lo hi)))
theorem sl_list : SlR X (rSlL X.K) := by
  intro pins s σ H x v vl vu lo hi sl Q I rx hs pl pu h
  obtain ⟨a, xs, rfl, hx, q⟩ := h
  cases rx
  obtain ⟨its, r, ht, hz⟩ := I.list hx
  have hlen := r.length
  refine ⟨"list", _, slot_list_getitem.lookup, ht.isList.typeIs, ?_⟩
  refine wpAny_getItem_list_slice ht.isList hs pl pu .none (by simp) ?_ (by rw [List.size_toArray] <;> omega)
  rw [slicePick_cut, ← hlen]
  refine ⟨.ref s.heap.objs.size, _, I.laid (t' := s.toks) (o := .lst (cutV xs lo hi)) (fun b ob q => Heap.get?_push_of_some _ q) (Nat.le_refl _) ?_, rfl, q _ (I.hok.fresh (Nat.le_refl _))⟩
  exact ⟨Nat.le_trans (cutV_length xs lo hi) hz, _, 0, (r.drop (HT.sIx xs.length 0 lo)).take (HT.sIx xs.length xs.length hi - HT.sIx xs.length 0 lo), Heap.get?_push_size _ rfl⟩

/-! ### in, not in: flat items -/
def flatV : V → Bool
  | .non => true
  | .bl _ => true
  | .int _ => true
  | .str _ => true
  | _ => false
/-- == of flat values -/
def eqV : V → V → Bool
  | .non, .non => true
  | .bl a, .bl b => a == b
  | .bl a, .int b => (if a then 1 else 0) == b
  | .int a, .bl b => a == (if b then 1 else 0)
  | .int a, .int b => a == b
  | .str a, .str b => a == b
  | _, _ => false
theorem eqAt_V {A : Around} {s : Shared} {y x : V} {u v : Value} (ry : RelV y u) (rx : RelV x v) (fy : flatV y = true) (fx : flatV x = true) : SeqAt.EqAt A s u v (eqV y x) := by
  cases y with
  | non =>
    cases ry
    cases x with
    | non => cases rx; exact SeqAt.EqAt.same _
    | bl b => cases rx; exact SeqAt.EqAt.none_bool b
    | int b => obtain ⟨t, rfl⟩ := rx; exact SeqAt.EqAt.none_int b t
    | str b => obtain ⟨t, rfl⟩ := rx; exact SeqAt.EqAt.none_str b t
    | _ => exact absurd (show false = true from fx) Bool.false_ne_true
  | bl a =>
    cases ry
    cases x with
    | non => cases rx; exact SeqAt.EqAt.bool_none a
    | bl b => cases rx; exact SeqAt.EqAt.bool_bool a b
    | int b => obtain ⟨t, rfl⟩ := rx; exact SeqAt.EqAt.bool_int a b t
    | str b => obtain ⟨t, rfl⟩ := rx; exact SeqAt.EqAt.bool_str a b t
    | _ => exact absurd (show false = true from fx) Bool.false_ne_true
  | int a =>
    obtain ⟨t', rfl⟩ := ry
    cases x with
    | non => cases rx; exact SeqAt.EqAt.int_none a t'
    | bl b => cases rx; exact SeqAt.EqAt.int_bool a t' b
    | int b => obtain ⟨t, rfl⟩ := rx; exact SeqAt.EqAt.int_int a t' b t
    | str b => obtain ⟨t, rfl⟩ := rx; exact SeqAt.EqAt.int_str a t' b t
    | _ => exact absurd (show false = true from fx) Bool.false_ne_true
  | str a =>
    obtain ⟨t', rfl⟩ := ry
    cases x with
    | non => cases rx; exact SeqAt.EqAt.str_none a t'
    | bl b => cases rx; exact SeqAt.EqAt.str_bool a t' b
    | int b => obtain ⟨t, rfl⟩ := rx; exact SeqAt.EqAt.str_int a t' b t
    | str b => obtain ⟨t, rfl⟩ := rx; exact SeqAt.EqAt.str_str a t' b t
    | _ => exact absurd (show false = true from fx) Bool.false_ne_true
  | _ => exact absurd (show false = true from fy) Bool.false_ne_true
/-- the items' answers, read off the values (a value's own answer does not lean on its token) -/
def eqU (x : V) (u : Value) : Bool := match u with
  | .none => eqV .non x
  | .bool b => eqV (.bl b) x
  | .int i _ => eqV (.int i) x
  | .str z _ => eqV (.str z) x
  | _ => false
theorem eqU_of {x y : V} {u : Value} (r : RelV y u) (f : flatV y = true) : eqU x u = eqV y x := by
  cases y with
  | non => cases r; rfl
  | bl b => cases r; rfl
  | int i => obtain ⟨t, rfl⟩ := r; rfl
  | str z => obtain ⟨t, rfl⟩ := r; rfl
  | _ => exact absurd (show false = true from f) Bool.false_ne_true
theorem any_eqU {x : V} : ∀ {xs : List V} {us : List Value}, Vals xs us → xs.all flatV = true → us.any (eqU x) = xs.any fun y => eqV y x
  | _, _, .nil, _ => rfl
  | y :: xs, u :: us, .cons r t, f => by
    rw [List.all_cons, Bool.and_eq_true] at f
    rw [List.any_cons, List.any_cons, eqU_of r f.1, any_eqU t f.2]
theorem mem_eqAt {A : Around} {s : Shared} {x : V} {v : Value} (rx : RelV x v) (fx : flatV x = true) : ∀ {xs : List V} {us : List Value}, Vals xs us → xs.all flatV = true → ∀ u ∈ us, SeqAt.EqAt A s u v (eqU x u)
  | _, _, .nil, _ => fun u hu => by cases hu
  | y :: xs, u :: us, .cons r t, f => fun u' hu => by
    rw [List.all_cons, Bool.and_eq_true] at f
    rcases List.mem_cons.mp hu with rfl | hu
    · rw [eqU_of r f.1]; exact eqAt_V r rx f.1 fx
    · exact mem_eqAt rx fx t f.2 u' hu
def inV (x : V) (xs : List V) : Bool := xs.any fun y => eqV y x
/-- x in a list or tuple of flat items -/
def rIn (K : PySem.W.Frag) (neg : Bool) : R2 := fun x y H Q => ∃ p xs, y = .ref p ∧ (SqL K H p xs ∨ SqT K H p xs) ∧ flatV x = true ∧ xs.all flatV = true ∧ Q (.bl (if neg then !inV x xs else inV x xs)) H
theorem op_in_seq : OpR X (compareOp .In) (rIn X.K false) := by
  intro pins s σ H x y v u Q I rx ry h
  obtain ⟨p, xs, rfl, hq, fx, fs, q⟩ := h
  cases ry
  rcases hq with hq | hq
  · obtain ⟨its, r, pl, hz⟩ := I.list hq
    refine SeqAt.in_listAt (eqU x) pl.isList (fun w hw => mem_eqAt rx fx r fs w (by simpa using hw)) ⟨.bl _, H, I, rfl, ?_⟩
    rw [show its.toArray.any (eqU x) = its.any (eqU x) by simp, any_eqU r fs]
    exact q
  · obtain ⟨its, r, pl, hz⟩ := I.tuple hq
    refine SeqAt.in_tupleAt (eqU x) pl (fun w hw => mem_eqAt rx fx r fs w (by simpa using hw)) ⟨.bl _, H, I, rfl, ?_⟩
    rw [show its.toArray.any (eqU x) = its.any (eqU x) by simp, any_eqU r fs]
    exact q
theorem op_notIn_seq : OpR X (compareOp .NotIn) (rIn X.K true) := by
  intro pins s σ H x y v u Q I rx ry h
  obtain ⟨p, xs, rfl, hq, fx, fs, q⟩ := h
  cases ry
  rcases hq with hq | hq
  · obtain ⟨its, r, pl, hz⟩ := I.list hq
    refine SeqAt.notIn_listAt (eqU x) pl.isList (fun w hw => mem_eqAt rx fx r fs w (by simpa using hw)) ⟨.bl _, H, I, rfl, ?_⟩
    rw [show its.toArray.any (eqU x) = its.any (eqU x) by simp, any_eqU r fs]
    exact q
  · obtain ⟨its, r, pl, hz⟩ := I.tuple hq
    refine SeqAt.notIn_tupleAt (eqU x) pl (fun w hw => mem_eqAt rx fx r fs w (by simpa using hw)) ⟨.bl _, H, I, rfl, ?_⟩
    rw [show its.toArray.any (eqU x) = its.any (eqU x) by simp, any_eqU r fs]
    exact q

/-! ### len, list(x), tuple(x) of any list or tuple that is read -/
theorem call_list_of : CallR X (.type "list") (fun xs H Q => ∃ p ys, xs = [.ref p] ∧ (SqL X.K H p ys ∨ SqT X.K H p ys) ∧ ∀ l, H l = none → Q (.ref l) (upd H l (.lst ys))) := by
  intro pins s σ H xs us Q I r h
  obtain ⟨p, ys, rfl, hq, q⟩ := h
  obtain ⟨u, rfl, rx⟩ := vals1 r
  cases rx
  have fin : ∀ (its : List Value), Vals ys its → ys.length ≤ sizeLine → ∀ (h' : Heap) (c' : Nat), (∀ b o', s.heap.get? b = some o' → h'.get? b = some o') →
      h'.get? s.heap.objs.size = some { cls := .type "list", dict := none, data := .seq its.toArray c', slots := #[] } → EP X pins σ Q (.ref s.heap.objs.size) { s with heap := h' } := fun its r' hz h' c' kp e =>
    ⟨.ref s.heap.objs.size, _, I.laid (t' := s.toks) kp (Nat.le_refl _) (show ObjOk X.prog X.w _ h' _ (.lst ys) from ⟨hz, its, c', r', e⟩), rfl, q _ (I.hok.fresh (Nat.le_refl _))⟩
  rcases hq with hq | hq
  · obtain ⟨its, r', pl, hz⟩ := I.list hq
    have hlen := r'.length
    obtain ⟨o, ho, hc, n, hd⟩ := pl.isList
    exact call_list_seq p (.inl rfl) ho hc hd (fun h' c' kp e => fin its r' hz h' c' kp e) (by simp only [List.size_toArray] <;> omega)
  · obtain ⟨its, r', pl, hz⟩ := I.tuple hq
    have hlen := r'.length
    obtain ⟨o, ho, hc, n, hd⟩ := pl
    exact call_list_seq p (.inr rfl) ho hc hd (fun h' c' kp e => fin its r' hz h' c' kp e) (by simp only [List.size_toArray] <;> omega)
theorem call_tuple_of : CallR X (.type "tuple") (fun xs H Q => ∃ p ys, xs = [.ref p] ∧ ((SqL X.K H p ys ∧ ∀ l, H l = none → Q (.ref l) (upd H l (.tup ys))) ∨ (SqT X.K H p ys ∧ Q (.ref p) H))) := by
  intro pins s σ H xs us Q I r h
  obtain ⟨p, ys, rfl, h⟩ := h
  obtain ⟨u, rfl, rx⟩ := vals1 r
  cases rx
  rcases h with ⟨hq, q⟩ | ⟨hq, q⟩
  · obtain ⟨its, r', pl, hz⟩ := I.list hq
    have hlen := r'.length
    refine call_tuple_list pl.isList (fun h' kp => ?_) (by simp only [List.size_toArray] <;> omega)
    have I1 : Inv X pins σ H { s with heap := h' } := I.kept (t' := s.toks) kp
    have I2 : Inv X pins σ (upd H h'.objs.size (.tup ys)) { s with heap := h'.push { cls := .type "tuple", data := .seq its.toArray } } :=
      I1.laid (t' := s.toks) (fun b o e => Heap.get?_push_of_some _ e) (Nat.le_refl _) (show ObjOk X.prog X.w _ _ _ (.tup ys) from ⟨hz, its, r', IsTup.new _ _⟩)
    exact ⟨.ref h'.objs.size, _, I2, rfl, q _ (I1.hok.fresh (Nat.le_refl _))⟩
  · obtain ⟨its, r', pl, hz⟩ := I.tuple hq
    exact call_tuple_same pl ⟨.ref p, H, I, rfl, q⟩

/-! ### the call of a builtin's method: o.m(..) -/
/-- the value is of that builtin type -/
def tyV (K : PySem.W.Frag) (T : String) (x : V) (H : Hp) : Prop := match x with
  | .str _ => T = "str"
  | .int _ => T = "int"
  | .ref p => (T = "list" ∧ ∃ xs, SqL K H p xs) ∨ (T = "tuple" ∧ ∃ o, K.lookup p = some o ∧ o.cls = .type "tuple" ∧ o.dict = none) ∨
      (T = "dict" ∧ ((∃ kvs, H p = some (.dK kvs)) ∨ ∃ kvs, H p = some (.dT kvs))) ∨ (T = "set" ∧ ∃ S n, H p = some (.set S n))
  | _ => False
theorem tyV_is {pins : List (Addr × Obj)} {σ : St} {H : Hp} {s : Shared} {T : String} {x : V} {v : Value} (I : Inv X pins σ H s) (r : RelV x v) (ty : tyV X.K T x H) :
    s.TypeIs v T ∧ ∀ a, v = .ref a → ∃ ob, s.heap.get? a = some ob ∧ ob.dict = none := by
  cases x with
  | str z =>
    obtain ⟨t, rfl⟩ := r
    cases (show T = "str" from ty)
    exact ⟨typeIs_str s z t, fun _ e => nomatch e⟩
  | int i =>
    obtain ⟨t, rfl⟩ := r
    cases (show T = "int" from ty)
    exact ⟨typeIs_int s i t, fun _ e => nomatch e⟩
  | ref p =>
    cases r
    rcases ty with ⟨rfl, xs, hq⟩ | ⟨rfl, o, hk, hc, hd⟩ | ⟨rfl, hk⟩ | ⟨rfl, S, n, hk⟩
    · obtain ⟨its, _, pl, _⟩ := I.list hq
      refine ⟨pl.isList.typeIs, fun a e => ?_⟩
      cases e
      obtain ⟨o, n, e, c, hd, _⟩ := pl
      exact ⟨o, e, hd⟩
    · refine ⟨⟨o, I.kIn p o hk, hc⟩, fun a e => ?_⟩
      cases e
      exact ⟨o, I.kIn _ o hk, hd⟩
    · have z : ∃ o, s.heap.get? p = some o ∧ o.ExactDict := by
        rcases hk with ⟨kvs, hk⟩ | ⟨kvs, hk⟩
        · obtain ⟨_, _, _, _, o, _, _, e, ex, _⟩ := I.hok p _ hk
          exact ⟨o, e, ex⟩
        · obtain ⟨_, _, _, _, o, _, _, e, ex, _⟩ := I.hok p _ hk
          exact ⟨o, e, ex⟩
      obtain ⟨o, e, ex⟩ := z
      refine ⟨⟨o, e, ex.1⟩, fun a e2 => ?_⟩
      cases e2
      exact ⟨o, e, ex.2.1⟩
    · obtain ⟨o, _, _, _, e, ex, _⟩ := I.hok p _ hk
      refine ⟨⟨o, e, ex.1⟩, fun a e2 => ?_⟩
      cases e2
      exact ⟨o, e, ex.2.1⟩
  | _ => exact False.elim ty
def tBM (K : PySem.W.Frag) (T : String) (r : V → List V → Hp → VK → Prop) (to : TE) (t : TA) : TE := fun σ H Q => to σ H fun x H1 => tyV K T x H1 ∧ t σ H1 fun xs H2 => r x xs H2 Q
variable {o e : Expr} {es : List Expr} {to : TE} {t : TA} {name : Str} {apos cpos : Pos} {T id : String} {r : V → List V → Hp → VK → Prop}
theorem pe_bm (pa : PlainAttrs T) (slot : Slot T name id) (hty : typeOf (.builtin id) = pure (.type "method_descriptor")) (hm : MtR X id r) (ho : PE X o to) (ha : PA X (e :: es) t)
    (hbase : attributeBase o name X.env (eval o X.env) = eval o X.env := by rfl)
    (hfew : ((backTo cpos (starEach (e :: es) X.env)).all (fun x => !x.1) && (backToKw cpos (keywordEach [] X.env)).all (fun x => x.1.isSome)
      && decide ((e :: es).length + ([] : List Keyword).length + (if ([] : List Keyword).isEmpty then 0 else 1) < 30)) = true := by rfl)
    (hline : (apos.endLine == cpos.line) = true := by rfl) (hs : starEach (e :: es) X.env = (false, eval e X.env) :: starEach es X.env := by rfl) (hplain : (backTo cpos (starEach es X.env)).any (·.1) = false := by rfl) :
    PE X (.Call (.Attribute o name apos) (e :: es) [] cpos) (tBM X.K T r to t) := by
  intro pins s σ H Q I h
  refine wpAny_Call_method_late hbase hfew hline rfl (thn (ho pins s σ H _ I h) fun v s1 ⟨x, H1, I1, r1, ty, q1⟩ => ?_)
  obtain ⟨h1, h2⟩ := tyV_is I1 r1 ty
  refine ⟨T, id, pa, slot, hty, h1, h2, ?_⟩
  have hA := ha cpos pins s1 σ H1 _ I1 q1
  rw [hs] at hA ⊢
  refine Calls.callWith_builtin (by show (false || (backTo cpos (starEach es X.env)).any (·.1)) = false; rw [hplain] <;> rfl) (Calls.evalArgs_plain ?_)
  exact thn hA fun us s2 ⟨vs, H2, I2, r2, q2⟩ => hm pins s2 σ H2 x vs v us Q I2 r1 r2 q2
/- xs.append(e), list.index on a module's tuple .. are MtR facts of 06m -/
end
end L2

namespace L2
open PySem PySem.Spec PyProof.Rows

def MtM (X : Cx) (id : String) (r : V → List V → Hp → VK → Prop) : Prop :=
  ∀ (pins : List (Addr × Obj)) (s : Shared) (σ : St) (H : Hp) (x : V) (xs : List V) (v : Value) (us : List Value) (Q : VK), Inv X pins σ H s → RelV x v → Vals xs us → r x xs H Q →
    wpAny (model X.prog X.w) X.A (call (.builtin id) (v :: us)) (EP X pins σ Q) X.xe s

/-! ### lists of values -/
theorem Vals.one : ∀ {x : V} {us : List Value}, Vals [x] us → ∃ u, us = [u] ∧ RelV x u
  | _, _, .cons r .nil => ⟨_, rfl, r⟩
theorem Vals.eraseIdx : ∀ {xs : List V} {us : List Value} (i : Nat), Vals xs us → Vals (xs.eraseIdx i) (us.eraseIdx i)
  | _, _, _, .nil => .nil
  | _, _, 0, .cons _ t => t
  | _, _, i + 1, .cons r t => .cons r (Vals.eraseIdx i t)
theorem len_erase {α : Type} : ∀ (l : List α) (i : Nat), (l.eraseIdx i).length ≤ l.length
  | [], _ => Nat.le_refl _
  | _ :: _, 0 => Nat.le_succ _
  | _ :: r, i + 1 => Nat.succ_le_succ (len_erase r i)

section
variable {X : Cx} {pins : List (Addr × Obj)} {σ : St} {H : Hp} {s : Shared} {l b : Addr} {xs ys zs : List V}

/-! ### the two steps: a tracked list is rewritten, a new list is laid -/
theorem Inv.lset {its its' : List Value} {n : Nat} {f : Array Value → Array Value} {t' : Nat} (I : Inv X pins σ H s) (hH : H l = some (.lst xs))
    (e : s.heap.get? l = some { cls := .type "list", data := .seq its.toArray n }) (hf : f its.toArray = its'.toArray) (hv : Vals ys its') (hz : ys.length ≤ sizeLine) :
    Inv X pins σ (upd H l (.lst ys)) { s with heap := s.heap.update l (Obj.mapSeq f), toks := t' } := by
  have q := PySem.IsL.update e f
  rw [hf] at q
  refine I.write (x := l) (e := l) (by rw [hH]; exact trivial) (.inl rfl) (fun b' u hb hu => (Heap.get?_update_other s.heap (Obj.mapSeq f) (Ne.symm hb)).trans hu) ⟨_, q⟩ ?_
  exact ⟨hz, its', _, hv, q⟩
theorem Inv.lnew {its : List Value} {t' : Nat} (I : Inv X pins σ H s) (hv : Vals ys its) (hz : ys.length ≤ sizeLine) :
    Inv X pins σ (upd H s.heap.objs.size (.lst ys)) { s with heap := s.heap.push { cls := .type "list", data := .seq its.toArray }, toks := t' } :=
  I.laid (fun _ _ q => Heap.get?_push_of_some _ q) (Nat.le_refl _) ⟨hz, its, 0, hv, Heap.get?_push_size _ rfl⟩
theorem Inv.fresh (I : Inv X pins σ H s) : H s.heap.objs.size = none := I.hok.fresh (Nat.le_refl _)
theorem Inv.lstM (I : Inv X pins σ H s) (hH : H l = some (.lst xs)) : xs.length ≤ sizeLine ∧ ∃ (its : List Value) (n : Nat), Vals xs its ∧ xs.length = its.length ∧ s.heap.get? l = some { cls := .type "list", data := .seq its.toArray n } := by
  obtain ⟨z, its, n, r, e⟩ := I.hok l _ hH
  exact ⟨z, its, n, r, r.length, e⟩

theorem notLongL {n : Nat} (h : n ≤ sizeLine) : Builtin.List.listTooLong n = false := by
  unfold Builtin.List.listTooLong
  exact decide_eq_false (by omega)
end

section
variable {X : Cx}

/-! ### methods -/
def rAppend : V → List V → Hp → VK → Prop := fun x vs H Q => ∃ l xs y, x = .ref l ∧ vs = [y] ∧ H l = some (.lst xs) ∧ xs.length < sizeLine ∧ Q .non (upd H l (.lst (xs ++ [y])))
theorem mt_append : MtM X "list.append" rAppend := by
  intro pins s σ H x vs v us Q I rx rv h
  obtain ⟨l, xs, y, rfl, rfl, hH, hz, q⟩ := h
  cases rx
  obtain ⟨u, rfl, ru⟩ := rv.one
  obtain ⟨z, its, n, r, hl, e⟩ := I.lstM hH
  refine call_meets F.slot_list_append ⟨_, e, rfl⟩ F.entry_list_append (F.args_list_append_2 _ _) (PySem.list_append l its.toArray n u (by rw [List.size_toArray]; omega)) ⟨e, ?_⟩
  refine ⟨.non, _, I.lset (its' := its ++ [u]) hH e (by simp) (r.append (.cons ru .nil)) ?_, rfl, q⟩
  rw [List.length_append, List.length_singleton]
  omega

def rExtend : V → List V → Hp → VK → Prop := fun x vs H Q => ∃ l b xs zs, x = .ref l ∧ vs = [.ref b] ∧ H l = some (.lst xs) ∧ H b = some (.lst zs) ∧ xs.length + zs.length ≤ sizeLine ∧ Q .non (upd H l (.lst (xs ++ zs)))
theorem mt_extend : MtM X "list.extend" rExtend := by
  intro pins s σ H x vs v us Q I rx rv h
  obtain ⟨l, b, xs, zs, rfl, rfl, hH, hB, hz, q⟩ := h
  cases rx
  obtain ⟨u, rfl, ru⟩ := rv.one
  cases ru
  obtain ⟨z, its, n, r, hl, e⟩ := I.lstM hH
  obtain ⟨z2, its2, n2, r2, hl2, e2⟩ := I.lstM hB
  have hsz : its.toArray.size + its2.toArray.size ≤ sizeLine := by rw [List.size_toArray, List.size_toArray]; omega
  have hlong : ¬ (!its.toArray.isEmpty && Builtin.List.listTooLong (its.toArray.size + its2.toArray.size)) = true := by
    rw [notLongL hsz, Bool.and_false]
    exact Bool.false_ne_true
  refine call_meets F.slot_list_extend ⟨_, e, rfl⟩ F.entry_list_extend (F.args_list_extend_2 _ _)
    (AutoSeq1.list_extend_list_list_0 l its.toArray n b its2.toArray n2 hlong (by rw [List.size_toArray]; omega) (by omega)) ⟨e, e2, ?_⟩
  refine ⟨.non, _, I.lset (its' := its ++ its2) hH e (by simp) (r.append r2) ?_, rfl, q⟩
  rw [List.length_append]
  omega


def rPopAt : V → List V → Hp → VK → Prop := fun x vs H Q => ∃ l xs i k y, x = .ref l ∧ vs = [.int i] ∧ H l = some (.lst xs) ∧ -(2 ^ 63) ≤ i ∧ i < 2 ^ 63 ∧ seqIndex? i xs.length = some k ∧ xs[k]? = some y ∧ Q y (upd H l (.lst (xs.eraseIdx k)))
theorem mt_popAt : MtM X "list.pop" rPopAt := by
  intro pins s σ H x vs v us Q I rx rv h
  obtain ⟨l, xs, i, k, y, rfl, rfl, hH, h1, h2, hk, hy, q⟩ := h
  cases rx
  obtain ⟨u, rfl, ru⟩ := rv.one
  obtain ⟨t, rfl⟩ := ru
  obtain ⟨z, its, n, r, hl, e⟩ := I.lstM hH
  obtain ⟨w, hw, rw'⟩ := r.get hy
  refine call_meets F.slot_list_pop ⟨_, e, rfl⟩ F.entry_list_pop (F.args_list_pop_2 _ _)
    (MeetsSeq.list_pop_at l its.toArray n i t k w (fitsIndex_both h1 h2) (by rw [List.size_toArray, ← hl]; exact hk) (by rw [← Array.getElem?_toList]; exact hw) (by rw [List.size_toArray]; omega)) ⟨e, ?_⟩
  refine ⟨y, _, I.lset (its' := its.eraseIdx k) hH e ?_ (r.eraseIdx k) ?_, rw', q⟩
  · show its.toArray.eraseIdxIfInBounds k = (its.eraseIdx k).toArray
    rw [List.eraseIdxIfInBounds_toArray]
  · have := len_erase xs k
    omega



/-! ### list + list, list += list, list * int -/
def rCat : R2 := fun x y H Q => ∃ l b xs zs, x = .ref l ∧ y = .ref b ∧ H l = some (.lst xs) ∧ H b = some (.lst zs) ∧ xs.length + zs.length ≤ sizeLine ∧ ∀ p, H p = none → Q (.ref p) (upd H p (.lst (xs ++ zs)))
theorem op_cat : OpR X (binaryOp .Add) rCat := by
  intro pins s σ H x y v u Q I rx ry h
  obtain ⟨l, b, xs, zs, rfl, rfl, hH, hB, hz, q⟩ := h
  cases rx
  cases ry
  obtain ⟨z, its, n, r, hl, e⟩ := I.lstM hH
  obtain ⟨z2, its2, n2, r2, hl2, e2⟩ := I.lstM hB
  refine PySem.P.add_list e e2 ?_ (by rw [List.size_toArray, List.size_toArray]; omega)
  have ea : its.toArray ++ its2.toArray = (its ++ its2).toArray := by simp
  rw [ea]
  exact ⟨.ref _, _, I.lnew (t' := s.toks) (r.append r2) (by rw [List.length_append]; omega), rfl, q _ I.fresh⟩

/-! ### del xs[i] -/
end

/-! ### xs[a:b] = ys -/
section
variable {prog : Program} {w : World} {A : Around} {E : Value → Shared → Prop} {s : Shared}
set_option maxRecDepth 100000 in
end

section
variable {X : Cx}
end
end L2

namespace L2
open PySem PySem.Spec PyProof.Rows

/-! ### lists of pairs as tables -/
section
variable {κ : Type} [DecidableEq κ]
def valV (kvs : List (κ × V)) (k : κ) : Option V := (kvs.find? fun kv => decide (kv.1 = k)).map (·.2)
/-- in its place, or at the end -/
def putK (kvs : List (κ × V)) (k : κ) (v : V) : List (κ × V) :=
  if (kvs.any fun kv => decide (kv.1 = k)) = true then kvs.map (fun kv => if kv.1 = k then (kv.1, v) else kv) else kvs ++ [(k, v)]

theorem valV_pos {p : κ × V} {r : List (κ × V)} {k : κ} (e : p.1 = k) : valV (p :: r) k = some p.2 := by simp [valV, List.find?_cons, e]
theorem valV_neg {p : κ × V} {r : List (κ × V)} {k : κ} (e : ¬ p.1 = k) : valV (p :: r) k = valV r k := by simp [valV, List.find?_cons, e]
theorem valV_any (k : κ) : ∀ kvs : List (κ × V), (kvs.any fun kv => decide (kv.1 = k)) = (valV kvs k).isSome
  | [] => rfl
  | p :: r => by
    rw [List.any_cons]
    by_cases e : p.1 = k
    · simp only [valV_pos e, decide_eq_true e, Bool.true_or, Option.isSome_some]
    · rw [valV_neg e, decide_eq_false e, Bool.false_or]; exact valV_any k r
theorem length_putK (kvs : List (κ × V)) (k : κ) (v : V) : (putK kvs k v).length ≤ kvs.length + 1 := by
  unfold putK
  split
  · rw [List.length_map]; omega
  · rw [List.length_append, List.length_cons, List.length_nil]; omega

theorem RelO.isSome_eq {o : Option V} {u : Option Value} (r : RelO o u) : o.isSome = u.isSome := by
  cases o with
  | none => cases u with
    | none => rfl
    | some _ => exact (show False from r).elim
  | some _ => cases u with
    | none => exact (show False from r).elim
    | some _ => rfl

/-- raw tables of the same keys -/
theorem KV.val {kvs : List (κ × V)} {vs : List (κ × Value)} (r : KV kvs vs) (k : κ) : RelO (valV kvs k) (valueAt vs k) := by
  unfold KV at r
  induction r with
  | nil => exact True.intro
  | @cons p q ps qs h t ih =>
    obtain ⟨h1, h2⟩ := h
    by_cases e : p.1 = k
    · have e' : q.1 = k := h1.symm.trans e
      have b : valueAt (q :: qs) k = some q.2 := by simp [valueAt, List.find?_cons, e']
      rw [valV_pos e, b]; exact h2
    · have e' : ¬ q.1 = k := fun z => e (h1.trans z)
      have b : valueAt (q :: qs) k = valueAt qs k := by simp [valueAt, List.find?_cons, e']
      rw [valV_neg e, b]; exact ih
theorem KV.any {kvs : List (κ × V)} {vs : List (κ × Value)} (r : KV kvs vs) (k : κ) : (kvs.any fun kv => decide (kv.1 = k)) = vs.any fun kv => decide (kv.1 = k) := by
  unfold KV at r
  induction r with
  | nil => rfl
  | cons h t ih => rw [List.any_cons, List.any_cons, ih, h.1]
theorem KV.repl {kvs : List (κ × V)} {vs : List (κ × Value)} (r : KV kvs vs) (k : κ) {y : V} {u : Value} (ry : RelV y u) :
    KV (kvs.map fun kv => if kv.1 = k then (kv.1, y) else kv) (vs.map fun kv => if kv.1 = k then (kv.1, u) else kv) := by
  unfold KV at r ⊢
  induction r with
  | nil => exact .nil
  | @cons p q ps qs h t ih =>
    rw [List.map_cons, List.map_cons]
    refine .cons ?_ ih
    obtain ⟨h1, h2⟩ := h
    by_cases e : p.1 = k
    · rw [if_pos e, if_pos (h1.symm.trans e)]; exact ⟨h1, ry⟩
    · rw [if_neg e, if_neg (fun z => e (h1.trans z))]; exact ⟨h1, h2⟩
theorem KV.put {kvs : List (κ × V)} {vs : List (κ × Value)} (r : KV kvs vs) (k : κ) {y : V} {u : Value} (ry : RelV y u) : KV (putK kvs k y) (stored vs k u) := by
  unfold putK stored
  rw [r.any k]
  by_cases e : (vs.any fun kv => decide (kv.1 = k)) = true
  · rw [if_pos e, if_pos e]; exact r.repl k ry
  · rw [if_neg e, if_neg e]; exact Paired.snoc r ⟨rfl, ry⟩
theorem KV.length {kvs : List (κ × V)} {vs : List (κ × Value)} (r : KV kvs vs) : kvs.length = vs.length := Paired.length r
end


/-! ### a tracked dict, its keys ints and texts or tuples of these -/
theorem kV_is {P : Program} {w : World} {k : Key} {u : Value} (r : RelV (kV k) u) : (mixKind P w).is k u = true := by
  cases k with
  | inl i => obtain ⟨t, e⟩ := (show ∃ t, u = Value.int i t from r); subst e; exact mixKind_int P w i t
  | inr x => obtain ⟨t, e⟩ := (show ∃ t, u = Value.str x t from r); subst e; exact mixKind_str P w x t
theorem items_are {P : Program} {w : World} : ∀ {ks : List Key} {us : List Value}, Vals (ks.map kV) us → ItemsAre (mixKind P w) ks us
  | [], _, r => by rw [List.map_nil] at r; cases r; exact .nil
  | k :: ks, _, r => by
    rw [List.map_cons] at r
    cases r with
    | cons h t => exact .cons (kV_is h) (items_are t)

/-- raw entries of a dict with tuple keys -/
abbrev KT (H : Hp) : List (List Key × V) → List (List Key × Addr × Value) → Prop := Paired fun p q => p.1 = q.1 ∧ H q.2.1 = some (.tup (p.1.map kV)) ∧ RelV p.2 q.2.2
theorem KT.val {H : Hp} {kvs : List (List Key × V)} {xs : List (List Key × Addr × Value)} (r : KT H kvs xs) (k : List Key) : RelO (valV kvs k) ((atKey xs k).map (·.2)) := by
  induction r with
  | nil => exact True.intro
  | @cons p q ps qs h t ih =>
    obtain ⟨h1, _, h2⟩ := h
    by_cases e : p.1 = k
    · have e' : q.1 = k := h1.symm.trans e
      have b : atKey (q :: qs) k = some q.2 := by simp [atKey, List.find?_cons, e']
      rw [valV_pos e, b]; exact h2
    · have e' : ¬ q.1 = k := fun z => e (h1.trans z)
      have b : atKey (q :: qs) k = atKey qs k := by simp [atKey, List.find?_cons, e']
      rw [valV_neg e, b]; exact ih
theorem KT.repl {H : Hp} {kvs : List (List Key × V)} {xs : List (List Key × Addr × Value)} (r : KT H kvs xs) (k : List Key) {y : V} {u : Value} (ry : RelV y u) :
    KT H (kvs.map fun kv => if kv.1 = k then (kv.1, y) else kv) (xs.map (putAt k u)) := by
  induction r with
  | nil => exact .nil
  | @cons p q ps qs h t ih =>
    rw [List.map_cons, List.map_cons]
    refine .cons ?_ ih
    obtain ⟨h1, h2, h3⟩ := h
    unfold putAt
    by_cases e : p.1 = k
    · rw [if_pos e, if_pos (h1.symm.trans e)]; exact ⟨h1, h2, ry⟩
    · rw [if_neg e, if_neg (fun z => e (h1.trans z))]; exact ⟨h1, h2, h3⟩
theorem KT.put {H : Hp} {kvs : List (List Key × V)} {xs : List (List Key × Addr × Value)} (r : KT H kvs xs) (k : List Key) {b : Addr} {y : V} {u : Value} (hb : H b = some (.tup (k.map kV))) (ry : RelV y u) :
    KT H (putK kvs k y) (storedH xs k b u) := by
  have e : (kvs.any fun kv => decide (kv.1 = k)) = (atKey xs k).isSome := by
    rw [valV_any, (r.val k).isSome_eq, Option.isSome_map]
  unfold putK storedH
  rw [e]
  by_cases q : (atKey xs k).isSome = true
  · rw [if_pos q, if_pos q]; exact r.repl k ry
  · rw [if_neg q, if_neg q]; exact Paired.snoc r ⟨rfl, hb, ry⟩
theorem KT.keeps {H H' : Hp} {kvs : List (List Key × V)} {xs : List (List Key × Addr × Value)} (r : KT H kvs xs) (ht : ∀ b ys, H b = some (.tup ys) → H' b = some (.tup ys)) : KT H' kvs xs :=
  Paired.mapP r fun _ _ z => ⟨z.1, ht _ _ z.2.1, z.2.2⟩

section
variable {P : Program} {w : World} {H : Hp} {h : Heap} {a : Addr}
theorem rd_of {u : HO} (ok : HOk P w H h) (e : Rd H a u) : ObjOk P w H h a u := e.ok ok
theorem dk_rd {kvs : List (Key × V)} (ok : HOk P w H h) (e : Rd H a (.dK kvs)) : kvs.length ≤ sizeLine ∧ (a == sysModules) = false ∧ ∃ vs, KV kvs vs ∧ h.DictOf (mixKind P w) a vs :=
  show ObjOk P w H h a (.dK kvs) from rd_of ok e
theorem dk_of {kvs : List (Key × V)} (ok : HOk P w H h) (e : H a = some (.dK kvs)) : kvs.length ≤ sizeLine ∧ (a == sysModules) = false ∧ ∃ vs, KV kvs vs ∧ h.DictOf (mixKind P w) a vs := dk_rd ok (.inl e)
/-- a tracked tuple of ints and texts is a key -/
theorem key_of {ks : List Key} (ok : HOk P w H h) (e : H a = some (.tup (ks.map kV))) : (tupleKind (mixKind P w)).is h ks a := by
  obtain ⟨_, its, r, o, h1, h2, n, h3⟩ := (show ObjOk P w H h a (.tup (ks.map kV)) from ok a _ e)
  exact ⟨o, its.toArray, n, h1, h2, h3, by simpa using items_are r⟩
theorem dt_rd {kvs : List (List Key × V)} (ok : HOk P w H h) (e : Rd H a (.dT kvs)) : kvs.length ≤ sizeLine ∧ (a == sysModules) = false ∧
    ∃ xs, KT H kvs xs ∧ h.DictOfH (tupleKind (mixKind P w)) a xs := by
  obtain ⟨z, y, xs, r, o, es, ep, h1, h2, h3, h4, h5⟩ := (show ObjOk P w H h a (.dT kvs) from rd_of ok e)
  refine ⟨z, y, xs, r, o, es, ep, h1, h2, h3, h4, fun x hx => ?_, h5⟩
  have all : ∀ {l : List (List Key × V)} {m : List (List Key × Addr × Value)}, KT H l m → ∀ x ∈ m, (tupleKind (mixKind P w)).is h x.1 x.2.1 := by
    intro l m q
    induction q with
    | nil => intro x hx; exact nomatch hx
    | @cons p q ps qs hq t ih =>
      intro x hx
      rcases List.mem_cons.mp hx with e | hx
      · subst e
        exact key_of ok (by rw [← hq.1]; exact hq.2.1)
      · exact ih x hx
  exact all r x hx
theorem dt_of {kvs : List (List Key × V)} (ok : HOk P w H h) (e : H a = some (.dT kvs)) : kvs.length ≤ sizeLine ∧ (a == sysModules) = false ∧
    ∃ xs, KT H kvs xs ∧ h.DictOfH (tupleKind (mixKind P w)) a xs := dt_rd ok (.inl e)
end

/-- what the dict at a holds at the key y -/
def DGet (H : Hp) (a : Addr) (y : V) (r : Option V) : Prop :=
  (∃ kvs k, Rd H a (.dK kvs) ∧ y = kV k ∧ r = valV kvs k) ∨ ∃ kvs k b, Rd H a (.dT kvs) ∧ y = .ref b ∧ H b = some (.tup (k.map kV)) ∧ r = valV kvs k
/-- the heap behind a[y] = v -/
def DPut (H : Hp) (a : Addr) (y v : V) (H' : Hp) : Prop :=
  (∃ kvs k, H a = some (.dK kvs) ∧ y = kV k ∧ kvs.length < sizeLine ∧ H' = upd H a (.dK (putK kvs k v))) ∨
  ∃ kvs k b, H a = some (.dT kvs) ∧ y = .ref b ∧ H b = some (.tup (k.map kV)) ∧ kvs.length < sizeLine ∧ H' = upd H a (.dT (putK kvs k v))
theorem DGet.k {H : Hp} {a : Addr} {kvs : List (Key × V)} {k : Key} (e : H a = some (.dK kvs)) : DGet H a (kV k) (valV kvs k) := .inl ⟨kvs, k, .inl e, rfl, rfl⟩
theorem DPut.k {H : Hp} {a : Addr} {kvs : List (Key × V)} {k : Key} {v : V} (e : H a = some (.dK kvs)) (hl : kvs.length < sizeLine) : DPut H a (kV k) v (upd H a (.dK (putK kvs k v))) := .inl ⟨kvs, k, e, rfl, hl, rfl⟩


section
variable {X : Cx} {pins : List (Addr × Obj)} {σ : St} {H : Hp} {s : Shared} {a : Addr} {y v : V} {u r : Value} {o : Option V} {A : Around} {E : Value → Shared → Prop}

theorem Inv.big (I : Inv X pins σ H s) : sysModules < s.heap.objs.size := by
  have h : mainGlobals < s.heap.objs.size := (I.mod.glob.keeps I.bk).lt
  exact Nat.lt_trans (by decide) h

/-- d[y], there -/
theorem d_getItem {Q : Value → Shared → Prop} (hu : A.units + 1 < cLine) (I : Inv X pins σ H s) (g : DGet H a y (some v)) (ry : RelV y u) (h : ∀ w' s', Inv X pins σ H s' → RelV v w' → Q w' s') :
    wpAny (model X.prog X.w) A (getItem (.ref a) u) Q E s := by
  rcases g with ⟨kvs, k, e, ey, l⟩ | ⟨kvs, k, b, e, ey, eb, l⟩
  · subst ey
    obtain ⟨z, hd, vs, rel, dd⟩ := dk_rd I.hok e
    obtain ⟨w', hw, rw'⟩ := RelO.some_of (v := v) (o := valueAt vs k) (by rw [l]; exact rel.val k)
    exact wpAny_getItem_of (kV_is ry) dd.mapOf hw (h w' _ (I.tok _) rw')
  · subst ey
    cases (show u = Value.ref b from ry)
    obtain ⟨z, hd, xs, rel, dd⟩ := dt_rd I.hok e
    obtain ⟨w', hw, rw'⟩ := RelO.some_of (v := v) (o := (atKey xs k).map (·.2)) (by rw [l]; exact rel.val k)
    obtain ⟨p, hp, hp2⟩ := Option.map_eq_some_iff.mp hw
    refine wpAny_getItem_heap (tupleKind_room_in1 hu) (key_of I.hok eb) dd hp ?_
    rw [hp2]
    exact h w' _ (I.tok _) rw'
theorem d_notIn {Q : Value → Shared → Prop} (hu : A.units + 1 < cLine) (I : Inv X pins σ H s) (g : DGet H a y o) (ry : RelV y u) (h : ∀ s', Inv X pins σ H s' → Q (.bool (!o.isSome)) s') :
    wpAny (model X.prog X.w) A (compareOp .NotIn u (.ref a)) Q E s := by
  rcases g with ⟨kvs, k, e, ey, l⟩ | ⟨kvs, k, b, e, ey, eb, l⟩
  · subst ey
    obtain ⟨z, hd, vs, rel, dd⟩ := dk_rd I.hok e
    refine wpAny_notIn_of (kV_is ry) hd dd.mapOf ?_
    rw [← (rel.val k).isSome_eq, ← l]
    exact h _ (I.tok _)
  · subst ey
    cases (show u = Value.ref b from ry)
    obtain ⟨z, hd, xs, rel, dd⟩ := dt_rd I.hok e
    refine wpAny_notIn_heap (tupleKind_room_in1 hu) (key_of I.hok eb) hd dd ?_
    have q := (rel.val k).isSome_eq
    rw [Option.isSome_map] at q
    rw [← q, ← l]
    exact h _ (I.tok _)
/-- a dict's object is replaced -/
theorem d_write {h' : Heap} {t' : Nat} {ob : HO} (I : Inv X pins σ H s) (mu : Mut (H a)) (hs : Heap.SameBut a s.heap h') (he : ∃ q, h'.get? a = some q) (new : ObjOk X.prog X.w (upd H a ob) h' a ob) :
    Inv X pins σ (upd H a ob) { s with heap := h', toks := t' } :=
  I.write (x := a) (e := a) mu (.inl rfl) (fun b q hb z => (hs.2 b hb).trans z) he new
theorem dk_new {P : Program} {w : World} {H' : Hp} {h' : Heap} {kvs : List (Key × V)} {vs : List (Key × Value)} (z : kvs.length ≤ sizeLine) (hd : (a == sysModules) = false) (rel : KV kvs vs) (dd : h'.DictOf (mixKind P w) a vs) :
    ObjOk P w H' h' a (.dK kvs) := ⟨z, hd, vs, rel, dd⟩
/-- d[y] = v -/
theorem d_setItem {H' : Hp} {Q : Unit → Shared → Prop} (hu : A.units + 1 < cLine) (I : Inv X pins σ H s) (g : DPut H a y v H') (ry : RelV y u) (rv : RelV v r) (h : ∀ s', Inv X pins σ H' s' → Q () s') :
    wpAny (model X.prog X.w) A (setItem (.ref a) u r) Q E s := by
  rcases g with ⟨kvs, k, e, ey, l, eH⟩ | ⟨kvs, k, b, e, ey, eb, l, eH⟩
  · subst ey eH
    obtain ⟨z, hd, vs, rel, dd⟩ := dk_of I.hok e
    have hz : vs.length ≤ sizeLine := by rw [← rel.length]; exact z
    have hl : (putK kvs k v).length ≤ sizeLine := by have := length_putK kvs k v; omega
    refine wpAny_setItem_pairs (hsz := hz) (kV_is ry) dd fun h' dd' hs => h _ ?_
    have he : ∃ q, h'.get? a = some q := let ⟨q, _, _, hq, _⟩ := dd'; ⟨q, hq⟩
    exact d_write I (by rw [e]; exact True.intro) hs he (dk_new hl hd (rel.put k rv) dd')
  · subst ey eH
    cases (show u = Value.ref b from ry)
    obtain ⟨z, hd, xs, rel, dd⟩ := dt_of I.hok e
    have hz : xs.length ≤ sizeLine := by rw [← Paired.length rel]; exact z
    have hl : (putK kvs k v).length ≤ sizeLine := by have := length_putK kvs k v; omega
    refine wpAny_setItem_heap (hsz := hz) (tupleKind_room_in1 hu) (key_of I.hok eb) dd fun h' dd' hs => h _ ?_
    obtain ⟨q, es, ep, hq, h2, h3, h4, _, h5⟩ := dd'
    refine d_write I (by rw [e]; exact True.intro) hs ⟨q, hq⟩ ⟨hl, hd, _, (rel.put k eb rv).keeps fun c ys ec => ?_, q, es, ep, hq, h2, h3, h4, h5⟩
    rw [upd_ne (ne_of ec e (fun z => nomatch z))]
    exact ec
end

section
variable {X : Cx} {pins : List (Addr × Obj)} {σ : St} {H : Hp} {s : Shared} {a : Addr} {kvs : List (Key × V)} {k : Key} {u : Value} {A : Around} {E : Value → Shared → Prop}
end


/-! ### readings and rules -/
/-- the element of a subscription, not a slice -/
def NoSl (i : Expr) : Prop := ∀ ov iv, subscripted i false ov iv = operate [ov, iv] (getItem ov iv)
theorem subD_of {prog : Program} {w : World} {A : Around} {E : Value → Shared → Prop} {s : Shared} {env : Env} {value slice : Expr} {pos : Pos} {T id : String} {Q : Value → Shared → Prop}
    (hl : typeLookup (.type T) "__getitem__" = pure (some (.builtin id))) (hs : NoSl slice)
    (h : wpAny (model prog w) A (eval value env) (fun o s₁ => wpAny (model prog w) A (eval slice env) (fun i s₂ => s₂.TypeIs o T ∧ wpAny (model prog w) A (getItem o i) Q E s₂) E s₁) E s) :
    wpAny (model prog w) A (eval (.Subscript value slice pos) env) Q E s := by
  refine Subscript_ (wpAny_mono h (fun o s₁ h₁ => wpAny_mono h₁ (fun i s₂ h₂ => ?_) fun _ _ x => x) fun _ _ x => x)
  obtain ⟨hT, h₂⟩ := h₂
  unfold subscriptTail
  refine wpAny_bind ?_
  rw [getitemInPython_of_ne hT.not_modules]
  refine wpAny_bind (wpAny_specialOf hT hl ?_)
  have fin : wpAny (model prog w) A (subscripted slice false o i) (fun r s₃ => wpAny (model prog w) A (letTemporaryGo value o r >>= fun _ => pure r) Q E s₃) E s₂ := by
    rw [hs o i]
    exact wpAny_operating (wpAny_mono h₂ (fun r s₃ h₃ => wpAny_bind (wpAny_letTemporaryGo (wpAny_pure h₃))) fun _ _ x => x)
  first
    | exact wpAny_pure (wpAny_bind fin)
    | exact wpAny_bind (wpAny_pure (wpAny_bind fin))
    | exact wpAny_bind fin

theorem dict_typeIs {X : Cx} {pins : List (Addr × Obj)} {σ : St} {H : Hp} {s : Shared} {a : Addr} {y : V} {o : Option V} (I : Inv X pins σ H s) (g : DGet H a y o) : s.TypeIs (.ref a) "dict" := by
  rcases g with ⟨kvs, k, e, _, _⟩ | ⟨kvs, k, b, e, _, _, _⟩
  · obtain ⟨_, _, vs, _, dd⟩ := dk_rd I.hok e
    exact dd.typeIs
  · obtain ⟨_, _, xs, _, dd⟩ := dt_rd I.hok e
    exact dd.typeIs

/-- d[y] -/
def tDGet (td ty : TE) : TE := fun σ H Q => td σ H fun x H1 => ty σ H1 fun y H2 => ∃ a v, x = .ref a ∧ DGet H2 a y (some v) ∧ Q v H2
def tDNotIn (ty td : TE) : TE := fun σ H Q => ty σ H fun y H1 => td σ H1 fun x H2 => ∃ a o, x = .ref a ∧ DGet H2 a y o ∧ Q (.bl (!o.isSome)) H2
/-- d[y] = v -/
def sDPut (td ty tv : TE) : TS := fun D σ H => tv σ H fun v H1 => td σ H1 fun x H2 => ty σ H2 fun y H3 => ∃ a H4, x = .ref a ∧ DPut H3 a y v H4 ∧ D.nx σ H4

section
variable {X : Cx} {o i e value : Expr} {pos pos' tpos : Pos} {td ty tv : TE}
theorem pe_dget (hu : X.A.units + 1 < cLine) (ho : PE X o td) (hi : PE X i ty) (hs : NoSl i) : PE X (.Subscript o i pos) (tDGet td ty) := by
  intro pins s σ H Q I h
  refine subD_of PySem.F.slot_dict_getitem.lookup hs (thn (ho pins s σ H _ I h) fun u s1 ⟨x, H1, I1, rx, q1⟩ => thn (hi pins s1 σ H1 _ I1 q1) fun iv s2 ⟨y, H2, I2, ry, a, v, ex, g, q2⟩ => ?_)
  subst ex
  obtain rfl : u = Value.ref a := rx
  exact ⟨dict_typeIs I2 g, d_getItem hu I2 g ry fun w' s3 I3 rw' => ⟨v, H2, I3, rw', q2⟩⟩
theorem pc_dnotin (hu : X.A.units + 1 < cLine) (hi : PE X i ty) (ho : PE X o td) : PC X .NotIn i o (tDNotIn ty td) := by
  intro pins s σ H Q I h
  refine thn (hi pins s σ H _ I h) fun iv s1 ⟨y, H1, I1, ry, q1⟩ => thn (ho pins s1 σ H1 _ I1 q1) fun u s2 ⟨x, H2, I2, rx, a, ov, ex, g, q2⟩ => ?_
  subst ex
  obtain rfl : u = Value.ref a := rx
  exact d_notIn hu I2 g ry fun s3 I3 => ⟨.bl (!ov.isSome), H2, I3, rfl, q2⟩
theorem ps_dput (hu : X.A.units + 1 < cLine) (ho : PE X o td) (hi : PE X i ty) (hv : PE X value tv) (hs : swapsWith value (some (.Subscript o i pos')) pos.line X.env = pure false) :
    PS X (.Assign [.Subscript o i pos'] value pos) (sDPut td ty tv) := by
  intro pins s σ H D I h
  refine wpAny_Assign_Subscript (thn (hv pins s σ H _ I h) fun r s1 ⟨v, H1, I1, rv, q1⟩ => thn (ho pins s1 σ H1 _ I1 q1) fun u s2 ⟨x, H2, I2, rx, q2⟩ => thn (hi pins s2 σ H2 _ I2 q2) fun iv s3 ⟨y, H3, I3, ry, a, H4, ex, g, q3⟩ => ?_) hs
  subst ex
  obtain rfl : u = Value.ref a := rx
  exact d_setItem hu I3 g ry rv fun s4 I4 => ⟨σ, H4, I4, q3⟩
end


/-! ### displays -/
theorem dk_empty {P : Program} {w : World} {H : Hp} (h : Heap) (hb : sysModules < h.objs.size) : ObjOk P w H (h.push { cls := .type "dict", data := .dict #[] }) h.objs.size (.dK []) :=
  ⟨Nat.zero_le _, beq_eq_false_iff_ne.mpr (Ne.symm (Nat.ne_of_lt hb)), [], .nil, Heap.DictOf.new h⟩
/-- {}, to be a dict of the kind that is wanted -/
def tDNewK : TE := fun _ H Q => ∀ p, H p = none → Q (.ref p) (upd H p (.dK []))
section
variable {X : Cx} {pos : Pos}
theorem pe_dnewK : PE X (.Dict [] [] pos) tDNewK := fun pins s σ H Q I h =>
  wpAny_Dict_empty ⟨.ref s.heap.objs.size, _, I.laid (a := s.heap.objs.size) (o := .dK []) (t' := s.toks) (fun _ _ q => Heap.get?_push_of_some _ q) (Nat.le_refl _) (dk_empty s.heap I.big), rfl, h _ (I.hok.fresh (Nat.le_refl _))⟩
end

/-- the pairs of a display, from the left -/
def tPairs : List (TE × TE) → St → Hp → (List (V × V) → Hp → Prop) → Prop
  | [], _, H, Q => Q [] H
  | (tk, tv) :: r, σ, H, Q => tk σ H fun x H1 => tv σ H1 fun y H2 => tPairs r σ H2 fun ps H3 => Q ((x, y) :: ps) H3
abbrev VV : List (V × V) → List (Value × Value) → Prop := Paired fun p q => RelV p.1 q.1 ∧ RelV p.2 q.2
def PPs (X : Cx) (pos : Pos) (keys : List (Option Expr)) (values : List Expr) (trs : List (TE × TE)) : Prop :=
  ∀ (pins : List (Addr × Obj)) (s : Shared) (σ : St) (H : Hp) (Q : List (V × V) → Hp → Prop), Inv X pins σ H s → tPairs trs σ H Q →
    wpAny (model X.prog X.w) X.A (evalPairs (pairTrees keys values X.env pos)) (fun vs s' => ∃ ps H', Inv X pins σ H' s' ∧ VV ps vs ∧ Q ps H') X.xe s
theorem pps_nil {X : Cx} {pos : Pos} : PPs X pos [] [] [] := fun pins s σ H Q I h => pairTrees_nil_walk ⟨[], H, I, .nil, h⟩
theorem pps_cons {X : Cx} {pos : Pos} {k v : Expr} {ks : List (Option Expr)} {vs : List Expr} {tk tv : TE} {trs : List (TE × TE)} (hk : PE X k tk) (hv : PE X v tv) (hr : PPs X pos ks vs trs) :
    PPs X pos (some k :: ks) (v :: vs) ((tk, tv) :: trs) := fun pins s σ H Q I h =>
  pairTrees_cons_walk (thn (hk pins s σ H _ I h) fun u s1 ⟨x, H1, I1, rx, q1⟩ => thn (hv pins s1 σ H1 _ I1 q1) fun w2 s2 ⟨y, H2, I2, ry, q2⟩ =>
    thn (hr pins s2 σ H2 _ I2 q2) fun ws s3 ⟨ps, H3, I3, rel, q3⟩ => ⟨(x, y) :: ps, H3, I3, .cons ⟨rx, ry⟩ rel, q3⟩)

def mergeK (kvs more : List (Key × V)) : List (Key × V) := more.foldl (fun acc kv => putK acc kv.1 kv.2) kvs
theorem KV.merge : ∀ {more : List (Key × V)} {rs : List (Key × Value)} {kvs : List (Key × V)} {vs : List (Key × Value)}, KV more rs → KV kvs vs → KV (mergeK kvs more) (merged vs rs) := by
  intro more rs kvs vs r
  unfold KV at r
  induction r generalizing kvs vs with
  | nil => intro q; exact q
  | @cons p q ps qs h t ih =>
    intro r0
    have e : KV (putK kvs p.1 p.2) (stored vs q.1 q.2) := by
      have := r0.put p.1 h.2
      rw [← h.1]; exact this
    exact ih e
theorem length_mergeK : ∀ (more kvs : List (Key × V)), (mergeK kvs more).length ≤ kvs.length + more.length
  | [], kvs => by show kvs.length ≤ kvs.length + 0; omega
  | p :: r, kvs => by
    have h1 := length_mergeK r (putK kvs p.1 p.2)
    have h2 := length_putK kvs p.1 p.2
    show (mergeK (putK kvs p.1 p.2) r).length ≤ _
    rw [List.length_cons]; omega
theorem carries_of {P : Program} {w : World} : ∀ {kvs : List (Key × V)} {ws : List (Value × Value)}, VV (kvs.map fun kv => (kV kv.1, kv.2)) ws → ∃ rs, Carries (mixKind P w) ws rs ∧ KV kvs rs
  | [], _, r => by rw [List.map_nil] at r; cases r; exact ⟨[], True.intro, .nil⟩
  | p :: kvs, _, r => by
    rw [List.map_cons] at r
    cases r with
    | @cons a b as bs h t =>
      obtain ⟨rs, c, q⟩ := carries_of (P := P) (w := w) t
      obtain ⟨b1, b2⟩ := b
      exact ⟨(p.1, b2) :: rs, ⟨kV_is h.1, rfl, c⟩, .cons ⟨rfl, h.2⟩ q⟩
/-- {k: v, ..} with keys ints and texts; the new dict stands empty while the pairs are made -/
def tDisp (trs : List (TE × TE)) : TE := fun σ H Q => ∀ p, H p = none → tPairs trs σ (upd H p (.dK [])) fun ps H2 => H2 p = some (.dK []) ∧ ∃ kvs : List (Key × V), ps = kvs.map (fun kv => (kV kv.1, kv.2)) ∧ kvs.length ≤ 15 ∧ Q (.ref p) (upd H2 p (.dK (mergeK [] kvs)))
theorem pe_disp {X : Cx} {pos : Pos} {keys : List (Option Expr)} {values : List Expr} {trs : List (TE × TE)} (h : PPs X pos keys values trs) (hall : keys.all (·.isSome) = true) (hl : keys.length = values.length) (h0 : keys ≠ [])
    (h15 : keys.length ≤ 15) : PE X (.Dict keys values pos) (tDisp trs) := by
  intro pins s σ H Q I q
  have hn := I.hok.fresh (Nat.le_refl s.heap.objs.size)
  have I1 := I.laid (a := s.heap.objs.size) (o := .dK []) (h' := s.heap.push { cls := .type "dict", data := .dict #[] }) (t' := s.toks) (fun _ _ q => Heap.get?_push_of_some _ q) (Nat.le_refl _) (dk_empty s.heap I.big)
  refine wpAny_Dict_walk (knd := mixKind X.prog X.w) hall hl h0 h15 (thn (h pins _ σ _ _ I1 (q _ hn)) fun ws s2 ⟨ps, H2, I2, rel, e, kvs, ep, lk, q2⟩ => ?_)
  subst ep
  obtain ⟨rs, c, rk⟩ := carries_of (P := X.prog) (w := X.w) rel
  obtain ⟨z, hd, vs0, r0, dd⟩ := dk_of I2.hok e
  cases r0
  refine ⟨rs, c, dd, fun h' dd' hs => ⟨.ref s.heap.objs.size, _, ?_, rfl, q2⟩⟩
  have hz : (mergeK [] kvs).length ≤ sizeLine := by
    have h1 := length_mergeK kvs []
    rw [List.length_nil] at h1
    rw [sizeLine_eq]; omega
  have he : ∃ q, h'.get? s.heap.objs.size = some q := let ⟨q, _, _, hq, _⟩ := dd'; ⟨q, hq⟩
  exact d_write I2 (by rw [e]; exact True.intro) hs he (dk_new hz hd (rk.merge .nil) dd')


/-! ### methods -/


section
variable {X : Cx} {pins : List (Addr × Obj)} {σ : St} {H : Hp} {s : Shared} {a : Addr} {y d : V} {u r : Value} {o : Option V} {A : Around} {E : Value → Shared → Prop}
end

section
variable {X : Cx} {o e f : Expr} {apos cpos : Pos} {td ty tx : TE}
end

/-! ### dict(d): a copy -/
section
variable {X : Cx} {pins : List (Addr × Obj)} {σ : St} {H : Hp} {s : Shared} {a : Addr} {kvs : List (Key × V)} {A : Around} {E : Value → Shared → Prop}
end


section
variable {X : Cx} {pins : List (Addr × Obj)} {σ : St} {H : Hp} {s : Shared} {a : Addr} {y : V} {u : Value} {A : Around} {E : Value → Shared → Prop}
end
end L2

namespace Att
open PySem PySem.W PySem.Calls PyProof.Rows

/-! ### the script -/
theorem ints_of_wellAll {P : Params} {h : Heap} : ∀ (ns : List Int) (vs : List Value), WellAll P h vs (ns.map WData.int) → IntsAre vs ns := by
  intro ns
  induction ns with
  | nil =>
    intro vs w
    rw [List.map_nil] at w
    cases w
    exact .nil
  | cons n ns ih =>
    intro vs w
    rw [List.map_cons] at w
    cases w with
    | cons a b =>
      cases a
      exact .cons _ _ (ih _ b)

theorem script_of {l : OpenLaw} {n : Nat} (hn : l.most = some n) {P : Params} {h : Heap} {args : List WData} {vals : List Value}
    (hpre : l.row.toRowW.claim.pre args = true) (hwl : WellAll P h vals args) :
    ∃ a vs ns, vals = [Value.ref a] ∧ args = [WData.list (ns.map WData.int)] ∧ h.get? a = some { cls := .type "list", data := .seq vs.toArray } ∧ IntsAre vs ns ∧ ns.length ≤ n := by
  have hsh : WShape.hasAll [] args [.list .int] = true := (pre_splitW hpre).1
  have hc : l.pre.holds [] { args := args } = true := (pre_splitW hpre).2
  obtain ⟨d, r, rfl, h1, h2⟩ := hasAllW_cons hsh
  obtain rfl := hasAllW_nil h2
  obtain ⟨xs, rfl, h3⟩ := hasW_list h1
  obtain ⟨ns, rfl⟩ := items_int h3
  have hlen : ns.length ≤ n := by
    unfold OpenLaw.pre at hc
    have h4 : (WTm.not (.lt (.lit (.int (n : Int))) (.len (.arg 0)))).holds [] { args := [.list (ns.map .int)] } = true := by
      have h4 := (holds_andW hc).1
      rw [hn] at h4
      exact h4
    have h5 := condW_of h4 (w_not (w_lt w_lit (w_len_list (w_arg rfl))))
    rw [List.length_map] at h5
    refine Nat.le_of_not_lt fun q => ?_
    have q' : (n : Int) < ((ns.length : Nat) : Int) := by omega
    first
      | (rw [decide_eq_true q'] at h5; exact absurd h5 (by decide))
      | (simp at h5; omega)
  cases hwl with
  | cons w1 w2 =>
    cases w2
    cases w1 with
    | list ho hall => exact ⟨_, _, ns, rfl, rfl, ho, ints_of_wellAll ns _ hall, hlen⟩

theorem post_true (l : OpenLaw) (args : List WData) : l.row.toRowW.claim.post args (.bool true) args = true :=
  postW_of (r := l.row.toRowW) (X := (true == true))
    (show WShape.has [] (.bool true) .bool = true by first | rfl | decide | simp [WShape.has, WShape.arms, WShape.armsAll])
    (show (WTm.eq .res (.lit (.bool true))).value [] { args := args, res := some (.bool true), after := args } = some (.bool (true == true)) from w_eq_bool (w_res rfl) w_lit) rfl

/-! ### the attachment: holds_open's last premise (the goal 'hc' behind k_head) from a wpAny of the law's body -/

/-- the same from a codeAny of the CALL (for a layer whose function contracts speak of calls) -/
theorem attach_call {l : OpenLaw} {n : Nat} {q : Program} {loose : List Str} {XP : (Str → Option Value) → Heap → Prop} {YP : World → Heap → Prop} {d : DefRec}
    (hn : l.most = some n) (hdf : d.params.defaults = [])
    (call : ∀ (w : World) (s₀ s₁ : Shared) (mg mb : Str → Option Value) (fa : Addr) (o : Obj) (pm cd doc : Value) (a : Addr) (vs : List Value) (ns : List Int),
      Ground q loose [] XP w s₀ mg mb s₁.heap → YP w s₁.heap →
      s₁.heap.get? fa = some o → o.data = .func (docDef d.name d.params d.body d.scope pm cd doc) → s₁.heap.CodeRec cd d.name → mg d.name = some (.ref fa) →
      s₁.heap.get? a = some { cls := .type "list", data := .seq vs.toArray } → IntsAre vs ns → ns.length ≤ n → s₁.gens = #[] →
      codeAny (model l.prog w) callerA (.call (.ref fa) ⟨[.ref a], []⟩) (fun r s' => r = .ok (.ret (.bool true)) ∧ OldK s₁.heap s'.heap ∧ s'.os = s₁.os ∧ AllBare s'.gens) s₁) :
    WalkO q loose XP YP l.row.toRowW d [] (fun f vs => PySem.call f vs) := by
  intro w s₀ s₁ mg mb G Y fa o pm cd doc dV kV ho hd hcd hD hmg hg args vals as hpre hlay hrd hwl hlo
  obtain rfl : dV = .none := Dflts.none hD hdf
  obtain rfl : kV = .none := Dflts.noKw hD
  obtain ⟨a, vs, ns, rfl, rfl, hobj, hints, hlen⟩ := script_of hn hpre hwl
  refine enter_call (codeAny_mono (call w s₀ s₁ mg mb fa o pm cd doc a vs ns G Y ho (fd_plain hd) hcd hmg hobj hints hlen hg) fun r s' hq => ?_)
  obtain ⟨rfl, h2, h3, h4⟩ := hq
  exact ⟨.inl ⟨.bool true, .bool true, [], rfl, fun _ => rfl, .bool true, post_true l _, fun _ => ⟨List.Pairwise.nil, fun _ hm => (nomatch hm)⟩⟩, h2, h3, h4⟩


/-! ### rules over ANY heap (no ledger) from facts about the written part K: the library's own take a ledger (News) for what they write -/
section
variable {prog : Program} {w : World} {A : Around} {E : Value → Shared → Prop} {s : Shared} {K : Frag}





/-! the whole heap as the ledger: makes every rule that writes through a ledger a rule over any heap -/

end
end Att

namespace L2
open PySem PySem.Spec PyProof.Rows

theorem vals_ints : ∀ {vs : List Value} {ns : List Int}, IntsAre vs ns → Vals (ns.map V.int) vs
  | _, _, .nil => .nil
  | _, _, .cons n t h => .cons ⟨t, rfl⟩ (vals_ints h)

/-- nothing is tracked but the script, known to the object (or it is an object of the module) -/
def Only (H : Hp) : Prop := ∀ b, H b = none ∨ ∃ o xs, H b = some (.frz o (.lst xs))

/-- THE HEAD: the law's promise, at the heap behind the top. F, the promise of the law's def, may use that base is part of the heap (so K.In base, base.Ns mainGlobals mg stand in Mod) -/
theorem law_call {P : Program} {w : World} {K : PySem.W.Frag} {mg mb : Str → Option Value} {CX : CXT} {k : Nat} {fa a : Addr} {fd : FuncData} {x : Str} {sp : Sp} {s₁ : Shared} {vs : List Value} {ns : List Int}
    (KX : K.In s₁.heap) (hns : s₁.heap.Ns mainGlobals mg) (hb : s₁.heap.Ns builtinsNs mb) (hbb : ∀ x : Str, x ≠ "__name__" → mb x = bootBuiltins x) (hlim : s₁.heap.NoLimit) (hg : s₁.gens = #[])
    (ha : s₁.heap.get? a = some { cls := .type "list", data := .seq vs.toArray }) (hi : IntsAre vs ns) (hl : ns.length ≤ sizeLine) (hr : Room k callerA)
    (F : ∀ base : Heap, K.In base → base.Ns mainGlobals mg → FnOk P w K mg base CX k fa fd [x] sp) (hbind : ∀ (s : Shared) (u : Value), BindsTo s fd ⟨[u], []⟩ [(x, u)])
    (hsp : ∀ H : Hp, Only H → SqL K H a (ns.map V.int) → sp [.ref a] H (fun v _ => v = .bl true) fun _ _ _ => False)
    (hCX : ∀ H e s', CX [] H s₁ (fun _ _ _ => False) e s' → False) :
    codeAny (model P w) callerA (.call (.ref fa) ⟨[.ref a], []⟩) (fun r s' => r = .ok (.ret (.bool true)) ∧ OldK s₁.heap s'.heap ∧ s'.os = s₁.os ∧ AllBare s'.gens) s₁ := by
  have rv := vals_ints hi
  have lenV := hi.length
  -- from an abstract heap in which nothing but the script may be tracked
  have core : ∀ H : Hp, Only H → SqL K H a (ns.map V.int) → HOk P w H s₁.heap → (∀ b, H b ≠ none → b = a) → (H a ≠ none → K.lookup a = none) →
      codeAny (model P w) callerA (.call (.ref fa) ⟨[.ref a], []⟩) (fun r s' => r = .ok (.ret (.bool true)) ∧ OldK s₁.heap s'.heap ∧ s'.os = s₁.os ∧ AllBare s'.gens) s₁ := by
    intro H hO hS hok hA hK
    have base_of : ∀ {b : Addr} {o : Obj}, s₁.heap.get? b = some o → H b = none → (hidT s₁.heap H).get? b = some o := fun e n => hidT_get e n
    have noA : ∀ {b : Addr} {o : Obj} {es : Array DictEntry} {ep : Nat}, s₁.heap.get? b = some o → o.data = .dict es ep → H b = none := fun {b o es ep} e d => by
      cases q : H b with
      | none => rfl
      | some u =>
        have e' : b = a := hA b (by rw [q]; simp)
        subst e'
        rw [ha] at e; cases e
        have d' : Data.seq vs.toArray _ = Data.dict es ep := d
        cases d'
    have nsK : ∀ {b : Addr} {m : Str → Option Value}, s₁.heap.Ns b m → (hidT s₁.heap H).Ns b m := fun {b m} ⟨o, es, ep, e, d, r⟩ => ⟨o, es, ep, base_of e (noA e d), d, r⟩
    have hKb : K.In (hidT s₁.heap H) := fun b o e => base_of (KX b o e) (by
      cases q : H b with
      | none => rfl
      | some u =>
        have e' : b = a := hA b (by rw [q]; simp)
        subst e'
        rw [hK (by rw [q]; simp)] at e; cases e)
    have hM : Mod K mg (hidT s₁.heap H) := ⟨hKb, nsK hns, ⟨mb, nsK hb, hbb⟩, let ⟨mc, h1, h2⟩ := hlim; ⟨mc, nsK h1, h2⟩⟩
    have e0 : Env0 P w K mg (hidT s₁.heap H) callerA [] s₁ H := ⟨rfl, hM, fun b o e => of_hidT e, Nat.le_of_eq (hidT_size _ _), trivial, fun b hb => absurd (show b ∈ ([] : List Addr) from hb) (by simp), hok, .of_eq hg⟩
    refine codeAny_mono ((F _ hKb (nsK hns)).run callerA [] s₁ H ⟨[.ref a], []⟩ [.ref a] [.ref a] _ _ hr e0 (hbind s₁ (.ref a)) (.cons rfl .nil) (hsp H hO hS)) fun r s' h => ?_
    cases r with
    | error e => exact (hCX H e s' h).elim
    | ok fl =>
      cases fl with
      | next => exact False.elim h
      | brk => exact False.elim h
      | cont => exact False.elim h
      | ret u =>
        obtain ⟨v, H', os, bare, un, hok', r', q⟩ := h
        have q' : v = .bl true := q
        subst q'
        obtain rfl : u = Value.bool true := r'
        refine ⟨rfl, OldK.of_keep fun b o e => ?_, os, bare⟩
        cases q : H b with
        | none => exact un.keep b o e q (by intro z; exact absurd (show b ∈ ([] : List Addr) from z) (by simp)) (by simp)
        | some u =>
          rcases hO b with z | ⟨ob, xs, z⟩
          · rw [q] at z; cases z
          · have z2 := un.frzs b ob _ z
            obtain ⟨e1, _⟩ := hok b _ z
            obtain ⟨e2, _⟩ := hok' b _ z2
            rw [e] at e1; cases e1
            exact e2
  cases hk : K.lookup a with
  | some o =>
    -- the script is one of the module's own objects
    have e := KX a o hk
    rw [ha] at e
    cases e
    refine core (fun _ => none) (fun _ => .inl rfl) (.inr ⟨_, vs.toArray, _, hk, rfl, rfl, rfl, by rw [List.size_toArray, lenV]; exact hl, by simpa using rv⟩) (fun b u z => by have z' : (none : Option HO) = some u := z; cases z') (fun b z => absurd rfl z) fun z => absurd rfl z
  | none =>
    refine core (fun b => if b = a then some (.frz { cls := .type "list", data := .seq vs.toArray } (.lst (ns.map V.int))) else none) (fun b => ?_) (.inl (.inr ⟨{ cls := .type "list", data := .seq vs.toArray }, if_pos rfl⟩)) (fun b u z => ?_) (fun b z => ?_) fun _ => hk
    · by_cases hb : b = a
      · exact .inr ⟨_, _, if_pos hb⟩
      · exact .inl (if_neg hb)
    · by_cases hb : b = a
      · have z' := (if_pos hb).symm.trans z
        cases z'
        subst hb
        exact ⟨ha, by rw [List.length_map]; exact hl, vs, _, rv, ha⟩
      · have z' := (if_neg hb).symm.trans z
        cases z'
    · by_cases hb : b = a
      · exact hb
      · exact absurd (if_neg hb) z
end L2

namespace L2
open PySem PySem.Spec PyProof.Rows


/-- the goal that k_head leaves (case hc), from the law's promise. F gives the function object fd (K's own) once, then the promise over every base -/
theorem walk_of {l : PySem.W.OpenLaw} {n k : Nat} {q : Program} {loose : List Str} {XP : (Str → Option Value) → Heap → Prop} {YP : World → Heap → Prop} {d : DefRec} {K : Params → PySem.W.Frag} {CX : World → CXT} {sp : World → Sp} {x : Str}
    (hn : l.most = some n) (hn2 : n ≤ sizeLine) (hdf : d.params.defaults = []) (hr : Room k callerA)
    (hY : ∀ (w : World) (h : Heap), YP w h → (K w.params).In h)
    (F : ∀ (w : World) (mg : Str → Option Value) (fa : Addr) (h : Heap), (K w.params).In h → h.Ns mainGlobals mg → mg d.name = some (.ref fa) →
      ∃ fd : FuncData, (∀ (s : Shared) (u : Value), BindsTo s fd ⟨[u], []⟩ [(x, u)]) ∧
        ∀ base : Heap, (K w.params).In base → base.Ns mainGlobals mg → FnOk l.prog w (K w.params) mg base (CX w) k fa fd [x] (sp w))
    (hsp : ∀ (w : World) (H : Hp) (a : Addr) (ns : List Int), ns.length ≤ n → Only H → SqL (K w.params) H a (ns.map V.int) → sp w [.ref a] H (fun v _ => v = .bl true) fun _ _ _ => False)
    (hCX : ∀ (w : World) (H : Hp) (s : Shared) (e : Value) (s' : Shared), CX w [] H s (fun _ _ _ => False) e s' → False) :
    PySem.W.WalkO q loose XP YP l.row.toRowW d [] (fun f vs => PySem.call f vs) := by
  refine Att.attach_call hn hdf fun w s₀ s₁ mg mb fa o pm cd doc a vs ns G Y ho hd hcd hmg hobj hints hlen hg => ?_
  have KX := hY w _ Y
  obtain ⟨fd, hb, hF⟩ := F w mg fa _ KX G.T.g hmg
  exact law_call KX G.T.g G.T.b G.T.builtins G.T.nolimit hg hobj hints (Nat.le_trans hlen hn2) hr hF hb (fun H hO hS => hsp w H a ns hlen hO hS) fun H e s' => hCX w H s₁ e s'
end L2

/- THE LAST THEOREM (shape; LID, My.* are yours):
   My.Adr: a structure of the addresses that your layer names (classes, functions); My.Txt K t: a structure (Prop) of the equations over K;
   My.txt_mk : {K} {implicit addresses ..} (e1 : nsIn K mainGlobals "law" = some (some (.ref f))) (e2 : K.lookup f = some ⟨oc, od, .func (fnOf "law" "law" params body scope dV kV doc pm an cdv ct), sl⟩) (e3 : codeIn K cdv "law" = true) .. : ∃ t, My.Txt K t

set_option maxRecDepth 100000 in
set_option maxHeartbeats 0 in
theorem PySem.Challenge.cw_LID_holds : PySem.Challenge.rw_LID.Holds := by
  w_on; o_law; k_head; (case hw => w_witness2)
  k_fill
  refine L2.walk_of (l := PySem.Challenge.rw_LID) (n := 63) (k := 40) (x := "script") (CX := fun w => ..) (sp := fun _ => My.sp_law) rfl (by decide) rfl ⟨rfl, by decide, by decide⟩ (fun w h Y => PySem.W.kIn_of Y) ?F ?S ?C
  case F =>
    intro w mg fa h KX G hmg
    have T : ∃ t, My.Txt (L2.KOf KX) t := by
      dsimp only [L2.KOf]                          -- K must stand as «<heap const> w.params» for k_is
      refine' My.txt_mk ?e1 ?e2 ?e3 ..
      (case e1 => PySem.W.k_is)                    -- in the order: a name -> its address -> its object -> its parts
      (case e2 => PySem.W.k_is)
      ..
    obtain ⟨t, T⟩ := T
    have e0 := hmg.symm.trans (PySem.W.mg_of KX G T.law)
    cases e0                                       -- fa is the law's own address
    exact ⟨_, fun s u => .of_eq rfl, fun base kb nb => My.law_fn T kb nb⟩     -- if «.of_eq rfl» comes too early: refine' ⟨_, ?b, fun base kb nb => My.law_fn T kb nb⟩; exact fun s u => .of_eq rfl
  case S => exact fun w H a ns hl hO hS => ..
  case C => exact ..
(the tactic k_is has no namespace: write k_is) -/

/-! SHORT WORDS over the layer: a def of the text, its body, what a loop and a test want. -/
namespace L2
open PySem PySem.Spec PyProof.Rows

/-! ### the text by places -/
def defArgs (s : Stmt) : Arguments := match s with
  | .FunctionDef _ a _ _ _ _ _ _ _ _ => a
  | _ => { posonlyargs := [], args := [], vararg := none, kwonlyargs := [], kw_defaults := [], kwarg := none, defaults := [] }
def defBody (s : Stmt) : List Stmt := match s with
  | .FunctionDef _ _ b _ _ _ _ _ _ _ => b
  | _ => []
def defScope (s : Stmt) : Scope := match s with
  | .FunctionDef _ _ _ _ _ _ sc _ _ _ => sc
  | _ => { kind := .function, names := [], isGenerator := false, isCoroutine := false }

/-! ### no exception leaves a def -/
abbrev CX0 : CXT := fun _ _ _ _ _ _ => False
abbrev E0 : XK := fun _ _ _ => False
theorem pass0 {X : Cx} : Passes CX0 X E0 := fun _ _ _ _ _ _ _ h => h.elim

/-! ### a def (or method) of the text as it stands behind the top -/
structure Fun (K : PySem.W.Frag) (x qual : Str) (st : Stmt) (f : Addr) (fd : FuncData) : Prop where
  ex : ∃ (oc : Value) (od : Option Addr) (kV doc pm : Value) (an : Option Addr) (cdv ct : Value) (osl : Array (Option Value)),
    fd = PySem.W.fnOf x qual (defArgs st) (defBody st) (defScope st) .none kV doc pm an cdv ct ∧ K.lookup f = some ⟨oc, od, .func fd, osl⟩ ∧ PySem.W.codeIn K cdv qual = true
  kp : PySem.W.keepIn K (.ref f) = true
section
variable {P : Program} {w : World} {K : PySem.W.Frag} {mg : Str → Option Value} {base : Heap}
/-- THE RULE for a def: its body as a term of rules, and the reading of that term -/
theorem Fun.ok {x qual : Str} {st : Stmt} {f : Addr} {fd : FuncData} {N ps : List Str} {k : Nat} {sp : Sp} (F : Fun K x qual st f fd) (S : FnScope N ps (defScope st)) (len : ∀ vs H Q E, sp vs H Q E → vs.length = ps.length)
    (hbody : ∀ (cdv : Value) (A : Around) (outer : List Env) (s : Shared) (H : Hp) (vs : List V) (Q : VK) (E : XK), Room k (A.deeper (envOfC qual (defScope st) s.heap.objs.size f cdv)) → sp vs H Q E →
      ∃ t, PSs (cxOf CX0 P w K mg base N qual (defScope st) f cdv A outer s H E).nox (defBody st) t ∧ t { nx := fun _ H' => Q .non H', rt := Q } (start N vs) H) : FnOk P w K mg base CX0 (k + 1) f fd ps sp := by
  obtain ⟨oc, od, kV, doc, pm, an, cdv, ct, osl, rfl, lk, hcd⟩ := F.ex
  refine fn_of lk hcd S len fun A outer s H vs Q E hr hsp => ?_
  obtain ⟨t, h, q⟩ := hbody cdv A outer s H vs Q E hr hsp
  exact ⟨t, h.nox, q⟩
/-- how its arguments bind (no defaults): h is «fun _ _ _ _ _ _ us hl => match us, hl with | [_, _], _ => rfl», one _ a parameter -/
theorem Fun.binds {x qual : Str} {st : Stmt} {f : Addr} {fd : FuncData} {ps : List Str} (F : Fun K x qual st f fd)
    (h : ∀ (kV doc pm : Value) (an : Option Addr) (cdv ct : Value) (us : List Value), us.length = ps.length → bindArgs (PySem.W.fnOf x qual (defArgs st) (defBody st) (defScope st) .none kV doc pm an cdv ct) ⟨us, []⟩ = pure (ps.zip us)) : Binds K fd ps [] := by
  obtain ⟨oc, od, kV, doc, pm, an, cdv, ct, osl, rfl, lk, hcd⟩ := F.ex
  exact .all (h kV doc pm an cdv ct)
theorem fun_mk {x qual : Str} {st : Stmt} {f : Addr} {oc : Value} {od an : Option Addr} {osl : Array (Option Value)} {kV doc pm cdv ct : Value} (l : K.lookup f = some ⟨oc, od, .func (PySem.W.fnOf x qual (defArgs st) (defBody st) (defScope st) .none kV doc pm an cdv ct), osl⟩)
    (c : PySem.W.codeIn K cdv qual = true) (k : PySem.W.keepIn K (.ref f) = true) : Fun K x qual st f (PySem.W.fnOf x qual (defArgs st) (defBody st) (defScope st) .none kV doc pm an cdv ct) := ⟨⟨oc, od, kV, doc, pm, an, cdv, ct, osl, rfl, l, c⟩, k⟩
end
theorem hu_of {A : Around} {k : Nat} (hr : Room k A) : A.units + 1 < cLine := Nat.lt_of_le_of_lt (Nat.add_le_add_left (by decide : 1 ≤ 64) _) hr.units

/-! ### expressions in short: the name that stands in the i-th slot -/
section
variable {X : Cx}
theorem pv (i : Nat) {x : Str} {pos : Pos} (hN : X.N[i]? = some x := by rfl) (hv : Vis X.env.scope x := by first | exact Or.inl rfl | exact Or.inr (Or.inl rfl) | exact Or.inr (Or.inr rfl)) (hd : (x == ("__debug__" : Str)) = false := by decide)
    (hcd : (x == ("__classdict__" : Str)) = false := by decide) : PE X (.Name x pos) (tVar i) := pe_var hN hv hd hcd
end

/-! ### tests -/
theorem iteF {A B : Prop} (h : B) : if false = true then A else B := by
  rw [if_neg Bool.false_ne_true]
  exact h
theorem iteT {A B : Prop} (h : A) : if true = true then A else B := by
  rw [if_pos rfl]
  exact h
theorem ite2 {c A B : Prop} [Decidable c] (h1 : c → A) (h2 : ¬ c → B) : if c then A else B := by
  by_cases h : c
  · rw [if_pos h]
    exact h1 h
  · rw [if_neg h]
    exact h2 h

/-! ### heaps -/
/-- all that was tracked is as it was -/
def Same (H H' : Hp) : Prop := ∀ b o, H b = some o → H' b = some o
theorem Same.refl (H : Hp) : Same H H := fun _ _ h => h
theorem Same.trans {H H1 H2 : Hp} (a : Same H H1) (b : Same H1 H2) : Same H H2 := fun c o h => b c o (a c o h)
theorem Same.free {H H' : Hp} (e : Same H H') {l : Addr} (h : H' l = Option.none) : H l = Option.none := by
  cases q : H l with
  | none => rfl
  | some o =>
    rw [e l o q] at h
    cases h
theorem Same.seq {K : PySem.W.Frag} {H H' : Hp} {a : Addr} {xs : List V} (e : Same H H') (h : SqL K H a xs) : SqL K H' a xs := by
  rcases h with (h | ⟨o, h⟩) | h
  · exact .inl (.inl (e _ _ h))
  · exact .inl (.inr ⟨o, e _ _ h⟩)
  · exact .inr h

/-! ### a dict's pairs: keys that differ -/
section
variable {κ : Type} [DecidableEq κ]
theorem nd_snoc : ∀ {l : List κ} {k : κ}, l.Nodup → ¬ k ∈ l → (l ++ [k]).Nodup
  | [], k, _, _ => by simp
  | a :: r, k, h, hk => by
    obtain ⟨h1, h2⟩ := List.nodup_cons.mp h
    show (a :: (r ++ [k])).Nodup
    refine List.nodup_cons.mpr ⟨fun m => ?_, nd_snoc h2 fun m => hk (List.mem_cons.mpr (Or.inr m))⟩
    rcases List.mem_append.mp m with q | q
    · exact h1 q
    · exact hk (List.mem_cons.mpr (Or.inl (List.mem_singleton.mp q).symm))
end
end L2

set_option maxHeartbeats 4000000
namespace L2
open PySem PySem.Spec PyProof.Rows

/-! ### comprehensions: the block's cells -/
def clos (cells : List (Str × Addr)) : List (Str × NameKind) → List (Str × Addr) → List (Str × Addr)
  | [], acc => acc
  | (n, k) :: r, acc => if k == .free then clos cells r ((n, (cells.lookup n).getD 0) :: acc) else clos cells r acc

theorem clos_mem {cells : List (Str × Addr)} : ∀ {names : List (Str × NameKind)} {acc : List (Str × Addr)}, (∀ y ∈ names, y.2 = .free → ∃ c, cells.lookup y.1 = some c) → ∀ p ∈ clos cells names acc, p ∈ acc ∨ ((p.1, NameKind.free) ∈ names ∧ cells.lookup p.1 = some p.2)
  | [], acc, _, p, hp => .inl hp
  | (n, k) :: r, acc, h, p, hp => by
    unfold clos at hp
    have hr : ∀ y ∈ r, y.2 = .free → ∃ c, cells.lookup y.1 = some c := fun y hy => h y (List.mem_cons_of_mem _ hy)
    split at hp
    · rename_i hk
      rcases clos_mem hr p hp with q | q
      · rcases List.mem_cons.mp q with q | q
        · subst q
          have hk' : k = .free := by simpa using hk
          subst hk'
          obtain ⟨c, hc⟩ := h (n, .free) List.mem_cons_self rfl
          exact .inr ⟨List.mem_cons_self, by show cells.lookup n = some ((cells.lookup n).getD 0); rw [hc]; rfl⟩
        · exact .inl q
      · exact .inr ⟨List.mem_cons_of_mem _ q.1, q.2⟩
    · rcases clos_mem hr p hp with q | q
      · exact .inl q
      · exact .inr ⟨List.mem_cons_of_mem _ q.1, q.2⟩

theorem clos_acc {cells : List (Str × Addr)} : ∀ {names : List (Str × NameKind)} {acc : List (Str × Addr)}, ∀ p ∈ acc, p ∈ clos cells names acc
  | [], acc, p, hp => hp
  | (n, k) :: r, acc, p, hp => by
    unfold clos
    split
    · exact clos_acc p (List.mem_cons_of_mem _ hp)
    · exact clos_acc p hp

theorem clos_has {cells : List (Str × Addr)} {x : Str} : ∀ {names : List (Str × NameKind)} {acc : List (Str × Addr)}, (x, NameKind.free) ∈ names → ∃ c, (x, c) ∈ clos cells names acc
  | [], _, h => by simp at h
  | (n, k) :: r, acc, h => by
    unfold clos
    rcases List.mem_cons.mp h with e | h
    · cases e
      rw [if_pos (show (NameKind.free == NameKind.free) = true by decide)]
      exact ⟨_, clos_acc _ List.mem_cons_self⟩
    · split
      · exact clos_has h
      · exact clos_has h

theorem lookup_of_mem {α : Type} {x : Str} {c : α} : ∀ {l : List (Str × α)}, (x, c) ∈ l → ∃ c', l.lookup x = some c'
  | [], h => by simp at h
  | (k, v) :: r, h => by
    rw [List.lookup_cons]
    cases hb : x == k with
    | true => exact ⟨v, rfl⟩
    | false =>
      rcases List.mem_cons.mp h with e | h
      · cases e; simp at hb
      · exact lookup_of_mem h

theorem closureFor_eq {scope : Scope} {env : Env} (h : ∀ y ∈ scope.names, y.2 = .free → ∃ c, env.cells.lookup y.1 = some c) : closureFor scope env = pure (clos env.cells scope.names []) := by
  unfold closureFor
  have key : ∀ (names : List (Str × NameKind)) (acc : List (Str × Addr)), (∀ y ∈ names, y.2 = .free → ∃ c, env.cells.lookup y.1 = some c) →
      (forIn names acc (fun (x : Str × NameKind) (r : List (Str × Addr)) => (if (x.2 == .free) = true then (do let a ← cellOf env x.1; pure (ForInStep.yield ((x.1, a) :: r))) else pure (ForInStep.yield r) : Sem (ForInStep (List (Str × Addr)))))) = pure (clos env.cells names acc) := by
    intro names
    induction names with
    | nil => intro acc _; rfl
    | cons y r ih =>
      intro acc hy
      obtain ⟨n, k⟩ := y
      have hr := fun y (hm : y ∈ r) => hy y (List.mem_cons_of_mem _ hm)
      rw [List.forIn_cons]
      unfold clos
      cases hk : (k == NameKind.free) with
      | true =>
        have hk' : k = .free := by simpa using hk
        subst hk'
        obtain ⟨c, hc⟩ := hy (n, .free) List.mem_cons_self rfl
        have e1 : cellOf env n = pure c := by unfold cellOf; rw [hc]
        simp only [if_true]
        have hc' : env.cells.lookup n = some c := hc
        rw [e1, hc']
        simp only [pure_bind, Option.getD_some]
        exact ih _ hr
      | false =>
        simp only [Bool.false_eq_true, if_false, pure_bind]
        exact ih _ hr
  simpa using key scope.names [] h

theorem cellsFrom_app : ∀ (names : List (Str × NameKind)) (n : Nat) (acc : List (Str × Addr)), cellsFrom n names acc = cellsFrom n names [] ++ acc
  | [], _, _ => rfl
  | (name, kind) :: r, n, acc => by
    unfold cellsFrom
    split
    · rw [cellsFrom_app r (n + 1) ((name, n) :: acc), cellsFrom_app r (n + 1) [(name, n)], List.append_assoc]; rfl
    · exact cellsFrom_app r n acc
theorem cellsFrom_mem {x : Str} {c : Addr} : ∀ (names : List (Str × NameKind)) (n : Nat) (acc : List (Str × Addr)), (x, c) ∈ cellsFrom n names acc → (x, c) ∈ acc ∨ (x, NameKind.cell) ∈ names
  | [], _, _, h => .inl h
  | (name, kind) :: r, n, acc, h => by
    unfold cellsFrom at h
    split at h
    · rename_i hk
      have hk' : kind = .cell := by simpa using hk
      subst hk'
      rcases cellsFrom_mem r _ _ h with q | q
      · rcases List.mem_cons.mp q with q | q
        · cases q; exact .inr List.mem_cons_self
        · exact .inl q
      · exact .inr (List.mem_cons_of_mem _ q)
    · rcases cellsFrom_mem r _ _ h with q | q
      · exact .inl q
      · exact .inr (List.mem_cons_of_mem _ q)

theorem lookup_app {α : Type} {x : Str} : ∀ {l r : List (Str × α)}, (l ++ r).lookup x = (l.lookup x).or (r.lookup x)
  | [], _ => by simp
  | (k, v) :: l, r => by
    rw [List.cons_append, List.lookup_cons, List.lookup_cons]
    cases x == k with
    | true => rfl
    | false => exact lookup_app

theorem lookup_relabel {env : Env} {x : Str} {k' : NameKind} : ∀ {names : List (Str × NameKind)},
    (names.map fun (n, k) => if (k == NameKind.free && env.scope.kind == .function && env.kindOf n == some .cell) then (n, NameKind.cell) else (n, k)).lookup x = some k' →
    ∃ k, names.lookup x = some k ∧ (k' = k ∨ (k = .free ∧ k' = .cell))
  | [], h => by simp at h
  | (n, k) :: r, h => by
    rw [List.map_cons] at h
    by_cases hc : (k == NameKind.free && env.scope.kind == .function && env.kindOf n == some .cell) = true
    · simp only [hc, if_true] at h
      rw [List.lookup_cons] at h ⊢
      cases hx : x == n with
      | true =>
        rw [hx] at h
        have hk : k = .free := by simp at hc; exact hc.1.1
        exact ⟨k, rfl, .inr ⟨hk, (Option.some.inj h).symm⟩⟩
      | false => rw [hx] at h; exact lookup_relabel h
    · simp only [hc, Bool.false_eq_true, if_false] at h
      rw [List.lookup_cons] at h ⊢
      cases hx : x == n with
      | true => rw [hx] at h; exact ⟨k, rfl, .inl (Option.some.inj h).symm⟩
      | false => rw [hx] at h; exact lookup_relabel h
theorem relabel_free {env : Env} {x : Str} : ∀ {names : List (Str × NameKind)}, names.lookup x = some .free →
    ((names.map fun (n, k) => if (k == NameKind.free && env.scope.kind == .function && env.kindOf n == some .cell) then (n, NameKind.cell) else (n, k)).lookup x = some .free ∨
     (names.map fun (n, k) => if (k == NameKind.free && env.scope.kind == .function && env.kindOf n == some .cell) then (n, NameKind.cell) else (n, k)).lookup x = some .cell)
  | [], h => by simp at h
  | (n, k) :: r, h => by
    rw [List.map_cons]
    rw [List.lookup_cons] at h
    by_cases hc : (k == NameKind.free && env.scope.kind == .function && env.kindOf n == some .cell) = true
    · simp only [hc, if_true]
      rw [List.lookup_cons]
      cases hx : x == n with
      | true => exact .inr rfl
      | false => rw [hx] at h; exact relabel_free h
    · simp only [hc, Bool.false_eq_true, if_false]
      rw [List.lookup_cons]
      cases hx : x == n with
      | true => rw [hx] at h; exact .inl h
      | false => rw [hx] at h; exact relabel_free h

/-- the block's own frame, and its cells -/
theorem wp_compEnv {M : Model} {A : Around} {E : Value → Shared → Prop} {s : Shared} {scope : Scope} {globals : Addr} {cl : List (Str × Addr)} {qual : Str} {env : Env} {Q : Env → Shared → Prop}
    (hQ : ∀ h', (∀ b o, s.heap.get? b = some o → h'.get? b = some o) → h'.Ns s.heap.objs.size (fun _ => none) → (∀ n c, (n, c) ∈ cellsFrom (s.heap.objs.size + 1) scope.names [] → h'.IsCell c none ∧ s.heap.objs.size + 1 ≤ c) →
      ((cellsFrom (s.heap.objs.size + 1) scope.names []).Pairwise fun x y => x.2 ≠ y.2) →
      Q { scope := scope, locals := s.heap.objs.size, globals := globals, cells := cellsFrom (s.heap.objs.size + 1) scope.names [] ++ cl, qual := qual, func := none, code := env.code, frame := env.frame, builtins := env.builtins } { s with heap := h' }) :
    wpAny M A (newFunctionEnv scope globals cl [] qual none .none (some env)) Q E s := by
  simp only [newFunctionEnv, Option.isSome_some, if_true]
  refine wpAny_bind (wpAny_alloc ?_)
  refine wpAny_bind (wpAny_layCells _ (fun name kind cells => by cases hkc : kind == NameKind.cell <;> simp [hkc]) _ _ _ _ ?_)
  have ok := cellsFrom_ok scope.names (s.heap.push { cls := .type "dict", data := .dict #[] }) (s.heap.objs.size + 1) [] ⟨fun _ _ hm => (nomatch hm), List.Pairwise.nil⟩ (by rw [Heap.size_push]; exact Nat.le_refl _)
  rw [Heap.size_push] at ok
  rw [show ({ s with heap := s.heap.push { cls := .type "dict", data := .dict #[] } } : Shared).heap.objs.size = s.heap.objs.size + 1 from Heap.size_push ..]
  rw [cellsFrom_app]
  refine wpAny_bind ?_
  refine wpAny_pure (wpAny_pure ?_)
  exact hQ _ (fun b o e => pushCells_keeps _ _ b o (Heap.get?_push_of_some _ e)) ((Heap.Ns.new s.heap (.type "dict")).keeps (pushCells_keeps _ _)) ok.empty ok.apart
end L2

namespace L2
open PySem PySem.Spec PyProof.Rows

/-- the context of a comprehension's block -/
def cxComp (X : Cx) (scope : Scope) (N' own : List Str) (cl : List (Str × Addr)) (C : Addr) (s : Shared) (H : Hp) (fp : List Addr) : Cx :=
  { X with N := N', s₀ := s, H₀ := H, env := compEnvC scope cl C X.env, outer := X.stack, stack := X.stack, ex := fp, fn := fun x => own.contains x, pn := [], xe := fun _ _ => False }

structure CompOk (X : Cx) (scope : Scope) (N' own : List Str) (fr : List Nat) : Prop where
  kind : scope.kind = .function
  names : ∀ y ∈ scope.names, scope.names.lookup y.1 = some y.2
  up : ∀ y ∈ scope.names, y.2 = .free → (X.env.kindOf y.1 = some .cell ∨ X.env.kindOf y.1 = some .free)
  nm : N' = own ++ fr.map (fun j => X.N.getD j Str.empty)
  fr : ∀ j ∈ fr, j < X.N.length ∧ scope.names.lookup (X.N.getD j Str.empty) = some .free
  own : ∀ x ∈ own, scope.names.lookup x = some .local ∨ scope.names.lookup x = some .cell

/-- the names' values when the block begins -/
def tau (own : List Str) (fr : List Nat) (σ : St) : St := own.map (fun _ => none) ++ fr.map (fun j => σ.getD j none)

section
variable {X : Cx} {pins : List (Addr × Obj)} {σ : St} {H : Hp} {s : Shared} {scope : Scope} {N' own : List Str} {fr : List Nat}

theorem comp_found (c : CompOk X scope N' own fr) (ok : X.Ok) : ∀ y ∈ scope.names, y.2 = .free → ∃ a, X.env.cells.lookup y.1 = some a := fun y hy e => ok.has y.1 (c.up y hy e)

theorem inv_comp {fp : List Addr} {h' : Heap} (c : CompOk X scope N' own fr) (I : Inv X pins σ H s)
    (hf : ∀ b ∈ fp, FpOk X pins H b) (ho : ∀ b ∈ fp, ∃ o, s.heap.get? b = some o ∧ ∀ v, o.data ≠ .cell v)
    (keep : ∀ b o, s.heap.get? b = some o → h'.get? b = some o) (ns : h'.Ns s.heap.objs.size (fun _ => none))
    (cells : ∀ n c, (n, c) ∈ cellsFrom (s.heap.objs.size + 1) scope.names [] → h'.IsCell c none ∧ s.heap.objs.size + 1 ≤ c)
    (apart : (cellsFrom (s.heap.objs.size + 1) scope.names []).Pairwise fun x y => x.2 ≠ y.2) :
    Inv (cxComp X scope N' own (cellsFrom (s.heap.objs.size + 1) scope.names [] ++ clos X.env.cells scope.names []) s.heap.objs.size s H fp) [] (tau own fr σ) H { s with heap := h' } := by
  have found := comp_found c I.ok
  have clm : ∀ x a, (x, a) ∈ clos X.env.cells scope.names [] → (x, NameKind.free) ∈ scope.names ∧ X.env.cells.lookup x = some a := fun x a hm => by
    rcases clos_mem found (x, a) hm with q | q
    · simp at q
    · exact q
  -- a lookup in the block's cells
  have look : ∀ x a, (cellsFrom (s.heap.objs.size + 1) scope.names [] ++ clos X.env.cells scope.names []).lookup x = some a →
      ((x, a) ∈ cellsFrom (s.heap.objs.size + 1) scope.names [] ∧ (x, NameKind.cell) ∈ scope.names) ∨ ((x, NameKind.free) ∈ scope.names ∧ X.env.cells.lookup x = some a) := fun x a e => by
    rw [lookup_app] at e
    cases q : (cellsFrom (s.heap.objs.size + 1) scope.names []).lookup x with
    | some b =>
      rw [q] at e
      cases e
      have hm := PySem.mem_of_lookup q
      rcases cellsFrom_mem _ _ _ hm with z | z
      · simp at z
      · exact .inl ⟨hm, z⟩
    | none =>
      rw [q] at e
      exact .inr (clm x a (PySem.mem_of_lookup e))
  have lookF : ∀ x a, (x, NameKind.free) ∈ scope.names → X.env.cells.lookup x = some a → (cellsFrom (s.heap.objs.size + 1) scope.names [] ++ clos X.env.cells scope.names []).lookup x = some a := fun x a hx e => by
    rw [lookup_app]
    have q : (cellsFrom (s.heap.objs.size + 1) scope.names []).lookup x = none := by
      cases q : (cellsFrom (s.heap.objs.size + 1) scope.names []).lookup x with
      | none => rfl
      | some b =>
        rcases cellsFrom_mem _ _ _ (PySem.mem_of_lookup q) with z | z
        · simp at z
        · have h1 := c.names _ hx
          have h2 := c.names _ z
          rw [h1] at h2
          cases h2
    rw [q]
    obtain ⟨d, hd⟩ := clos_has (cells := X.env.cells) (acc := []) hx
    obtain ⟨d', hd'⟩ := lookup_of_mem hd
    have := (clm x d' (PySem.mem_of_lookup hd')).2
    rw [e] at this
    cases this
    exact hd'
  have below : ∀ b o, s.heap.get? b = some o → b < s.heap.objs.size := fun b o e => Heap.lt_size e
  have cold : ∀ x a, X.env.cells.lookup x = some a → a < s.heap.objs.size := fun x a e => let ⟨v, q⟩ := I.cell x a e; q.lt
  refine ⟨⟨I.ok.mod, c.kind, I.ok.glob, I.ok.blt, Nat.le_refl _, ?inj, ?has, ?cab, I.ok.hd, I.ok.frames, .inl rfl, ?exf, I.bs, Nat.le_trans I.ok.bsz I.sz, ?noex, ?exfs, I.stack, I.stkFree⟩,
    rfl, I.bare, Un.kept keep, ⟨_, ns, ?loc⟩, ?cell, I.hok.fresh (Nat.le_refl _), ?freeC, ?pin, I.hok.kept keep, ?len⟩
  case inj =>
    intro x y a h1 h2
    rcases look x a h1 with ⟨m1, k1⟩ | ⟨k1, e1⟩ <;> rcases look y a h2 with ⟨m2, k2⟩ | ⟨k2, e2⟩
    · exact name_of_addr apart m1 m2
    · exact absurd (Nat.lt_of_lt_of_le (cold y a e2) (Nat.le_of_succ_le (cells x a m1).2)) (Nat.lt_irrefl _)
    · exact absurd (Nat.lt_of_lt_of_le (cold x a e1) (Nat.le_of_succ_le (cells y a m2).2)) (Nat.lt_irrefl _)
    · exact I.ok.inj x y a e1 e2
  case has =>
    intro x hx
    have hx' : (∃ k, scope.names.lookup x = some k ∧ (k = .cell ∨ k = .free)) := by
      rcases hx with hx | hx
      · obtain ⟨k, e, q⟩ := lookup_relabel (env := X.env) (names := scope.names) hx
        rcases q with q | ⟨q, _⟩
        · exact ⟨k, e, .inl q.symm⟩
        · exact ⟨k, e, .inr q⟩
      · obtain ⟨k, e, q⟩ := lookup_relabel (env := X.env) (names := scope.names) hx
        rcases q with q | ⟨q, _⟩
        · exact ⟨k, e, .inr q.symm⟩
        · exact ⟨k, e, .inr q⟩
    obtain ⟨k, e, q⟩ := hx'
    show ∃ a, (cellsFrom (s.heap.objs.size + 1) scope.names [] ++ clos X.env.cells scope.names []).lookup x = some a
    rcases q with rfl | rfl
    · obtain ⟨a, ha⟩ := cell_has (n := s.heap.objs.size + 1) e
      exact ⟨a, by rw [lookup_app, ha]; rfl⟩
    · obtain ⟨a, ha⟩ := found _ (PySem.mem_of_lookup e) rfl
      exact ⟨a, lookF x a (PySem.mem_of_lookup e) ha⟩
  case cab =>
    intro x a hx e
    have hx : own.contains x = true := hx
    have hx' : x ∈ own := by simpa using hx
    rcases look x a e with ⟨m1, _⟩ | ⟨k1, _⟩
    · have := (cells x a m1).2
      show s.heap.objs.size ≤ a
      omega
    · have h1 := c.names _ k1
      rcases c.own x hx' with h2 | h2
      · rw [h1] at h2; cases h2
      · rw [h1] at h2; cases h2
  case exf =>
    intro b hb
    obtain ⟨o, e, d⟩ := ho b hb
    refine ⟨Nat.ne_of_lt (below b o e), fun x a q z => ?_⟩
    subst z
    rcases look x a q with ⟨m1, _⟩ | ⟨k1, e1⟩
    · exact absurd (Nat.lt_of_lt_of_le (below a o e) (Nat.le_of_succ_le (cells x a m1).2)) (Nat.lt_irrefl _)
    · obtain ⟨v, o', e', d'⟩ := I.cell x a e1
      rw [e] at e'
      cases e'
      exact d v d'
  case noex =>
    intro b o e hb
    rcases (hf b hb).2.2.2.1 with z | z
    · exact I.ok.noex b o e z
    · exact absurd (Nat.lt_of_lt_of_le (Nat.lt_of_lt_of_le (Heap.lt_size e) I.ok.bsz) z) (Nat.lt_irrefl _)
  case exfs =>
    intro b hb z
    rcases List.mem_cons.mp (I.stkSub b z) with q | q
    · exact (hf b hb).2.1 q
    · exact (hf b hb).2.2.1 q
  case loc =>
    intro i x v h1 h2 h3
    have h1 : N'[i]? = some x := h1
    rw [c.nm] at h1
    unfold tau at h2
    by_cases hi : i < own.length
    · rw [List.getElem?_append_left (by simpa using hi), List.getElem?_map] at h2
      cases q : own[i]? with
      | none => rw [q] at h2; cases h2
      | some z => rw [q] at h2; cases h2
    · rw [List.getElem?_append_right (by simpa using hi), List.getElem?_map, List.length_map] at h2
      rw [List.getElem?_append_right (by simpa using hi), List.getElem?_map] at h1
      cases q : fr[i - own.length]? with
      | none => rw [q] at h2; cases h2
      | some j =>
        rw [q] at h1 h2
        have e1 : X.N.getD j Str.empty = x := Option.some.inj h1
        have e2 : σ.getD j none = some v := Option.some.inj h2
        obtain ⟨hj, hfree⟩ := c.fr j (List.mem_of_getElem? q)
        rw [e1] at hfree
        have hNj : X.N[j]? = some x := by
          rw [← e1, List.getD_eq_getElem?_getD, List.getElem?_eq_getElem hj]; rfl
        have hσj : σ[j]? = some (some v) := by
          rw [List.getD_eq_getElem?_getD] at e2
          cases z : σ[j]? with
          | none => rw [z] at e2; cases e2
          | some w => rw [z] at e2; rw [show w = some v from e2]
        have hmem : (x, NameKind.free) ∈ scope.names := PySem.mem_of_lookup hfree
        have hup := c.up _ hmem rfl
        obtain ⟨m, hn, hl⟩ := I.loc
        obtain ⟨u, ru, lk⟩ := hl j x v hNj hσj (by rcases hup with z | z; exact .inr (.inl z); exact .inr (.inr z))
        refine ⟨u, ru, .inr ⟨?_, ?_⟩⟩
        · rcases relabel_free (env := X.env) (names := scope.names) hfree with z | z
          · exact .inr z
          · exact .inl z
        · rcases lk with ⟨k1, _⟩ | ⟨_, a, ha, hc⟩
          · rcases hup with z | z
            · rw [show X.env.kindOf x = some .cell from z] at k1; cases k1
            · rw [show X.env.kindOf x = some .free from z] at k1; cases k1
          · exact ⟨a, lookF x a hmem ha, hc.keeps keep⟩
  case cell =>
    intro x a e
    rcases look x a e with ⟨m1, _⟩ | ⟨k1, e1⟩
    · exact ⟨_, (cells x a m1).1⟩
    · obtain ⟨v, q⟩ := I.cell x a e1
      exact ⟨v, q.keeps keep⟩
  case freeC =>
    intro x a e
    rcases look x a e with ⟨m1, _⟩ | ⟨k1, e1⟩
    · exact I.hok.fresh (by have := (cells x a m1).2; omega)
    · exact I.freeC x a e1
  case pin => intro p hp; exact absurd (show p ∈ ([] : List (Addr × Obj)) from hp) (by simp)
  case len =>
    show (tau own fr σ).length = N'.length
    rw [c.nm]; unfold tau; simp
end
end L2

namespace L2
open PySem PySem.Spec PyProof.Rows

/-- what a turn of a comprehension's clause does behind its tests -/
abbrev TM := St → Hp → (St → Hp → Prop) → Prop
def PM (X : Cx) (act : Sem Unit) (t : TM) : Prop :=
  ∀ (pins : List (Addr × Obj)) (s : Shared) (σ : St) (H : Hp) (Q : St → Hp → Prop), Inv X pins σ H s → t σ H Q → wpAny (model X.prog X.w) X.A act (fun _ s' => ∃ σ' H', Inv X pins σ' H' s' ∧ Q σ' H') X.xe s
/-- the tests of a clause -/
def PF (X : Cx) (ifs : List Expr) (t : TT) : Prop :=
  ∀ (pins : List (Addr × Obj)) (s : Shared) (σ : St) (H : Hp) (Q : Bool → Hp → Prop), Inv X pins σ H s → t σ H Q →
    wpAny (model X.prog X.w) X.A (forIn ifs true fun c r => if r = true then do let ok ← isTrue c X.env (eval c X.env); pure (ForInStep.yield ok) else pure (ForInStep.yield r)) (TP X pins σ Q) X.xe s
def tAll : TT := fun _ H Q => Q true H
section
variable {X : Cx}
theorem pf_nil : PF X [] tAll := fun _ s σ H Q I h => wpAny_tests_nil ⟨H, I, h⟩
theorem pf_one {c : Expr} {t : TT} (h : PT X c t) : PF X [c] t := fun pins s σ H Q I q => wpAny_tests_one (h pins s σ H Q I q)

def tEmit (p : Addr) (te : TE) : TM := fun σ H Q => te σ H fun v H1 => ∃ ys, H1 p = some (.lst ys) ∧ ys.length < sizeLine ∧ Q σ (upd H1 p (.lst (ys ++ [v])))
theorem pm_emit {elt : Expr} {te : TE} {p : Addr} (h : PE X elt te) : PM X (do let _ ← call (.builtin "list.append") [.ref p, ← eval elt X.env]) (tEmit p te) := by
  intro pins s σ H Q I q
  refine wpAny_bind (thn (h pins s σ H _ I q) fun u s1 ⟨v, H1, I1, r, ys, hp, hz, q1⟩ => ?_)
  refine wpAny_bind (thn (mt_append pins s1 σ H1 (.ref p) [v] (.ref p) [u] (fun _ H2 => Q σ H2) I1 rfl (.cons r .nil) ⟨p, ys, v, rfl, rfl, hp, hz, q1⟩) fun _ s2 ⟨_, H2, I2, _, q2⟩ => ?_)
  exact wpAny_pure ⟨σ, H2, I2, q2⟩

/-- a clause, walked -/
def tWalk (J : It) (g : TG) (tt : TT) (tm : TM) : TM := fun σ H Q => ∃ W : Nat → Nat → St → Hp → Prop, (∃ m, W 0 m σ H) ∧ ∀ i m σ H, W i m σ H →
  (J.stop i H ∧ Q σ H) ∨ (J.go i H ∧ ∃ N : St → Hp → Prop, (∀ σ' H', N σ' H' → ∃ m', m' < m ∧ W (i + 1) m' σ' H') ∧ ∀ x H', J.yld i H x H' → g x σ H' fun σ2 H2 => tt σ2 H2 fun b H3 => if b = true then tm σ2 H3 N else N σ2 H3)

theorem clause_loop {elt0 : Expr} {gens : List Comprehension} {scope : Scope} {cpos : Pos} {depth : Nat} {target : Expr} {ifs : List Expr} {emit : Sem Unit} {acc : Value} {ip : Pos} {it : Addr} {fp : List Addr} {tn : Nat → Heap → Prop} {J : It} {g : TG} {tt : TT} {tm : TM} {pins : List (Addr × Obj)} {σ : St} {H : Hp} {s : Shared} {Q : St → Hp → Prop}
    (hx : X.xe = fun _ _ => False) (hc : X.calm = true)
    (eq : compTurn (.ListComp elt0 gens scope cpos) depth (.ref it) acc X.env = (do
      standAt ip
      match ← pyNext (.ref it) with
      | none => pure (.done .next)
      | some v =>
        letOwnedTupleGo target (.ref it) v
        assign target X.env v
        let mut ok := true
        for c in ifs do
          if ok then ok ← isTrue c X.env (eval c X.env)
        if ok then emit
        again (.compLoop (.ListComp elt0 gens scope cpos) depth (.ref it) acc X.env)))
    (T : Turn X.prog X.w X.K target J fp it tn) (hg : PG X target g) (ht : PF X ifs tt) (hm : PM X emit tm)
    (I : Inv X pins σ H s) (st : tn 0 s.heap) (hf : ∀ b ∈ fp, FpOk X pins H b) (h : tWalk J g tt tm σ H Q) :
    codeAny (model X.prog X.w) X.A (.compLoop (.ListComp elt0 gens scope cpos) depth (.ref it) acc X.env) (fun r s' => r = .ok .next ∧ ∃ σ' H', Inv X pins σ' H' s' ∧ Q σ' H') s := by
  obtain ⟨W, ⟨m0, w0⟩, turn⟩ := h
  have stat : ∀ {H' : Hp}, (∀ b ∈ fp, H' b = none) → ∀ b ∈ fp, FpOk X pins H' b := fun hn b hb => ⟨hn b hb, (hf b hb).2⟩
  have xe : ∀ {α : Type} {m : Sem α} {Q' : α → Shared → Prop} {E : Value → Shared → Prop} {s : Shared}, wpAny (model X.prog X.w) X.A m Q' X.xe s → wpAny (model X.prog X.w) X.A m Q' E s := fun q => wpAny_mono q (fun _ _ z => z) fun _ _ z => by rw [hx] at z; exact z.elim
  refine codeAny_loop rfl (fun n s' => ∃ i σ' H', Inv X pins σ' H' s' ∧ tn i s'.heap ∧ (∀ b ∈ fp, H' b = none) ∧ W i n σ' H') ?_ m0 ⟨0, σ, H, I, st, fun b hb => (hf b hb).1, w0⟩
  rintro n s3 ⟨i, σ3, H3, I3, st3, fr3, w3⟩
  show wpAny _ X.A ((compTurn (.ListComp elt0 gens scope cpos) depth (.ref it) acc X.env).onRaise (fun x => do noteFrame x X.env; theTreesLotGoes x)) _ _ s3
  refine wpAny_noted ?_
  rw [eq]
  refine wpAny_bind (wpAny_standAt (wpAny_bind ?_))
  rcases turn i n σ3 H3 w3 with ⟨stop, qn⟩ | ⟨go, N, hN, step⟩
  · refine thn (T.done X rfl rfl rfl hc i pins s3 σ3 H3 _ I3 (stat fr3) st3 stop) fun r s4 ⟨hr, I4⟩ => ?_
    subst hr
    exact wpAny_pure ⟨rfl, σ3, H3, I4, qn⟩
  · refine thn (T.item X rfl rfl rfl hc i pins s3 σ3 H3 _ I3 (stat fr3) st3 go) fun r s4 ⟨u, hr, h4⟩ => ?_
    subst hr
    refine wpAny_bind (thn h4 fun _ s5 ⟨x, H5, I5, r5, y5, st5, fr5⟩ => ?_)
    have I5' := I5.pinned (stat fr5) (T.obj _ _ st5)
    refine wpAny_bind (xe (thn (hg _ s5 σ3 H5 x u _ I5' r5 (step x H5 y5)) fun _ s6 ⟨σ6, H6, I6, q6⟩ => ?_))
    have again : ∀ {σ7 : St} {H7 : Hp} {s7 : Shared}, Inv X (pins ++ pinsAt fp s5.heap) σ7 H7 s7 → N σ7 H7 → ∃ m, m < n ∧ ∃ i σ' H', Inv X pins σ' H' s7 ∧ tn i s7.heap ∧ (∀ b ∈ fp, H' b = none) ∧ W i m σ' H' := fun {σ7 H7 s7} I7 n7 => by
      obtain ⟨m', hm, w7⟩ := hN σ7 H7 n7
      refine ⟨m', hm, i + 1, σ7, H7, I7.unpinned, T.keep _ _ _ st5 fun b hb o e => (I7.pin (b, o) (List.mem_append_right _ (List.mem_append_right _ (mem_pinsAt hb e)))).1, fun b hb => ?_, w7⟩
      obtain ⟨o, e, d⟩ := T.obj _ _ st5 b hb
      exact (I7.pin (b, o) (List.mem_append_right _ (List.mem_append_right _ (mem_pinsAt hb e)))).2.1
    refine wpAny_bind (xe (thn (ht _ s6 σ6 H6 _ I6 q6) fun ok s7 ⟨H7, I7, q7⟩ => ?_))
    cases ok with
    | false =>
      rw [if_neg (by decide)] at q7
      exact wpAny_pure ⟨rfl, again I7 q7⟩
    | true =>
      rw [if_pos rfl] at q7
      refine wpAny_bind (xe (thn (hm _ s7 σ6 H7 _ I7 q7) fun _ s8 ⟨σ8, H8, I8, q8⟩ => ?_))
      exact wpAny_pure ⟨rfl, again I8 q8⟩
end
end L2

namespace L2
open PySem PySem.Spec PyProof.Rows
section
variable {X : Cx} {pins : List (Addr × Obj)} {σ : St} {H : Hp} {s : Shared} {scope : Scope} {N' own : List Str} {fr : List Nat}

theorem comp_block {elt0 target iter : Expr} {ifs : List Expr} {rest : List Comprehension} {cpos : Pos} {g : TG} {tt : TT} {tm : Addr → TM} {emit : Value → Env → Sem Unit} {it : Addr} {fp : List Addr} {tn : Nat → Heap → Prop} {J : It} {Q : VK} {E : Value → Shared → Prop} {RR : Value → Addr → Result → Shared → Prop}
    (c : CompOk X scope N' own fr) (hc : X.calm = true)
    (eq : ∀ it acc env, compTurn (.ListComp elt0 (⟨target, iter, ifs, 0⟩ :: rest) scope cpos) 0 it acc env = (do
      standAt iter.pos
      match ← pyNext it with
      | none => pure (.done .next)
      | some v =>
        letOwnedTupleGo target it v
        assign target env v
        let mut ok := true
        for c in ifs do
          if ok then ok ← isTrue c env (eval c env)
        if ok then emit acc env
        again (.compLoop (.ListComp elt0 (⟨target, iter, ifs, 0⟩ :: rest) scope cpos) 0 it acc env)))
    (T : Turn X.prog X.w X.K target J fp it tn)
    (hb : ∀ (cl : List (Str × Addr)) (C : Addr) (s : Shared) (H : Hp) (fp : List Addr) (p : Addr), PG (cxComp X scope N' own cl C s H fp) target g ∧ PF (cxComp X scope N' own cl C s H fp) ifs tt ∧ PM (cxComp X scope N' own cl C s H fp) (emit (.ref p) (compEnvC scope cl C X.env)) (tm p))
    (I : Inv X pins σ H s) (st : tn 0 s.heap) (hf : ∀ b ∈ fp, FpOk X pins H b)
    (h : ∀ p, H p = none → tWalk J g tt (tm p) (tau own fr σ) (upd H p (.lst [])) (fun _ H' => Q (.ref p) H'))
    (hRR : ∀ (p C : Addr) (m : Str → Option Value) (H' : Hp) (s' : Shared), Inv X pins σ H' s' → s'.heap.Ns C m → FpOk X pins H' C → Q (.ref p) H' → RR (.ref p) C (.ok .next) s') :
    wpAny (model X.prog X.w) X.A (newList []) (fun acc s₃ => wpAny (model X.prog X.w) X.A (newFunctionEnv scope X.env.globals (clos X.env.cells scope.names []) [] X.env.qual none .none (some X.env)) (fun cenv s₄ =>
      codeAny (model X.prog X.w) X.A (.compStart (.ListComp elt0 (⟨target, iter, ifs, 0⟩ :: rest) scope cpos) 0 (.ref it) acc { cenv with scope := relabel scope X.env }) (RR acc cenv.locals) s₄) E s₃) E s := by
  refine wpAny_newObj_type ?_
  have I3 : Inv X pins σ (upd H s.heap.objs.size (.lst [])) { s with heap := s.heap.push { cls := .type "list", dict := none, data := .seq ([] : List Value).toArray } } := I.lnew (t' := s.toks) .nil (Nat.zero_le _)
  have hn0 : H s.heap.objs.size = none := I.hok.fresh (Nat.le_refl _)
  generalize e3 : ({ s with heap := s.heap.push { cls := .type "list", dict := none, data := .seq ([] : List Value).toArray } } : Shared) = s3 at I3 ⊢
  have k3 : ∀ b o, s.heap.get? b = some o → s3.heap.get? b = some o := fun b o e => by rw [← e3]; exact Heap.get?_push_of_some _ e
  have hne : ∀ b ∈ fp, b ≠ s.heap.objs.size := fun b hb => by
    obtain ⟨o, e, _⟩ := T.obj _ _ st b hb
    exact Nat.ne_of_lt (Heap.lt_size e)
  have hf3 : ∀ b ∈ fp, FpOk X pins (upd H s.heap.objs.size (.lst [])) b := fun b hb => ⟨by rw [upd_ne (hne b hb)]; exact (hf b hb).1, (hf b hb).2⟩
  have st3 : tn 0 s3.heap := T.keep _ _ _ st fun b _ o e => k3 b o e
  refine wp_compEnv fun h' keep ns cells apart => ?_
  have I4 := inv_comp c I3 hf3 (T.obj _ _ st3) keep ns cells apart
  have st4 : tn 0 h' := T.keep _ _ _ st3 fun b _ o e => keep b o e
  obtain ⟨hg, ht, hm⟩ := hb (cellsFrom (s3.heap.objs.size + 1) scope.names [] ++ clos X.env.cells scope.names []) s3.heap.objs.size s3 (upd H s.heap.objs.size (.lst [])) fp s.heap.objs.size
  have hf4 : ∀ b ∈ fp, FpOk (cxComp X scope N' own (cellsFrom (s3.heap.objs.size + 1) scope.names [] ++ clos X.env.cells scope.names []) s3.heap.objs.size s3 (upd H s.heap.objs.size (.lst [])) fp) [] (upd H s.heap.objs.size (.lst [])) b := fun b hb =>
    ⟨(hf3 b hb).1, (I4.ok.exf b hb).1, I4.ok.exfs b hb, .inl hb, (I4.ok.exf b hb).2, fun p hp => absurd (show p ∈ ([] : List (Addr × Obj)) from hp) (by simp)⟩
  have loop : codeAny (model X.prog X.w) X.A (.compLoop (.ListComp elt0 (⟨target, iter, ifs, 0⟩ :: rest) scope cpos) 0 (.ref it) (.ref s.heap.objs.size) (compEnvC scope (cellsFrom (s3.heap.objs.size + 1) scope.names [] ++ clos X.env.cells scope.names []) s3.heap.objs.size X.env)) (RR (.ref s.heap.objs.size) s3.heap.objs.size) { s3 with heap := h' } := by
    refine codeAny_mono (clause_loop (X := cxComp X scope N' own (cellsFrom (s3.heap.objs.size + 1) scope.names [] ++ clos X.env.cells scope.names []) s3.heap.objs.size s3 (upd H s.heap.objs.size (.lst [])) fp) (pins := []) rfl hc (eq _ _ _) T hg ht hm I4 st4 hf4 (h _ hn0)) fun r s5 hr => ?_
    obtain ⟨rfl, σ5, H5, I5, q5⟩ := hr
    obtain ⟨m, hn, _⟩ := id I5.loc
    have u5 : Un (frs X.stack) fp (upd H s.heap.objs.size (.lst [])) H5 s3.heap s5.heap := I5.base
    have hok5 : HOk X.prog X.w H5 s5.heap := I5.hok
    have os5 : s5.os = s3.os := I5.os
    have bare5 := I5.bare
    have free5 : H5 s3.heap.objs.size = none := I5.free
    have hn : s5.heap.Ns s3.heap.objs.size m := hn
    clear I5
    obtain ⟨hh, gg, dd, tk, os'⟩ := s5
    obtain rfl : os' = s3.os := os5
    have I6 : Inv X pins σ H5 { s3 with heap := hh, gens := gg, drawn := dd, toks := tk } := I3.call (ch := fp) u5 hok5 bare5 fun b hb => ⟨(hf3 b hb).2.2.2.1, (hf3 b hb).2.1, (hf3 b hb).2.2.2.2.1, (hf3 b hb).2.2.2.2.2⟩
    exact hRR _ _ m H5 _ I6 hn (I3.fpOk (Nat.le_refl _) free5) q5
  exact codeAny_compStart_list loop (T.self _ 0 _ _ _ st4 loop)

/-- a comprehension, by its clauses -/
def tComp (wi : TI) (g : TG) (tt : TT) (tm : Addr → TM) (own : List Str) (fr : List Nat) : TE := fun σ H Q => wi σ H fun J H1 => ∀ p, H1 p = none → tWalk J g tt (tm p) (tau own fr σ) (upd H1 p (.lst [])) (fun _ H' => Q (.ref p) H')

theorem pe_comp0 {elt0 target iter : Expr} {ifs : List Expr} {rest : List Comprehension} {cpos : Pos} {wi : TI} {g : TG} {tt : TT} {tm : Addr → TM} {emit : Value → Env → Sem Unit} (c : CompOk X scope N' own fr) (hc : X.calm = true)
    (eq : ∀ it acc env, compTurn (.ListComp elt0 (⟨target, iter, ifs, 0⟩ :: rest) scope cpos) 0 it acc env = (do
      standAt iter.pos
      match ← pyNext it with
      | none => pure (.done .next)
      | some v =>
        letOwnedTupleGo target it v
        assign target env v
        let mut ok := true
        for c in ifs do
          if ok then ok ← isTrue c env (eval c env)
        if ok then emit acc env
        again (.compLoop (.ListComp elt0 (⟨target, iter, ifs, 0⟩ :: rest) scope cpos) 0 it acc env)))
    (hi : PI X target iter wi)
    (hb : ∀ (cl : List (Str × Addr)) (C : Addr) (s : Shared) (H : Hp) (fp : List Addr) (p : Addr), PG (cxComp X scope N' own cl C s H fp) target g ∧ PF (cxComp X scope N' own cl C s H fp) ifs tt ∧ PM (cxComp X scope N' own cl C s H fp) (emit (.ref p) (compEnvC scope cl C X.env)) (tm p))
    (hs : ∀ x, foldedSetIterable iter X.env x = pure x := by intro _; rfl) :
    PE X (.ListComp elt0 (⟨target, iter, ifs, 0⟩ :: rest) scope cpos) (tComp wi g tt tm own fr) := by
  intro pins s σ H Q I h
  rw [eval_ListComp]
  refine wpAny_comprehension_free (use := none) rfl hs (closureFor_eq (comp_found c I.ok)) c.kind (fun y hy e => (c.names y hy).trans (by rw [e])) ?_
  refine thn (hi pins s σ H _ I h) fun v s1 h1 => thn h1 fun itv s2 h2 => ?_
  obtain ⟨it, fp, tn, J, H2, e, I2, T, st2, f2, q⟩ := h2
  subst e
  refine comp_block (Q := Q) c hc eq T hb I2 st2 f2 q fun p C m H' s' I' hn hC q' => ?_
  exact ⟨m, hn, fun h' sb => ⟨.ref p, H', I'.turned (t' := s'.toks) (fun b o hb e => (sb.2 b hb).trans e) hC.1 hC.2.1 hC.2.2.2.1 hC.2.2.2.2.1 hC.2.2.2.2.2, rfl, q'⟩⟩

/-- x = [..], where the store comes ahead of the block's names being let go -/
def tAsgC (wi : TI) (g : TG) (tt : TT) (tm : Addr → TM) (own : List Str) (fr : List Nat) (i : Nat) : TS := fun D σ H => tComp wi g tt tm own fr σ H fun v H' => D.nx (σ.set i (some v)) H'
theorem ps_comp0 {elt0 target iter : Expr} {ifs : List Expr} {rest : List Comprehension} {cpos spos py : Pos} {wi : TI} {g : TG} {tt : TT} {tm : Addr → TM} {emit : Value → Env → Sem Unit} {i : Nat} {y : Str} (c : CompOk X scope N' own fr) (hc : X.calm = true)
    (eq : ∀ it acc env, compTurn (.ListComp elt0 (⟨target, iter, ifs, 0⟩ :: rest) scope cpos) 0 it acc env = (do
      standAt iter.pos
      match ← pyNext it with
      | none => pure (.done .next)
      | some v =>
        letOwnedTupleGo target it v
        assign target env v
        let mut ok := true
        for c in ifs do
          if ok then ok ← isTrue c env (eval c env)
        if ok then emit acc env
        again (.compLoop (.ListComp elt0 (⟨target, iter, ifs, 0⟩ :: rest) scope cpos) 0 it acc env)))
    (hi : PI X target iter wi)
    (hb : ∀ (cl : List (Str × Addr)) (C : Addr) (s : Shared) (H : Hp) (fp : List Addr) (p : Addr), PG (cxComp X scope N' own cl C s H fp) target g ∧ PF (cxComp X scope N' own cl C s H fp) ifs tt ∧ PM (cxComp X scope N' own cl C s H fp) (emit (.ref p) (compEnvC scope cl C X.env)) (tm p))
    (hsw : swapsWith (.ListComp elt0 (⟨target, iter, ifs, 0⟩ :: rest) scope cpos) (some (.Name y py)) spos.line X.env = pure true)
    (hN : X.N.Nodup) (hy : X.N[i]? = some y) (hl : X.env.scope.names.lookup y = some .local)
    (hs : ∀ x, foldedSetIterable iter X.env x = pure x := by intro _; rfl) :
    PS X (.Assign [.Name y py] (.ListComp elt0 (⟨target, iter, ifs, 0⟩ :: rest) scope cpos) spos) (tAsgC wi g tt tm own fr i) := by
  intro pins s σ H D I h
  rw [exec_Assign_Name_used _ _ _ _ hsw]
  refine wpAny_bind (wpAny_standAt (wpAny_bind ?_))
  show wpAny _ X.A (do let _ ← comprehension (.ListComp elt0 (⟨target, iter, ifs, 0⟩ :: rest) scope cpos) scope X.env _ (newList []) false (eval iter X.env) (some (assign (.Name y py) X.env))) _ _ s
  refine wpAny_bind (thn (wpAny_comprehension_free (use := some (assign (.Name y py) X.env)) (Q := fun _ s' => SP X pins D .next s') rfl hs (closureFor_eq (comp_found c I.ok)) c.kind (fun y hy e => (c.names y hy).trans (by rw [e])) ?_) fun _ s' q => wpAny_pure (wpAny_pure q))
  refine thn (hi pins s σ H _ I h) fun v s1 h1 => thn h1 fun itv s2 h2 => ?_
  obtain ⟨it, fp, tn, J, H2, e, I2, T, st2, f2, q⟩ := h2
  subst e
  refine comp_block (Q := fun v H' => D.nx (σ.set i (some v)) H') c hc eq T hb I2 st2 f2 q fun p C m H' s' I' hn hC q' => ?_
  show wpAny _ X.A (assign (.Name y py) X.env (.ref p)) _ _ _
  refine wpAny_assign_Name (store_ok2 I' hN hy (.inl hl) (v := .ref p) rfl (fun s'' I'' ⟨a, sb, ha⟩ => ?_) (.inr hl))
  have hCa : C ≠ a := by
    rcases ha with rfl | ha
    · exact hC.2.1
    · exact Ne.symm (hC.2.2.2.2.1 y a ha)
  refine ⟨m, hn.sameBut sb hCa, fun h' sb' => ⟨σ.set i (some (.ref p)), H', I''.turned (t' := s''.toks) (fun b o hb e => (sb'.2 b hb).trans e) hC.1 hC.2.1 hC.2.2.2.1 hC.2.2.2.2.1 hC.2.2.2.2.2, q'⟩⟩
end
end L2

namespace L2
open PySem PySem.Spec PyProof.Rows
section
variable {X : Cx}

/-! ### comprehensions of one clause and of two -/
section
variable {scope : Scope} {N' own : List Str} {fr : List Nat} {elt target iter : Expr} {ifs : List Expr} {cpos : Pos} {wi : TI} {g : TG} {tt : TT} {te : TE}
def tComp1 (wi : TI) (g : TG) (tt : TT) (te : TE) (own : List Str) (fr : List Nat) : TE := tComp wi g tt (fun p => tEmit p te) own fr
theorem pe_comp1 (c : CompOk X scope N' own fr) (hc : X.calm = true) (hi : PI X target iter wi)
    (hb : ∀ (cl : List (Str × Addr)) (C : Addr) (s : Shared) (H : Hp) (fp : List Addr), PG (cxComp X scope N' own cl C s H fp) target g ∧ PF (cxComp X scope N' own cl C s H fp) ifs tt ∧ PE (cxComp X scope N' own cl C s H fp) elt te)
    (hs : ∀ x, foldedSetIterable iter X.env x = pure x := by intro _; rfl) : PE X (.ListComp elt [⟨target, iter, ifs, 0⟩] scope cpos) (tComp1 wi g tt te own fr) :=
  pe_comp0 (emit := fun acc env => do let _ ← call (.builtin "list.append") [acc, ← eval elt env]) c hc (fun _ _ _ => rfl) hi
    (fun cl C s H fp p => ⟨(hb cl C s H fp).1, (hb cl C s H fp).2.1, pm_emit (hb cl C s H fp).2.2⟩) hs
def tAsgC1 (wi : TI) (g : TG) (tt : TT) (te : TE) (own : List Str) (fr : List Nat) (i : Nat) : TS := tAsgC wi g tt (fun p => tEmit p te) own fr i
theorem ps_comp1 {spos py : Pos} {i : Nat} {y : Str} (c : CompOk X scope N' own fr) (hc : X.calm = true) (hi : PI X target iter wi)
    (hb : ∀ (cl : List (Str × Addr)) (C : Addr) (s : Shared) (H : Hp) (fp : List Addr), PG (cxComp X scope N' own cl C s H fp) target g ∧ PF (cxComp X scope N' own cl C s H fp) ifs tt ∧ PE (cxComp X scope N' own cl C s H fp) elt te)
    (hsw : swapsWith (.ListComp elt [⟨target, iter, ifs, 0⟩] scope cpos) (some (.Name y py)) spos.line X.env = pure true)
    (hN : X.N.Nodup) (hy : X.N[i]? = some y) (hl : X.env.scope.names.lookup y = some .local)
    (hs : ∀ x, foldedSetIterable iter X.env x = pure x := by intro _; rfl) : PS X (.Assign [.Name y py] (.ListComp elt [⟨target, iter, ifs, 0⟩] scope cpos) spos) (tAsgC1 wi g tt te own fr i) :=
  ps_comp0 (emit := fun acc env => do let _ ← call (.builtin "list.append") [acc, ← eval elt env]) c hc (fun _ _ _ => rfl) hi
    (fun cl C s H fp p => ⟨(hb cl C s H fp).1, (hb cl C s H fp).2.1, pm_emit (hb cl C s H fp).2.2⟩) hsw hN hy hl hs
end

/-! ### text * int, text[a:b] -/
def rMulS : R2 := fun x y H Q => ∃ z n, x = .str z ∧ y = .int n ∧ z.length ≤ 1000 ∧ -1000 ≤ n ∧ n ≤ 1000 ∧ Q (.str (Txt.mul z n)) H
theorem op_mulS : OpR X (binaryOp .Mult) rMulS := by
  intro pins s σ H x y v u Q I rx ry h
  obtain ⟨z, n, rfl, rfl, h1, h2, h3, q⟩ := h
  obtain ⟨t, rfl⟩ := rx
  obtain ⟨t', rfl⟩ := ry
  exact SB.mul (mulOk_of 1000 1000 h1 (by omega) (by omega) (by decide) (by decide)) fun t' k => ⟨.str (Txt.mul z n), H, I.tok _, ⟨_, rfl⟩, q⟩
def rSlS : V → Option Int → Option Int → Hp → VK → Prop := fun x lo hi H Q => ∃ z, x = .str z ∧ z.length ≤ sizeLine ∧ Q (.str (Txt.slice z lo hi)) H
theorem sl_str : SlR X rSlS := by
  intro pins s σ H x v vl vu lo hi sl Q I rx hs pl pu h
  obtain ⟨z, rfl, hz, q⟩ := h
  obtain ⟨t, rfl⟩ := rx
  refine ⟨"str", _, F.slot_str_getitem.lookup, typeIs_str _ _ _, ?_⟩
  have fin : ∀ t' k, EP X pins σ Q (.str (Txt.slice z lo hi) t') { s with toks := k } := fun t' k => ⟨.str (Txt.slice z lo hi), H, I.tok _, ⟨_, rfl⟩, q⟩
  have fz : (Txt.slice z lo hi).length ≤ sizeLine := Nat.le_trans (Txt.slice_le z _ _) hz
  cases pl with
  | none => cases pu with
    | none => exact wpAny_getItem_str_slice (l := none) (u := none) (st := none) hs rfl (post_val_or_str ⟨fz, fin⟩)
    | int j tj => exact wpAny_getItem_str_slice (l := none) (u := some (j, tj)) (st := none) hs rfl (post_val_or_str ⟨fz, fin⟩)
  | int i ti => cases pu with
    | none => exact wpAny_getItem_str_slice (l := some (i, ti)) (u := none) (st := none) hs rfl (post_val_or_str ⟨fz, fin⟩)
    | int j tj => exact wpAny_getItem_str_slice (l := some (i, ti)) (u := some (j, tj)) (st := none) hs rfl (post_val_or_str ⟨fz, fin⟩)

/-! ### d.update(e) -/

/-! ### isinstance -/
theorem call_isi {id : String} (hid : id = "isinstance") : CallR X (.builtin id) (fun xs H Q => ∃ x n t b, xs = [x, .ty n] ∧ TyOf X.K H x t ∧ PySem.W.kitOne X.K t (.type n) = some b ∧ Q (.bl b) H) := by
  subst hid
  intro pins s σ H xs us Q I r h
  obtain ⟨x, n, t, b, rfl, ty, e, q⟩ := h
  obtain ⟨u, w', rfl, rx, ry⟩ := vals2 r
  cases ry
  exact isinst_ok I rx ty e fun tk => ⟨.bl b, H, I.tok _, rfl, q⟩
end
end L2

namespace L2
open PySem PySem.Spec PyProof.Rows
section
variable {X : Cx}
/-! ### enumerate(list) -/
def Ite (K : PySem.W.Frag) (a : Addr) : It :=
  ⟨fun i H => ∃ xs x, SqL K H a xs ∧ xs[i]? = some x, fun i H x H' => ∃ p y, x = .ref p ∧ H p = none ∧ H' = upd H p (.tup [.int i, y]) ∧ ∀ xs, SqL K H a xs → xs[i]? = some y, fun i H => ∃ xs, SqL K H a xs ∧ xs.length ≤ i⟩

theorem turn_enum {P : Program} {w : World} {K : PySem.W.Frag} {elts : List Expr} {x1} {tpos : Pos} (a e it : Addr) (hne : e ≠ it) :
    Turn P w K (.Tuple elts x1 tpos) (Ite K a) [e, it] e (fun i h => h.IsListIter it a i ∧ ∃ old, IsEnum h e it (i : Int) old) where
  mem := by simp
  obj := fun i h st b hb => by
    obtain ⟨⟨o, h1, h2, h3⟩, old, h4⟩ := st
    rcases List.mem_cons.mp hb with rfl | hb
    · exact ⟨_, h4, fun v z => by simp at z⟩
    · have e : b = it := by simpa using hb
      subst e
      exact ⟨o, h1, fun v z => by rw [h3] at z; cases z⟩
  keep := fun i h h' st k => ⟨st.1.at fun o q => k it (by simp) o q, let ⟨old, q⟩ := st.2; ⟨old, k e (by simp) _ q⟩⟩
  item := by
    intro X hP hw hK hc i pins s σ H E I hf st hg
    subst hP hw hK
    obtain ⟨xs, x, hq, hx⟩ := hg
    obtain ⟨its, rv, p, hz⟩ := I.list hq
    obtain ⟨u, hu, ru⟩ := rv.get hx
    obtain ⟨hit, old, he⟩ := st
    have fe := hf e (by simp)
    have fi := hf it (by simp)
    refine wpAny_pyNext_enum_item he hit p.isList (x := u) (by simpa using hu) hne fun h1 e1 i1 t1 z1 k1 => ?_
    refine ⟨_, rfl, wpAny_letOwnedTupleGo_enum (s := { s with heap := h1, toks := s.toks + 1 }) e1 fun h2 e2 sb2 => ?_⟩
    have hp : H s.heap.objs.size = none := I.hok.fresh (Nat.le_refl _)
    have hes : e ≠ s.heap.objs.size := Nat.ne_of_lt (Heap.lt_size he)
    have k2 : ∀ b o, b ≠ e → b ≠ it → s.heap.get? b = some o → h2.get? b = some o := fun b o q1 q2 q => (sb2.2 b q1).trans (k1 b o q1 q2 q)
    have t2 : h2.get? s.heap.objs.size = some { cls := .type "tuple", data := .seq #[.int i s.toks, u] } := (sb2.2 _ (Ne.symm hes)).trans t1
    have nch : ∀ b, b ∉ [e, it] → b ≠ e ∧ b ≠ it := fun b hb => ⟨fun z => hb (by simp [z]), fun z => hb (by simp [z])⟩
    refine ⟨.ref s.heap.objs.size, upd H s.heap.objs.size (.tup [.int i, x]), ?_, rfl, ⟨_, x, rfl, hp, rfl, fun ys hy => by rw [I.list_inj hy hq]; exact hx⟩, ⟨?_, u, e2⟩, fun b hb => ?_⟩
    · refine Inv.step (s := s) (h' := h2) (g' := s.gens) (d' := s.drawn) (t' := s.toks + 1) (ch := [e, it]) I (fun b hb => ?_) (fun b o _ _ hc q _ => k2 b o (nch b hc).1 (nch b hc).2 q) (fun b o _ _ hc q _ => ⟨o.slots, k2 b o (nch b hc).1 (nch b hc).2 q⟩)
        (fun b o _ q n => by rw [upd_ne (Nat.ne_of_lt (Heap.lt_size q))]; exact n) (fun b o hc q => ⟨o, k2 b o (nch b hc).1 (nch b hc).2 q⟩)
        (fun b xs q => by rw [upd_ne (ne_of_none q hp)]; exact q) (fun b o v q => by rw [upd_ne (ne_of_none q hp)]; exact q) (fun b ps q => ⟨#[], by rw [upd_ne (ne_of_none q hp), q]; simp⟩) (fun m hm => ?_) (fun b v q => ?_) I.bare
      · rcases List.mem_cons.mp hb with rfl | hb
        · exact ⟨fe.2.2.2.1, fe.2.1, fe.2.2.2.2.1, fe.2.2.2.2.2⟩
        · have z : b = it := by simpa using hb
          subst z
          exact ⟨fi.2.2.2.1, fi.2.1, fi.2.2.2.2.1, fi.2.2.2.2.2⟩
      · obtain ⟨o, es, ep, ho, r⟩ := hm
        exact ⟨o, es, ep, k2 _ o (Ne.symm fe.2.1) (Ne.symm fi.2.1) ho, r⟩
      · by_cases hb : b = s.heap.objs.size
        · subst hb
          rw [upd_same] at q
          cases q
          exact ⟨by show 2 ≤ sizeLine; decide, [.int i s.toks, u], .cons ⟨_, rfl⟩ (.cons ru .nil), _, t2, rfl, _, rfl⟩
        · rw [upd_ne hb] at q
          have nt : ∀ c w', H c = some w' → c ≠ e ∧ c ≠ it := fun c w' z => ⟨(fun y => by rw [y, fe.1] at z; cases z), (fun y => by rw [y, fi.1] at z; cases z)⟩
          refine (I.hok b v q).stay (fun c w' hc r => ?_) (fun c r => by rw [upd_ne (ne_of_none r hp)]; exact r) fun c ys r => by rw [upd_ne (ne_of_none r hp)]; exact r
          rcases hc with rfl | hc
          · exact k2 c w' (nt c v q).1 (nt c v q).2 r
          · exact k2 c w' (nt c _ hc).1 (nt c _ hc).2 r
    · obtain ⟨o, q1, q2, q3⟩ := i1
      exact ⟨o, (sb2.2 _ (Ne.symm hne)).trans q1, q2, q3⟩
    · rcases List.mem_cons.mp hb with rfl | hb
      · rw [upd_ne hes]; exact fe.1
      · have z : b = it := by simpa using hb
        subst z
        obtain ⟨o, q1, _⟩ := hit
        rw [upd_ne (Nat.ne_of_lt (Heap.lt_size q1))]
        exact fi.1
  done := by
    intro X hP hw hK hc i pins s σ H E I hf st hg
    subst hP hw hK
    obtain ⟨xs, hq, hx⟩ := hg
    obtain ⟨its, rv, p, hz⟩ := I.list hq
    obtain ⟨hit, old, he⟩ := st
    obtain ⟨f0, f1, f2, f3, f4, f5⟩ := hf it (by simp)
    have hl := rv.length
    exact wpAny_pyNext_enum_end (I.ok.hd hc) he hit p.isList (by simp; omega) fun h' eb => ⟨rfl, I.turned (t' := s.toks) (fun b o hb q => eb b o hb q) f0 f1 f3 f4 f5⟩
  self := fun _ _ _ _ _ st h => let ⟨_, q⟩ := st.2; wpAny_pyIter_enum q h

def iEnum (K : PySem.W.Frag) (ta : TA) : TI := fun σ H R => ta σ H fun vs H1 => ∃ a, vs = [.ref a] ∧ (∃ xs, SqL K H1 a xs) ∧ R (Ite K a) H1
theorem pi_enum {a : Expr} {ta : TA} {p pos : Pos} {elts : List Expr} {x1} {tpos : Pos} (hg : Gl X "enumerate") (hm : X.mg "enumerate" = none) (ha : PA X [a] ta) (hs : starEach [a] X.env = [(false, eval a X.env)] := by rfl) :
    PI X (.Tuple elts x1 tpos) (.Call (.Name "enumerate" p) [a] [] pos) (iEnum X.K ta) := by
  intro pins s σ H R I h
  refine Call_ (ld_blt I hg hm boot_enumerate (PyProof.Rows.callWith_type1 (thn (ha pos pins s σ H _ I h) fun us s1 ⟨vs, H1, I1, r1, q1⟩ => ?_) hs rfl))
  obtain ⟨l, rfl, ⟨xs, hq⟩, q⟩ := q1
  obtain ⟨u, rfl, ru⟩ := vals1 r1
  cases ru
  obtain ⟨its, rv, pl, hz⟩ := I1.list hq
  refine call_enumerate_list pl.isList fun h' he hit hsz hk => wpAny_pyIter_enum he ?_
  have I2 : Inv X pins σ H1 { s1 with heap := h' } := I1.kept (t' := s1.toks) hk
  refine ⟨s1.heap.objs.size + 1, [s1.heap.objs.size + 1, s1.heap.objs.size], _, _, H1, rfl, I2, turn_enum l _ _ (Nat.succ_ne_self _), ⟨hit, _, he⟩, fun b hb => ?_, q⟩
  rcases List.mem_cons.mp hb with rfl | hb
  · exact I1.fpOk (Nat.le_succ _) (I1.hok.fresh (Nat.le_succ _))
  · have e : b = s1.heap.objs.size := by simpa using hb
    subst e
    exact I1.fpOk (Nat.le_refl _) (I1.hok.fresh (Nat.le_refl _))
end

end L2

namespace L2
open PySem PySem.Spec PyProof.Rows

/-! ### data laid in the heap -/
mutual
def Rep (K : PySem.W.Frag) (H : Hp) : PyData → V → Prop
  | .none, v => v = .non
  | .bool b, v => v = .bl b
  | .int i, v => v = .int i
  | .str x, v => v = .str x
  | .list ds, v => ∃ a xs, v = .ref a ∧ SqL K H a xs ∧ Reps K H ds xs
  | .tuple ds, v => ∃ a xs, v = .ref a ∧ SqT K H a xs ∧ Reps K H ds xs
  | .dict _, _ => False
def Reps (K : PySem.W.Frag) (H : Hp) : List PyData → List V → Prop
  | [], xs => xs = []
  | d :: ds, xs => ∃ v vs, xs = v :: vs ∧ Rep K H d v ∧ Reps K H ds vs
end

mutual
theorem rep_reads {X : Cx} {pins : List (Addr × Obj)} {σ : St} {H : Hp} {s : Shared} (I : Inv X pins σ H s) : ∀ (d : PyData) {v : V} {u : Value}, Rep X.K H d v → RelV v u → ∃ as, Reads s.heap u d as
  | .none, v, u, h, r => by unfold Rep at h; subst h; cases r; exact ⟨_, .none⟩
  | .bool b, v, u, h, r => by unfold Rep at h; subst h; cases r; exact ⟨_, .bool b⟩
  | .int i, v, u, h, r => by unfold Rep at h; subst h; obtain ⟨t, rfl⟩ := r; exact ⟨_, .int i t⟩
  | .str x, v, u, h, r => by unfold Rep at h; subst h; obtain ⟨t, rfl⟩ := r; exact ⟨_, .str x t⟩
  | .list ds, v, u, h, r => by
    unfold Rep at h
    obtain ⟨a, xs, rfl, hq, hr⟩ := h
    cases r
    obtain ⟨its, rv, p, hz⟩ := I.list hq
    obtain ⟨as, q⟩ := reps_reads I ds hr rv
    obtain ⟨o, h1, h2, n, h3⟩ := p.isList
    exact ⟨_, reads_list_at h1 h2 h3 (by simpa using q)⟩
  | .tuple ds, v, u, h, r => by
    unfold Rep at h
    obtain ⟨a, xs, rfl, hq, hr⟩ := h
    cases r
    obtain ⟨its, rv, p, hz⟩ := I.tuple hq
    obtain ⟨as, q⟩ := reps_reads I ds hr rv
    obtain ⟨o, h1, h2, n, h3⟩ := p
    exact ⟨_, reads_tuple_at h1 h2 h3 (by simpa using q)⟩
  | .dict _, _, _, h, _ => by unfold Rep at h; exact h.elim
theorem reps_reads {X : Cx} {pins : List (Addr × Obj)} {σ : St} {H : Hp} {s : Shared} (I : Inv X pins σ H s) : ∀ (ds : List PyData) {vs : List V} {us : List Value}, Reps X.K H ds vs → Vals vs us → ∃ as, ReadsAll s.heap us ds as
  | [], vs, us, h, r => by unfold Reps at h; subst h; cases r; exact ⟨_, .nil⟩
  | d :: ds, vs, us, h, r => by
    unfold Reps at h
    obtain ⟨v, vs', rfl, h1, h2⟩ := h
    cases r with
    | cons r rr =>
      obtain ⟨as, q1⟩ := rep_reads I d h1 r
      obtain ⟨bs, q2⟩ := reps_reads I ds h2 rr
      exact ⟨_, .cons q1 q2⟩
end

theorem SqT.same {K : PySem.W.Frag} {H H' : Hp} {a : Addr} {xs : List V} (h : Same H H') (q : SqT K H a xs) : SqT K H' a xs := by
  rcases q with (q | ⟨o, q⟩) | q
  · exact .inl (.inl (h _ _ q))
  · exact .inl (.inr ⟨o, h _ _ q⟩)
  · exact .inr q


section
variable {X : Cx}
def rEqD (K : PySem.W.Frag) (neg : Bool) : R2 := fun x y H Q => ∃ d e, Rep K H d x ∧ Rep K H e y ∧ SeqAt.shaped d = true ∧ SeqAt.shaped e = true ∧ Q (.bl (if neg then !PyData.eqv d e else PyData.eqv d e)) H
theorem op_eqD (hu : X.A.units + 64 < cLine) : OpR X (compareOp .Eq) (rEqD X.K false) := by
  intro pins s σ H x y v u Q I rx ry h
  obtain ⟨d, e, hd, he, sd, se, q⟩ := h
  obtain ⟨as, r1⟩ := rep_reads I d hd rx
  obtain ⟨bs, r2⟩ := rep_reads I e he ry
  exact eq_dataH r1 r2 sd se hu ⟨.bl (PyData.eqv d e), H, I, rfl, q⟩

/-! ### any, all of a list of truths -/
theorem vals_bl {bs : List Bool} : ∀ {its : List Value}, Vals (bs.map V.bl) its → its = bs.map Value.bool := by
  induction bs with
  | nil => intro its r; cases r; rfl
  | cons b bs ih =>
    intro its r
    cases r with
    | cons r rr => cases r; rw [ih rr]; rfl
theorem range_all (bs : List Bool) : (List.range bs.length).all (fun i => bs.getD i false) = bs.all id := by
  rw [Bool.eq_iff_iff, List.all_eq_true, List.all_eq_true]
  constructor
  · intro h b hb
    obtain ⟨i, hi, e⟩ := List.getElem_of_mem hb
    have q := h i (List.mem_range.mpr hi)
    rw [List.getD_eq_getElem?_getD, List.getElem?_eq_getElem hi, e] at q
    exact q
  · intro h i hi
    have hi := List.mem_range.mp hi
    have q := h _ (List.getElem_mem hi)
    rw [List.getD_eq_getElem?_getD, List.getElem?_eq_getElem hi]
    exact q
def rAny (K : PySem.W.Frag) (f : List Bool → Bool) : List V → Hp → VK → Prop := fun xs H Q => ∃ p bs, xs = [.ref p] ∧ SqL K H p (bs.map V.bl) ∧ Q (.bl (f bs)) H
theorem call_all (hc : X.calm = true) : CallR X (.builtin "all") (rAny X.K fun bs => bs.all id) := by
  intro pins s σ H xs us Q I r h
  obtain ⟨p, bs, rfl, hq, q⟩ := h
  obtain ⟨u, rfl, ru⟩ := vals1 r
  cases ru
  obtain ⟨its, rv, pl, hz⟩ := I.list hq
  cases vals_bl rv
  have hne : p ≠ s.heap.objs.size := by obtain ⟨o, e, _⟩ := pl.isList; exact Nat.ne_of_lt (Heap.lt_size e)
  refine call_all_walk (wpAny_pyIter_list pl.isList ⟨s.heap.objs.size, _, _, _, _, _, fun i => bs.getD i false, rfl, Walks.list (A := X.A.in1) (show X.A.in1.handled = none from I.ok.hd hc) _ p hne (bs.map Value.bool).toArray, ⟨⟨_, Heap.get?_push_size _ rfl, rfl, rfl⟩, ?_⟩, ?_, ?_⟩)
  · obtain ⟨o, e, z⟩ := pl.isList
    exact ⟨o, Heap.get?_push_of_some _ e, z⟩
  · intro i v s' Q' E' hv hQ
    have hv : (bs.map Value.bool)[i]? = some v := by simpa using hv
    rw [List.getElem?_map] at hv
    cases e : bs[i]? with
    | none => rw [e] at hv; cases hv
    | some b =>
      rw [e] at hv
      cases hv
      have z : bs.getD i false = b := by rw [List.getD_eq_getElem?_getD, e]; rfl
      have hQ : Q' (bs.getD i false) s' := hQ
      rw [z] at hQ
      exact wpAny_truthy_bool hQ
  · intro h' tk hk
    refine ⟨.bl (bs.all id), H, ?_, by rw [← range_all bs]; simp; rfl, q⟩
    exact I.kept (t' := tk) fun b o e => hk b o (by have := Heap.lt_size e; simp; exact Nat.ne_of_lt this) (Heap.get?_push_of_some _ e)
end
end L2

namespace L2
open PySem PySem.Spec PyProof.Rows
def kindOk (o : Option NameKind) : Bool := o == some .cell || o == some .free
def compChk (sc : Scope) (N : List Str) (scope : Scope) (N' own : List Str) (fr : List Nat) : Bool :=
  (scope.kind == .function) && (scope.names.all fun y => scope.names.lookup y.1 == some y.2) && (scope.names.all fun y => !(y.2 == .free) || kindOk (sc.names.lookup y.1)) &&
  (N' == own ++ fr.map fun j => N.getD j Str.empty) && (fr.all fun j => decide (j < N.length) && (scope.names.lookup (N.getD j Str.empty) == some .free)) &&
  (own.all fun x => scope.names.lookup x == some .local || scope.names.lookup x == some .cell)
section
variable {X : Cx}
theorem compOk_of {scope : Scope} {N' own : List Str} {fr : List Nat} (h : compChk X.env.scope X.N scope N' own fr = true) : CompOk X scope N' own fr := by
  unfold compChk at h
  simp only [Bool.and_eq_true] at h
  obtain ⟨⟨⟨⟨⟨h1, h2⟩, h3⟩, h4⟩, h5⟩, h6⟩ := h
  refine ⟨eq_of_beq h1, fun y hy => eq_of_beq (List.all_eq_true.mp h2 y hy), fun y hy e => ?_, eq_of_beq h4, fun j hj => ?_, fun x hx => ?_⟩
  · have q := List.all_eq_true.mp h3 y hy
    rw [e] at q
    have q : kindOk (X.env.scope.names.lookup y.1) = true := by simpa using q
    unfold kindOk at q
    rcases Bool.or_eq_true_iff.mp q with z | z
    · exact .inl (eq_of_beq z)
    · exact .inr (eq_of_beq z)
  · have q := List.all_eq_true.mp h5 j hj
    rw [Bool.and_eq_true] at q
    exact ⟨of_decide_eq_true q.1, eq_of_beq q.2⟩
  · have q := List.all_eq_true.mp h6 x hx
    rcases Bool.or_eq_true_iff.mp q with z | z
    · exact .inl (eq_of_beq z)
    · exact .inr (eq_of_beq z)

/-! ### operations by the kinds of what comes -/
def rAddU (K : PySem.W.Frag) : R2 := fun x y H Q => match x, y with
  | .int i, .int j => Q (.int (i + j)) H
  | .str a, .str b => a.length + b.length ≤ sizeLine ∧ Q (.str (a ++ b)) H
  | .ref _, .ref _ => rCat x y H Q ∨ rCatT K x y H Q
  | _, _ => False
theorem op_addU : OpR X (binaryOp .Add) (rAddU X.K) := by
  intro pins s σ H x y v u Q I rx ry h
  cases x <;> cases y <;> first
    | exact h.elim
    | exact op_add pins s σ H _ _ v u Q I rx ry ⟨_, _, rfl, rfl, h⟩
    | exact op_add_str pins s σ H _ _ v u Q I rx ry ⟨_, _, rfl, rfl, h.1, h.2⟩
    | exact (op_cat.or op_catT) pins s σ H _ _ v u Q I rx ry h
def rMulU : R2 := fun x y H Q => match x, y with
  | .int i, .int j => CMul i j ∧ Q (.int (i * j)) H
  | .str z, .int n => z.length ≤ 1000 ∧ -1000 ≤ n ∧ n ≤ 1000 ∧ Q (.str (Txt.mul z n)) H
  | _, _ => False
theorem op_mulU : OpR X (binaryOp .Mult) rMulU := by
  intro pins s σ H x y v u Q I rx ry h
  cases x <;> cases y <;> first
    | exact h.elim
    | exact op_mul pins s σ H _ _ v u Q I rx ry ⟨_, _, rfl, rfl, h.1, h.2⟩
    | exact op_mulS pins s σ H _ _ v u Q I rx ry ⟨_, _, rfl, rfl, h.1, h.2.1, h.2.2.1, h.2.2.2⟩
/-- x[i] of a list, a tuple, a text -/
def rIxU (K : PySem.W.Frag) : R2 := fun x y H Q => match x, y with
  | .str z, .int i => z.length ≤ sizeLine ∧ ∃ c, atI z.cps.toList i = some c ∧ Q (.str ⟨#[c]⟩) H
  | .ref p, .int i => ∃ xs v, (SqL K H p xs ∨ SqT K H p xs) ∧ atI xs i = some v ∧ Q v H
  | _, _ => False
theorem ix_U : IxR X (rIxU X.K) := by
  intro value slice pins s σ H x y v u Q I rx ry h hs
  cases x <;> cases y <;> first
    | exact h.elim
    | (obtain ⟨h1, c, h2, h3⟩ := h; exact ix_str value slice pins s σ H _ _ v u Q I rx ry ⟨_, _, c, rfl, rfl, h1, h2, h3⟩ hs)
    | (obtain ⟨xs, w, h1, h2, h3⟩ := h
       rcases h1 with h1 | h1
       · exact ix_list value slice pins s σ H _ _ v u Q I rx ry ⟨_, xs, _, w, rfl, rfl, h1, h2, h3⟩ hs
       · exact ix_tup value slice pins s σ H _ _ v u Q I rx ry ⟨_, xs, _, w, rfl, rfl, h1, h2, h3⟩ hs)
def rSlU (K : PySem.W.Frag) : V → Option Int → Option Int → Hp → VK → Prop := fun x lo hi H Q => match x with
  | .str z => z.length ≤ sizeLine ∧ Q (.str (Txt.slice z lo hi)) H
  | .ref _ => rSlL K x lo hi H Q
  | _ => False
theorem sl_U : SlR X (rSlU X.K) := by
  intro pins s σ H x v vl vu lo hi sl Q I rx hs pl pu h
  cases x <;> first
    | exact h.elim
    | exact sl_str pins s σ H _ v vl vu lo hi sl Q I rx hs pl pu ⟨_, rfl, h.1, h.2⟩
    | exact sl_list pins s σ H _ v vl vu lo hi sl Q I rx hs pl pu h

/-! ### a def of the text, as others call it -/
def Dn (P : Program) (w : World) (K : PySem.W.Frag) (mg : Str → Option Value) (base : Heap) (x : Str) (ps : List Str) (k : Nat) (sp : Sp) : Prop :=
  ∃ f fd, FnOk P w K mg base CX0 k f fd ps sp ∧ mg x = some (.ref f) ∧ PySem.W.keepIn K (.ref f) = true ∧ Binds K fd ps []
theorem pe_dn {x : Str} {p pos : Pos} {e : Expr} {es : List Expr} {t : TA} {ps : List Str} {k : Nat} {sp : Sp} (D : Dn X.prog X.w X.K X.mg X.base x ps k sp) (hr : Room k X.A) (hg : Gl X x) (ha : PA X (e :: es) t)
    (hdb : (x == ("__debug__" : Str)) = false := by decide) (he : starEach (e :: es) X.env = (false, eval e X.env) :: starEach es X.env := by rfl) (hpl : (backTo pos (starEach es X.env)).any (·.1) = false := by rfl) :
    PE X (.Call (.Name x p) (e :: es) [] pos) (tCall sp [] E0 t) := by
  obtain ⟨f, fd, F, hm, hk, hb⟩ := D
  exact pe_call F hr hg hm hk hb .nil pass0 ha hdb he hpl
end
end L2

namespace L2
open PySem PySem.Spec PyProof.Rows
theorem Same.upd {H H' : Hp} {p : Addr} {o : HO} (h : Same H H') (hp : H p = none) : Same H (upd H' p o) := fun b u e => by rw [upd_ne (ne_of_none e hp)]; exact h b u e
theorem Same.new {H : Hp} {p : Addr} {o : HO} (hp : H p = none) : Same H (L2.upd H p o) := (Same.refl H).upd hp
end L2
namespace Bc
open PySem L2
/-! ### webs, plain -/
abbrev Web := List (Str × List Str)
def nm (W : Web) : List Str := W.map (·.1)
structure WebOk (W : Web) : Prop where
  nd : (nm W).Nodup
  el : ∀ i n es, W[i]? = some (n, es) → ∀ e ∈ es, e ∈ nm (W.take i)
  few : ∀ p ∈ W, p.2.length ≤ 4
  len : W.length ≤ 12

theorem nodup_sub {α : Type} [DecidableEq α] : ∀ (l m : List α), l.Nodup → (∀ x ∈ l, x ∈ m) → l.length ≤ m.length
  | [], _, _, _ => Nat.zero_le _
  | a :: l, m, h, s => by
    obtain ⟨h1, h2⟩ := List.nodup_cons.mp h
    have ha := s a List.mem_cons_self
    have q := nodup_sub l (m.erase a) h2 fun x hx => (List.mem_erase_of_ne (fun (z : x = a) => h1 (by rw [← z]; exact hx))).mpr (s x (List.mem_cons_of_mem _ hx))
    rw [List.length_erase_of_mem ha] at q
    have := List.length_pos_of_mem ha
    rw [List.length_cons]
    omega
section
variable {κ : Type} [DecidableEq κ]
end
theorem nm_len {W : Web} (h : WebOk W) : (nm W).length ≤ 12 := by unfold nm; rw [List.length_map]; exact h.len
end Bc

namespace L2
open PySem PySem.Spec PyProof.Rows
/-! the same rules with the written part named, for blocks -/
section
variable {X : Cx} {K : PySem.W.Frag} (hK : X.K = K)
include hK
theorem pg_tupK {es : List Expr} {k : Nat} {t : TGs} {n : Nat} {pos : Pos} (hc : X.calm = true) (h : PGs X es t)
    (hn : (assignEach es X.env).length = n := by rfl) (hst : (assignEach es X.env).findIdx? (·.1) = none := by rfl) : PG X (.Tuple es k pos) (gTup K n t) := by subst hK; exact pg_tup hc h hn hst
theorem ix_UK : IxR X (rIxU K) := by subst hK; exact ix_U
theorem sl_UK : SlR X (rSlU K) := by subst hK; exact sl_U
theorem op_addUK : OpR X (binaryOp .Add) (rAddU K) := by subst hK; exact op_addU
theorem op_inK : OpR X (compareOp .In) (rIn K false) := by subst hK; exact op_in_seq
theorem op_notInK : OpR X (compareOp .NotIn) (rIn K true) := by subst hK; exact op_notIn_seq
theorem call_lenK : CallR X (.builtin "len") (fun xs H Q => ∃ x n, xs = [x] ∧ LenV K x H n ∧ Q (.int n) H) := by subst hK; exact call_len
theorem call_allK (hc : X.calm = true) : CallR X (.builtin "all") (rAny K fun bs => bs.all id) := by subst hK; exact call_all hc
theorem call_isiK : CallR X (.builtin "isinstance") (fun xs H Q => ∃ x n t b, xs = [x, .ty n] ∧ TyOf K H x t ∧ PySem.W.kitOne K t (.type n) = some b ∧ Q (.bl b) H) := by subst hK; exact call_isi rfl
theorem call_listK : CallR X (.type "list") (fun xs H Q => ∃ p ys, xs = [.ref p] ∧ (SqL K H p ys ∨ SqT K H p ys) ∧ ∀ l, H l = none → Q (.ref l) (upd H l (.lst ys))) := by subst hK; exact call_list_of
theorem pi_listK {tg l : Expr} {tl : TE} (hl : PE X l tl) : PI X tg l (iList K tl) := by subst hK; exact pi_list hl
theorem pi_enumK {a : Expr} {ta : TA} {p pos : Pos} {elts : List Expr} {x1} {tpos : Pos} (hg : Gl X "enumerate") (hm : X.mg "enumerate" = none) (ha : PA X [a] ta) (hs : starEach [a] X.env = [(false, eval a X.env)] := by rfl) :
    PI X (.Tuple elts x1 tpos) (.Call (.Name "enumerate" p) [a] [] pos) (iEnum K ta) := by subst hK; exact pi_enum hg hm ha hs
theorem pe_bmK {T : String} {name : Str} {id : String} {r : V → List V → Hp → VK → Prop} {o e : Expr} {es : List Expr} {to : TE} {t : TA} {apos cpos : Pos} (pa : PlainAttrs T) (slot : Slot T name id) (hty : typeOf (.builtin id) = pure (.type "method_descriptor")) (hm : MtR X id r) (ho : PE X o to) (ha : PA X (e :: es) t)
    (hbase : attributeBase o name X.env (eval o X.env) = eval o X.env := by rfl)
    (hfew : ((backTo cpos (starEach (e :: es) X.env)).all (fun x => !x.1) && (backToKw cpos (keywordEach [] X.env)).all (fun x => x.1.isSome)
      && decide ((e :: es).length + ([] : List Keyword).length + (if ([] : List Keyword).isEmpty then 0 else 1) < 30)) = true := by rfl)
    (hline : (apos.endLine == cpos.line) = true := by rfl) (hs : starEach (e :: es) X.env = (false, eval e X.env) :: starEach es X.env := by rfl) (hplain : (backTo cpos (starEach es X.env)).any (·.1) = false := by rfl) :
    PE X (.Call (.Attribute o name apos) (e :: es) [] cpos) (tBM K T r to t) := by subst hK; exact pe_bm pa slot hty hm ho ha hbase hfew hline hs hplain
end
end L2

namespace L2
open PySem PySem.Spec PyProof.Rows
/-! ## data, laid; what the names of a def hold, by data -/
def keyD : PyData → Option Key
  | .int i => some (Sum.inl i)
  | .str s => some (Sum.inr s)
  | _ => none
mutual
def Rp (H : Hp) : PyData → V → Prop
  | .none, v => v = .non
  | .bool b, v => v = .bl b
  | .int i, v => v = .int i
  | .str x, v => v = .str x
  | .list ds, v => ∃ a xs, v = .ref a ∧ H a = some (.lst xs) ∧ Rps H ds xs
  | .tuple ds, v => ∃ a xs, v = .ref a ∧ H a = some (.tup xs) ∧ Rps H ds xs
  | .dict kvs, v => ∃ a ps, v = .ref a ∧ H a = some (.dK ps) ∧ Rpd H kvs ps
def Rps (H : Hp) : List PyData → List V → Prop
  | [], xs => xs = []
  | d :: ds, xs => ∃ v vs, xs = v :: vs ∧ Rp H d v ∧ Rps H ds vs
def Rpd (H : Hp) : List (PyData × PyData) → List (Key × V) → Prop
  | [], ps => ps = []
  | (k, d) :: r, ps => ∃ k' v vs, ps = (k', v) :: vs ∧ keyD k = some k' ∧ Rp H d v ∧ Rpd H r vs
end
mutual
theorem Rp.same {H H' : Hp} (h : Same H H') : ∀ (d : PyData) {v : V}, Rp H d v → Rp H' d v
  | .none, v, q => by unfold Rp at q ⊢; exact q
  | .bool b, v, q => by unfold Rp at q ⊢; exact q
  | .int i, v, q => by unfold Rp at q ⊢; exact q
  | .str x, v, q => by unfold Rp at q ⊢; exact q
  | .list ds, v, q => by
    unfold Rp at q ⊢
    obtain ⟨a, xs, e, hq, hr⟩ := q
    exact ⟨a, xs, e, h _ _ hq, Rps.same h ds hr⟩
  | .tuple ds, v, q => by
    unfold Rp at q ⊢
    obtain ⟨a, xs, e, hq, hr⟩ := q
    exact ⟨a, xs, e, h _ _ hq, Rps.same h ds hr⟩
  | .dict kvs, v, q => by
    unfold Rp at q ⊢
    obtain ⟨a, xs, e, hq, hr⟩ := q
    exact ⟨a, xs, e, h _ _ hq, Rpd.same h kvs hr⟩
theorem Rps.same {H H' : Hp} (h : Same H H') : ∀ (ds : List PyData) {vs : List V}, Rps H ds vs → Rps H' ds vs
  | [], vs, q => by unfold Rps at q ⊢; exact q
  | d :: ds, vs, q => by
    unfold Rps at q ⊢
    obtain ⟨v, vs', e, h1, h2⟩ := q
    exact ⟨v, vs', e, Rp.same h d h1, Rps.same h ds h2⟩
theorem Rpd.same {H H' : Hp} (h : Same H H') : ∀ (ds : List (PyData × PyData)) {vs : List (Key × V)}, Rpd H ds vs → Rpd H' ds vs
  | [], vs, q => by unfold Rpd at q ⊢; exact q
  | (k, d) :: ds, vs, q => by
    unfold Rpd at q ⊢
    obtain ⟨k', v, vs', e, h0, h1, h2⟩ := q
    exact ⟨k', v, vs', e, h0, Rp.same h d h1, Rpd.same h ds h2⟩
end
theorem rps_paired {H : Hp} : ∀ {ds : List PyData} {xs : List V}, Rps H ds xs ↔ Paired (Rp H) ds xs
  | [], xs => by
    constructor
    · intro h; unfold Rps at h; subst h; exact .nil
    · intro h; cases h; unfold Rps; rfl
  | d :: ds, xs => by
    constructor
    · intro h
      unfold Rps at h
      obtain ⟨v, vs, rfl, h1, h2⟩ := h
      exact .cons h1 (rps_paired.mp h2)
    · intro h
      cases h with
      | cons h1 h2 => unfold Rps; exact ⟨_, _, rfl, h1, rps_paired.mpr h2⟩
theorem Rps.length {H : Hp} {ds : List PyData} {xs : List V} (h : Rps H ds xs) : ds.length = xs.length := (rps_paired.mp h).length
theorem rp_list {H : Hp} {ds : List PyData} {v : V} (h : Rp H (.list ds) v) : ∃ a xs, v = .ref a ∧ H a = some (.lst xs) ∧ Rps H ds xs := by unfold Rp at h; exact h
theorem rp_tuple {H : Hp} {ds : List PyData} {v : V} (h : Rp H (.tuple ds) v) : ∃ a xs, v = .ref a ∧ H a = some (.tup xs) ∧ Rps H ds xs := by unfold Rp at h; exact h
theorem rp_dict {H : Hp} {ds : List (PyData × PyData)} {v : V} (h : Rp H (.dict ds) v) : ∃ a xs, v = .ref a ∧ H a = some (.dK xs) ∧ Rpd H ds xs := by unfold Rp at h; exact h
theorem rp_int {H : Hp} {i : Int} {v : V} (h : Rp H (.int i) v) : v = .int i := by unfold Rp at h; exact h
theorem rp_str {H : Hp} {i : Str} {v : V} (h : Rp H (.str i) v) : v = .str i := by unfold Rp at h; exact h
theorem rp_bool {H : Hp} {i : Bool} {v : V} (h : Rp H (.bool i) v) : v = .bl i := by unfold Rp at h; exact h
theorem rp_none {H : Hp} {v : V} (h : Rp H .none v) : v = .non := by unfold Rp at h; exact h
theorem rp_mk_int {H : Hp} {i : Int} : Rp H (.int i) (.int i) := by unfold Rp; rfl
theorem rp_mk_str {H : Hp} {i : Str} : Rp H (.str i) (.str i) := by unfold Rp; rfl
theorem rp_mk_bool {H : Hp} {i : Bool} : Rp H (.bool i) (.bl i) := by unfold Rp; rfl
theorem rp_mk_none {H : Hp} : Rp H .none .non := by unfold Rp; rfl
theorem rp_mk_list {H : Hp} {ds : List PyData} {a : Addr} {xs : List V} (h : H a = some (.lst xs)) (r : Rps H ds xs) : Rp H (.list ds) (.ref a) := by unfold Rp; exact ⟨a, xs, rfl, h, r⟩
theorem rp_mk_tuple {H : Hp} {ds : List PyData} {a : Addr} {xs : List V} (h : H a = some (.tup xs)) (r : Rps H ds xs) : Rp H (.tuple ds) (.ref a) := by unfold Rp; exact ⟨a, xs, rfl, h, r⟩
theorem rp_mk_dict {H : Hp} {ds : List (PyData × PyData)} {a : Addr} {xs : List (Key × V)} (h : H a = some (.dK xs)) (r : Rpd H ds xs) : Rp H (.dict ds) (.ref a) := by unfold Rp; exact ⟨a, xs, rfl, h, r⟩
theorem rps_nil {H : Hp} : Rps H [] [] := by unfold Rps; rfl
theorem rpd_nil {H : Hp} : Rpd H [] [] := by unfold Rpd; rfl
theorem rps_cons {H : Hp} {d : PyData} {ds : List PyData} {v : V} {vs : List V} (h : Rp H d v) (r : Rps H ds vs) : Rps H (d :: ds) (v :: vs) := by
  show Rps H (d :: ds) _
  unfold Rps; exact ⟨v, vs, rfl, h, r⟩
theorem Rps.append {H : Hp} {ds es : List PyData} {vs ws : List V} (h : Rps H ds vs) (r : Rps H es ws) : Rps H (ds ++ es) (vs ++ ws) := by
  replace h := rps_paired.mp h
  refine rps_paired.mpr ?_
  induction h with
  | nil => exact rps_paired.mp r
  | cons h _ ih => exact .cons h ih
theorem Rps.get {H : Hp} {ds : List PyData} {vs : List V} (h : Rps H ds vs) {i : Nat} {v : V} (e : vs[i]? = some v) : ∃ d, ds[i]? = some d ∧ Rp H d v := by
  replace h := rps_paired.mp h
  induction h generalizing i with
  | nil => simp at e
  | cons h _ ih =>
    cases i with
    | zero => simp at e; subst e; exact ⟨_, rfl, h⟩
    | succ i => simpa using ih (by simpa using e)
theorem Rps.get2 {H : Hp} {ds : List PyData} {vs : List V} (h : Rps H ds vs) {i : Nat} {d : PyData} (e : ds[i]? = some d) : ∃ v, vs[i]? = some v ∧ Rp H d v := by
  replace h := rps_paired.mp h
  induction h generalizing i with
  | nil => simp at e
  | cons h _ ih =>
    cases i with
    | zero => simp at e; subst e; exact ⟨_, rfl, h⟩
    | succ i => simpa using ih (by simpa using e)

/-! ### the heap without some things -/
open Classical in
noncomputable def Offs (A : Addr → Prop) (H : Hp) : Hp := fun b => if A b then none else H b
theorem Offs.get {A : Addr → Prop} {H : Hp} {b : Addr} (h : ¬ A b) : Offs A H b = H b := if_neg h
theorem Offs.out {A : Addr → Prop} {H : Hp} {b : Addr} (h : A b) : Offs A H b = none := if_pos h
theorem Offs.of {A : Addr → Prop} {H : Hp} {b : Addr} {o : HO} (h : Offs A H b = some o) : ¬ A b ∧ H b = some o := by
  by_cases hb : A b
  · rw [Offs.out hb] at h; cases h
  · rw [Offs.get hb] at h; exact ⟨hb, h⟩
theorem Offs.mono {A B : Addr → Prop} {H H' : Hp} (s : Same H H') (h : ∀ b o, H b = some o → ¬ A b → ¬ B b) : Same (Offs A H) (Offs B H') := fun b o e => by
  obtain ⟨h1, h2⟩ := Offs.of e
  rw [Offs.get (h b o h2 h1)]
  exact s b o h2
theorem Offs.same (A : Addr → Prop) (H : Hp) : Same (Offs A H) H := fun b o e => (Offs.of e).2
theorem Offs.sub {A B : Addr → Prop} {H : Hp} (h : ∀ b, B b → A b) : Same (Offs A H) (Offs B H) := Offs.mono (Same.refl _) fun b _ _ n z => n (h b z)
theorem Offs.grow {A : Addr → Prop} {H H' : Hp} (s : Same H H') : Same (Offs A H) (Offs A H') := Offs.mono s fun _ _ _ z => z
/-- a store at a thing that is left out -/
theorem Offs.upd {A : Addr → Prop} {H : Hp} {a : Addr} {o : HO} (h : A a) : Offs A (upd H a o) = Offs A H := by
  funext b
  by_cases hb : A b
  · rw [Offs.out hb, Offs.out hb]
  · rw [Offs.get hb, Offs.get hb, upd_ne (fun e => hb (by rw [e]; exact h))]

/-! ### what the names hold -/
inductive Sl where
  | no
  /-- data that stays -/
  | pl (d : PyData)
  /-- a list or dict of its own: nothing else leads to it -/
  | ac (d : PyData)
abbrev DEnv := List Sl
def own (env : DEnv) (σ : St) (a : Addr) : Prop := ∃ (i : Nat) (d : PyData), env[i]? = some (.ac d) ∧ σ[i]? = some (some (.ref a))
/-- an own list or dict: its items stand apart from all own ones -/
def AccAt (Ho H : Hp) (a : Addr) : PyData → Prop
  | .list ds => ∃ xs, H a = some (.lst xs) ∧ Rps Ho ds xs
  | .dict kvs => ∃ ps, H a = some (.dK ps) ∧ Rpd Ho kvs ps
  | _ => False
theorem AccAt.rp {Ho H H' : Hp} {a : Addr} {d : PyData} (h : AccAt Ho H a d) (s : Same Ho H') (e : ∀ o, H a = some o → H' a = some o) : Rp H' d (.ref a) := by
  cases d with
  | list ds =>
    obtain ⟨xs, h1, h2⟩ := h
    exact rp_mk_list (e _ h1) (Rps.same s _ h2)
  | dict ds =>
    obtain ⟨xs, h1, h2⟩ := h
    exact rp_mk_dict (e _ h1) (Rpd.same s _ h2)
  | _ => exact h.elim
theorem AccAt.same {Ho H Ho' H' : Hp} {a : Addr} {d : PyData} (h : AccAt Ho H a d) (s : Same Ho Ho') (e : ∀ o, H a = some o → H' a = some o) : AccAt Ho' H' a d := by
  cases d with
  | list ds =>
    obtain ⟨xs, h1, h2⟩ := h
    exact ⟨xs, e _ h1, Rps.same s _ h2⟩
  | dict ds =>
    obtain ⟨xs, h1, h2⟩ := h
    exact ⟨xs, e _ h1, Rpd.same s _ h2⟩
  | _ => exact h.elim
theorem AccAt.ex {Ho H : Hp} {a : Addr} {d : PyData} (h : AccAt Ho H a d) : ∃ o, H a = some o := by
  cases d with
  | list ds => obtain ⟨xs, h1, h2⟩ := h; exact ⟨_, h1⟩
  | dict ds => obtain ⟨xs, h1, h2⟩ := h; exact ⟨_, h1⟩
  | _ => exact h.elim
/-- H0: the entry's heap; fx: what the callers own -/
structure EnvOk (fx : Addr → Prop) (H0 : Hp) (env : DEnv) (σ : St) (H : Hp) : Prop where
  len : env.length = σ.length
  pl : ∀ (i : Nat) (d : PyData), env[i]? = some (.pl d) → ∃ v, σ[i]? = some (some v) ∧ Rp (Offs (fun a => fx a ∨ own env σ a) H) d v
  ac : ∀ (i : Nat) (d : PyData), env[i]? = some (.ac d) → ∃ a, σ[i]? = some (some (.ref a)) ∧ H0 a = none ∧ ¬ fx a ∧ AccAt (Offs (fun a => fx a ∨ own env σ a) H) H a d
  inj : ∀ (i j : Nat) (d e : PyData) (a : Addr), env[i]? = some (.ac d) → env[j]? = some (.ac e) → σ[i]? = some (some (.ref a)) → σ[j]? = some (some (.ref a)) → i = j
  base : Same H0 H
  fxs : ∀ b, fx b → ∃ o, H b = some o
/-- the heap grows; other things are left out, that stood nowhere -/
theorem EnvOk.grow {fx fx' : Addr → Prop} {H0 : Hp} {env : DEnv} {σ : St} {H H' : Hp} (h : EnvOk fx H0 env σ H) (s : Same H H') (f : ∀ b o, H b = some o → ¬ fx b → ¬ fx' b) (g : ∀ b, fx' b → ∃ o, H' b = some o) : EnvOk fx' H0 env σ H' := by
  have so : Same (Offs (fun a => fx a ∨ own env σ a) H) (Offs (fun a => fx' a ∨ own env σ a) H') := Offs.mono s fun b o e n => fun z => z.elim (f b o e fun y => n (.inl y)) fun y => n (.inr y)
  refine ⟨h.len, fun i d e => ?_, fun i d e => ?_, h.inj, h.base.trans s, g⟩
  · obtain ⟨v, h1, h2⟩ := h.pl i d e
    exact ⟨v, h1, Rp.same so d h2⟩
  · obtain ⟨a, h1, h2, h3, h4⟩ := h.ac i d e
    obtain ⟨o, ho⟩ := h4.ex
    exact ⟨a, h1, h2, f a o ho h3, h4.same so fun o => s a o⟩

theorem EnvOk.up {fx : Addr → Prop} {H0 : Hp} {env : DEnv} {σ : St} {H H' : Hp} (h : EnvOk fx H0 env σ H) (s : Same H H') : EnvOk fx H0 env σ H' :=
  h.grow s (fun _ _ _ z => z) fun b z => let ⟨o, e⟩ := h.fxs b z; ⟨o, s b o e⟩
/-- a value that came: its data; whether it is a new thing of its own; the own things that it may lead to -/
structure Val where
  d : PyData
  fr : Bool
  bs : List Nat
def lim (fx : Addr → Prop) (env : DEnv) (σ : St) (bs : List Nat) (a : Addr) : Prop := fx a ∨ ∃ (i : Nat) (d : PyData), i ∉ bs ∧ env[i]? = some (.ac d) ∧ σ[i]? = some (some (.ref a))
structure ValOk (A : Addr → Prop) (H H' : Hp) (r : Val) (v : V) : Prop where
  rp : Rp (Offs A H') r.d v
  fr : r.fr = true → ∃ a, v = .ref a ∧ H a = none ∧ AccAt (Offs (fun b => A b ∨ b = a) H') H' a r.d
theorem lim_sub {fx : Addr → Prop} {env : DEnv} {σ : St} {bs cs : List Nat} (h : ∀ i ∈ bs, i ∈ cs) : ∀ a, lim fx env σ cs a → lim fx env σ bs a := by
  rintro a (z | ⟨i, d, h1, h2, h3⟩)
  · exact .inl z
  · exact .inr ⟨i, d, fun q => h1 (h i q), h2, h3⟩
theorem lim_own {fx : Addr → Prop} {env : DEnv} {σ : St} {bs : List Nat} : ∀ a, lim fx env σ bs a → fx a ∨ own env σ a := by
  rintro a (z | ⟨i, d, h1, h2, h3⟩)
  · exact .inl z
  · exact .inr ⟨i, d, h2, h3⟩
theorem lim_nil {fx : Addr → Prop} {env : DEnv} {σ : St} : ∀ a, fx a ∨ own env σ a → lim fx env σ [] a := by
  rintro a (z | ⟨i, d, h2, h3⟩)
  · exact .inl z
  · exact .inr ⟨i, d, by simp, h2, h3⟩
theorem EnvOk.lims {fx : Addr → Prop} {H0 : Hp} {env : DEnv} {σ : St} {H : Hp} (h : EnvOk fx H0 env σ H) (bs : List Nat) : ∀ b, lim fx env σ bs b → ∃ o, H b = some o := by
  rintro b (z | ⟨i, d, h1, h2, h3⟩)
  · exact h.fxs b z
  · obtain ⟨a, g1, g2, g3, g4⟩ := h.ac i d h2
    rw [h3] at g1
    cases g1
    exact g4.ex
theorem ValOk.later {A B : Addr → Prop} {H0 H H' H'' : Hp} {r : Val} {v : V} (h : ValOk A H H' r v) (s0 : Same H0 H) (s : Same H' H'') (hB : ∀ b, B b → A b) : ValOk B H0 H'' r v := by
  refine ⟨Rp.same (Offs.mono s fun b _ _ n z => n (hB b z)) _ h.rp, fun e => ?_⟩
  obtain ⟨a, h1, h2, h3⟩ := h.fr e
  exact ⟨a, h1, s0.free h2, h3.same (Offs.mono s fun b _ _ n z => n (z.elim (fun y => .inl (hB b y)) .inr)) fun o => s a o⟩
/-- flat data -/
def flatD : PyData → Bool
  | .list _ => false
  | .tuple _ => false
  | .dict _ => false
  | _ => true
theorem rp_flat {H H' : Hp} {d : PyData} {v : V} (f : flatD d = true) (h : Rp H d v) : Rp H' d v := by
  cases d <;> first
    | (unfold Rp at h ⊢; exact h)
    | cases f
def bsOf (d : PyData) (bs : List Nat) : List Nat := if flatD d = true then [] else bs
theorem rp_bsOf {fx : Addr → Prop} {env : DEnv} {σ : St} {bs : List Nat} {H : Hp} {d : PyData} {v : V} (h : Rp (Offs (lim fx env σ bs) H) d v) : Rp (Offs (lim fx env σ (bsOf d bs)) H) d v := by
  unfold bsOf
  split
  · rename_i e; exact rp_flat e h
  · exact h

/-! ### the judgements -/
abbrev EF := DEnv → Option Val
def SE (te : TE) (f : EF) : Prop := ∀ (fx : Addr → Prop) (H0 : Hp) (env : DEnv) (σ : St) (H : Hp), EnvOk fx H0 env σ H → ∀ r, f env = some r → ∀ Q : VK, (∀ v H', Same H H' → ValOk (lim fx env σ r.bs) H H' r v → Q v H') → te σ H Q
abbrev TF := DEnv → Option Bool
def ST (tt : TT) (f : TF) : Prop := ∀ (fx : Addr → Prop) (H0 : Hp) (env : DEnv) (σ : St) (H : Hp), EnvOk fx H0 env σ H → ∀ b, f env = some b → ∀ Q : Bool → Hp → Prop, (∀ H', Same H H' → Q b H') → tt σ H Q
abbrev AF := DEnv → Option (List Val)
def SA (ta : TA) (f : AF) : Prop := ∀ (fx : Addr → Prop) (H0 : Hp) (env : DEnv) (σ : St) (H : Hp), EnvOk fx H0 env σ H → ∀ rs, f env = some rs → ∀ Q : List V → Hp → Prop,
  (∀ vs H', Same H H' → Paired (fun r v => ValOk (lim fx env σ r.bs) H H' r v) rs vs → Q vs H') → ta σ H Q

section
variable {X : Cx}
/-! names, constants -/
def eVar (i : Nat) : EF := fun env => match env[i]? with
  | some (.pl d) => some ⟨d, false, []⟩
  | some (.ac d) => some ⟨d, false, [i]⟩
  | _ => none
theorem se_var (i : Nat) : SE (tVar i) (eVar i) := by
  intro fx H0 env σ H h r hr Q q
  unfold eVar at hr
  cases e : env[i]? with
  | none => rw [e] at hr; cases hr
  | some sl =>
    rw [e] at hr
    cases sl with
    | no => cases hr
    | pl d =>
      cases hr
      obtain ⟨v, h1, h2⟩ := h.pl i d e
      exact ⟨v, h1, q v H (Same.refl _) ⟨Rp.same (Offs.sub lim_own) _ h2, fun z => by cases z⟩⟩
    | ac d =>
      cases hr
      obtain ⟨a, h1, h2, h3, h4⟩ := h.ac i d e
      have hna : ¬ lim fx env σ [i] a := by
        rintro (z | ⟨j, d', g1, g2, g3⟩)
        · exact h3 z
        · exact g1 (List.mem_singleton.mpr (h.inj j i d' d a g2 e g3 h1))
      exact ⟨_, h1, q _ H (Same.refl _) ⟨h4.rp (Offs.sub lim_own) fun o z => by rw [Offs.get hna]; exact z, fun z => by cases z⟩⟩
def eC (d : PyData) : EF := fun _ => some ⟨d, false, []⟩
theorem se_c {d : PyData} {v : V} (h : ∀ H, Rp H d v) : SE (tC v) (eC d) := by
  intro fx H0 env σ H _ r hr Q q
  cases hr
  exact q v H (Same.refl _) ⟨h _, fun z => by cases z⟩

/-! two in a row -/
abbrev OF := PyData → PyData → Option (PyData × Bool)
/-- an operation on data: A is what is left out -/
def SO (r : R2) (f : OF) : Prop := ∀ (A : Addr → Prop) (H : Hp) (x y : V) (dx dy : PyData), (∀ b, A b → ∃ o, H b = some o) → Rp (Offs A H) dx x → Rp (Offs A H) dy y → ∀ d fr, f dx dy = some (d, fr) → ∀ Q : VK,
  (∀ v H', Same H H' → Rp (Offs A H') d v → (fr = true → ∃ a, v = .ref a ∧ H a = none ∧ AccAt (Offs (fun b => A b ∨ b = a) H') H' a d) → Q v H') → r x y H Q
def eOp (f : OF) (a b : EF) : EF := fun env => (a env).bind fun x => (b env).bind fun y => (f x.d y.d).bind fun z => some ⟨z.1, z.2, bsOf z.1 (x.bs ++ y.bs)⟩
theorem se_op {r : R2} {f : OF} {ta tb : TE} {fa fb : EF} (ho : SO r f) (ha : SE ta fa) (hb : SE tb fb) : SE (tOp r ta tb) (eOp f fa fb) := by
  intro fx H0 env σ H h rr hr Q q
  unfold eOp at hr
  obtain ⟨x, ex, hr⟩ := Option.bind_eq_some_iff.mp hr
  obtain ⟨y, ey, hr⟩ := Option.bind_eq_some_iff.mp hr
  obtain ⟨⟨d, fr⟩, ez, hr⟩ := Option.bind_eq_some_iff.mp hr
  cases hr
  refine ha fx H0 env σ H h x ex _ fun v H1 s1 v1 => hb fx H0 env σ H1 (h.up s1) y ey _ fun u H2 s2 v2 => ?_
  have l1 : ∀ b, lim fx env σ (x.bs ++ y.bs) b → lim fx env σ x.bs b := lim_sub fun i hi => List.mem_append_left _ hi
  have l2 : ∀ b, lim fx env σ (x.bs ++ y.bs) b → lim fx env σ y.bs b := lim_sub fun i hi => List.mem_append_right _ hi
  refine ho (lim fx env σ (x.bs ++ y.bs)) H2 v u x.d y.d ((h.up (s1.trans s2)).lims _) (v1.later (Same.refl _) s2 l1).rp (v2.later (Same.refl _) (Same.refl _) l2).rp d fr ez _ fun w H3 s3 rp fr3 => q w H3 ((s1.trans s2).trans s3) ⟨rp_bsOf rp, fun e => ?_⟩
  obtain ⟨a, g1, g2, g3⟩ := fr3 e
  refine ⟨a, g1, (s1.trans s2).free g2, ?_⟩
  have nf : flatD d = false := by cases d <;> first | rfl | exact g3.elim
  show AccAt (Offs (fun b => lim fx env σ (bsOf d (x.bs ++ y.bs)) b ∨ b = a) H3) H3 a d
  rw [show bsOf d (x.bs ++ y.bs) = x.bs ++ y.bs by unfold bsOf; rw [if_neg (by rw [nf]; decide)]]
  exact g3
end
end L2

namespace L2
open PySem PySem.Spec PyProof.Rows
theorem size_of {n : Nat} (h : n ≤ 100000) : n ≤ sizeLine := Nat.le_trans h (by decide)
theorem size_lt {n : Nat} (h : n < 100000) : n < sizeLine := Nat.lt_trans h (by decide)
theorem off_new {A : Addr → Prop} {H : Hp} (hA : ∀ b, A b → ∃ o, H b = some o) {p : Addr} (hp : H p = none) : ¬ A p := fun z => by
  obtain ⟨o, e⟩ := hA p z
  rw [hp] at e; cases e
/-- a new list -/
theorem new_acc {A : Addr → Prop} {H : Hp} {p : Addr} {ds : List PyData} {xs : List V} (hp : H p = none) (r : Rps (Offs A H) ds xs) : AccAt (Offs (fun b => A b ∨ b = p) (upd H p (.lst xs))) (upd H p (.lst xs)) p (.list ds) := by
  refine ⟨xs, upd_same, Rps.same (Offs.mono (Same.new hp) fun b o e n z => ?_) _ r⟩
  rcases z with z | z
  · exact n z
  · rw [z, hp] at e; cases e
theorem new_rp {A : Addr → Prop} {H : Hp} {p : Addr} {ds : List PyData} {xs : List V} (hp : H p = none) (hA : ¬ A p) (r : Rps (Offs A H) ds xs) : Rp (Offs A (upd H p (.lst xs))) (.list ds) (.ref p) :=
  rp_mk_list (by rw [Offs.get hA]; exact upd_same) (Rps.same (Offs.grow (Same.new hp)) _ r)
theorem new_rpT {A : Addr → Prop} {H : Hp} {p : Addr} {ds : List PyData} {xs : List V} (hp : H p = none) (hA : ¬ A p) (r : Rps (Offs A H) ds xs) : Rp (Offs A (upd H p (.tup xs))) (.tuple ds) (.ref p) :=
  rp_mk_tuple (by rw [Offs.get hA]; exact upd_same) (Rps.same (Offs.grow (Same.new hp)) _ r)
theorem off_at {A : Addr → Prop} {H : Hp} {a : Addr} {o : HO} (h : Offs A H a = some o) : H a = some o := (Offs.of h).2

/-! ### operations -/
def addD : OF
  | .int i, .int j => some (.int (i + j), false)
  | .str a, .str b => if a.length + b.length ≤ 100000 then some (.str (a ++ b), false) else none
  | .list a, .list b => if a.length + b.length ≤ 100000 then some (.list (a ++ b), true) else none
  | .tuple a, .tuple b => if a.isEmpty = false ∧ a.length + b.length ≤ 100000 then some (.tuple (a ++ b), false) else none
  | _, _ => none
theorem so_add {K : PySem.W.Frag} : SO (rAddU K) addD := by
  intro A H x y dx dy hA rx ry d fr e Q q
  unfold addD at e
  split at e
  · cases e
    cases rp_int rx; cases rp_int ry
    exact q _ H (Same.refl _) rp_mk_int (fun z => by cases z)
  · split at e
    · rename_i hl
      cases e
      cases rp_str rx; cases rp_str ry
      exact ⟨size_of hl, q _ H (Same.refl _) rp_mk_str (fun z => by cases z)⟩
    · cases e
  · split at e
    · rename_i hl
      cases e
      obtain ⟨p, xs, rfl, hp, r1⟩ := rp_list rx
      obtain ⟨p', ys, rfl, hp', r2⟩ := rp_list ry
      refine .inl ⟨p, p', xs, ys, rfl, rfl, off_at hp, off_at hp', size_of (by rw [← r1.length, ← r2.length]; exact hl), fun b hb => ?_⟩
      exact q _ _ (Same.new hb) (new_rp hb (off_new hA hb) (r1.append r2)) fun _ => ⟨b, rfl, hb, new_acc hb (r1.append r2)⟩
    · cases e
  · split at e
    · rename_i hl
      cases e
      obtain ⟨p, xs, rfl, hp, r1⟩ := rp_tuple rx
      obtain ⟨p', ys, rfl, hp', r2⟩ := rp_tuple ry
      refine .inr ⟨p, p', xs, ys, rfl, rfl, SqT.of (off_at hp), SqT.of (off_at hp'), fun z => ?_, size_of (by rw [← r1.length, ← r2.length]; exact hl.2), fun z => ?_, fun _ b hb => ?_⟩
      · have h1 := r1.length
        have h0 := hl.1
        rw [z] at h1
        rw [List.isEmpty_eq_false_iff] at h0
        exact h0 (List.length_eq_zero_iff.mp h1)
      · have h2 := r2.length
        rw [z] at h2
        have := List.length_eq_zero_iff.mp h2
        subst this
        rw [List.append_nil] at q
        exact q _ H (Same.refl _) rx (fun z => by cases z)
      · exact q _ _ (Same.new hb) (new_rpT hb (off_new hA hb) (r1.append r2)) (fun z => by cases z)
    · cases e
  · cases e
def intD (c : Int → Int → Bool) (f : Int → Int → PyData) : OF
  | .int i, .int j => if c i j = true then some (f i j, false) else none
  | _, _ => none
theorem so_int {C : Int → Int → Prop} {g : Int → Int → V} {c : Int → Int → Bool} {f : Int → Int → PyData} (hc : ∀ i j, c i j = true → C i j) (hf : ∀ H i j, Rp H (f i j) (g i j)) : SO (rI C g) (intD c f) := by
  intro A H x y dx dy hA rx ry d fr e Q q
  unfold intD at e
  split at e
  · split at e
    · rename_i h
      cases e
      cases rp_int rx; cases rp_int ry
      exact ⟨_, _, rfl, rfl, hc _ _ h, q _ H (Same.refl _) (hf _ _ _) (fun z => by cases z)⟩
    · cases e
  · cases e
theorem so_int0 {g : Int → Int → V} {f : Int → Int → PyData} (hf : ∀ H i j, Rp H (f i j) (g i j)) : SO (rI0 g) (intD (fun _ _ => true) f) := by
  intro A H x y dx dy hA rx ry d fr e Q q
  unfold intD at e
  split at e
  · split at e
    · cases e
      cases rp_int rx; cases rp_int ry
      exact ⟨_, _, rfl, rfl, q _ H (Same.refl _) (hf _ _ _) (fun z => by cases z)⟩
    · cases e
  · cases e
def subD : OF := intD (fun _ _ => true) fun i j => .int (i - j)
theorem so_sub : SO (rI0 fun i j => .int (i - j)) subD := so_int0 fun _ _ _ => rp_mk_int
def gtD : OF := intD (fun _ _ => true) fun i j => .bool (decide (j < i))
theorem so_gt : SO (rI0 fun i j => .bl (decide (j < i))) gtD := so_int0 fun _ _ _ => rp_mk_bool
def modD : OF := intD (fun _ j => decide (0 < j)) fun i j => .int (i % j)
theorem so_mod : SO (rI (fun _ j => 0 < j) fun i j => .int (i % j)) modD := so_int (fun _ _ h => of_decide_eq_true h) fun _ _ _ => rp_mk_int
def fdivD : OF := intD (fun _ j => decide (0 < j ∧ j < 1073741824)) fun i j => .int (i / j)
theorem so_fdiv : SO (rI CDiv fun i j => .int (i / j)) fdivD := so_int (fun i j h => (of_decide_eq_true h : 0 < j ∧ j < 1073741824)) fun _ _ _ => rp_mk_int
def mulD : OF
  | .int i, .int j => if (-(2 ^ 64) < i ∧ i < 2 ^ 64) ∨ (-(2 ^ 64) < j ∧ j < 2 ^ 64) then some (.int (i * j), false) else none
  | .str z, .int n => if z.length ≤ 1000 ∧ -1000 ≤ n ∧ n ≤ 1000 then some (.str (Txt.mul z n), false) else none
  | _, _ => none
theorem so_mul : SO rMulU mulD := by
  intro A H x y dx dy hA rx ry d fr e Q q
  unfold mulD at e
  split at e
  · split at e
    · rename_i h
      cases e
      cases rp_int rx; cases rp_int ry
      exact ⟨h, q _ H (Same.refl _) rp_mk_int (fun z => by cases z)⟩
    · cases e
  · split at e
    · rename_i h
      cases e
      cases rp_str rx; cases rp_int ry
      exact ⟨h.1, h.2.1, h.2.2, q _ H (Same.refl _) rp_mk_str (fun z => by cases z)⟩
    · cases e
  · cases e
/-! ### ==, != -/
mutual
theorem rp_rep {K : PySem.W.Frag} {H : Hp} : ∀ {d : PyData} {v : V}, d.canLay0 = true → Rp H d v → Rep K H d v
  | .none, v, _, h => by unfold Rp at h; unfold Rep; exact h
  | .bool b, v, _, h => by unfold Rp at h; unfold Rep; exact h
  | .int i, v, _, h => by unfold Rp at h; unfold Rep; exact h
  | .str x, v, _, h => by unfold Rp at h; unfold Rep; exact h
  | .list ds, v, c, h => by
    obtain ⟨a, xs, e, h1, h2⟩ := rp_list h
    unfold Rep
    exact ⟨a, xs, e, SqL.of h1, rps_reps (by simpa [PyData.canLay0] using c) h2⟩
  | .tuple ds, v, c, h => by
    obtain ⟨a, xs, e, h1, h2⟩ := rp_tuple h
    unfold Rep
    exact ⟨a, xs, e, SqT.of h1, rps_reps (by simpa [PyData.canLay0] using c) h2⟩
  | .dict _, v, c, h => by simp [PyData.canLay0] at c
theorem rps_reps {K : PySem.W.Frag} {H : Hp} : ∀ {ds : List PyData} {vs : List V}, PyData.canLayAll0 ds = true → Rps H ds vs → Reps K H ds vs
  | [], vs, _, h => by unfold Rps at h; unfold Reps; exact h
  | d :: ds, vs, c, h => by
    unfold Rps at h
    obtain ⟨v, ws, e, h1, h2⟩ := h
    have c : d.canLay0 = true ∧ PyData.canLayAll0 ds = true := by simpa [PyData.canLayAll0] using c
    unfold Reps
    exact ⟨v, ws, e, rp_rep c.1 h1, rps_reps c.2 h2⟩
end
def scalD : PyData → PyData → Bool
  | .none, .none => true | .none, .int _ => true | .int _, .none => true | .none, .bool _ => true | .bool _, .none => true | .none, .str _ => true | .str _, .none => true
  | .int _, .int _ => true | .bool _, .bool _ => true | .str _, .str _ => true
  | .int _, .str _ => true | .str _, .int _ => true | .bool _, .str _ => true | .str _, .bool _ => true
  | _, _ => false
def eqOk (dx dy : PyData) : Bool := scalD dx dy || (SeqAt.shaped dx && SeqAt.shaped dy)
def eqD : OF := fun dx dy => if eqOk dx dy = true then some (.bool (PyData.eqv dx dy), false) else none
theorem scal_ok {H : Hp} {dx dy : PyData} {x y : V} (s : scalD dx dy = true) (rx : Rp H dx x) (ry : Rp H dy y) : scal x y = true ∧ decide (x = y) = PyData.eqv dx dy := by
  cases dx <;> cases dy <;> first
    | (exact absurd (show false = true from s) Bool.false_ne_true)
    | (unfold Rp at rx ry; subst rx; subst ry; refine ⟨rfl, ?_⟩; first | rfl | exact dec_int | exact dec_bl | exact dec_str | simp [PyData.eqv])
theorem so_eq {K : PySem.W.Frag} : SO (fun x y H Q => rEq x y H Q ∨ rEqD K false x y H Q) eqD := by
  intro A H x y dx dy hA rx ry d fr e Q q
  unfold eqD at e
  split at e
  · rename_i h
    cases e
    cases hs : scalD dx dy with
    | true =>
      obtain ⟨h1, h2⟩ := scal_ok hs rx ry
      exact .inl ⟨h1, by rw [h2]; exact q _ H (Same.refl _) rp_mk_bool (fun z => by cases z)⟩
    | false =>
      unfold eqOk at h
      rw [hs, Bool.false_or, Bool.and_eq_true] at h
      have rx := Rp.same (Offs.same A H) _ rx
      have ry := Rp.same (Offs.same A H) _ ry
      exact .inr ⟨dx, dy, rp_rep (SeqAt.canLay_of_shaped h.1) rx, rp_rep (SeqAt.canLay_of_shaped h.2) ry, h.1, h.2, q _ H (Same.refl _) rp_mk_bool (fun z => by cases z)⟩
  · cases e
/-! ### in -/
def flatsD (ds : List PyData) : Bool := ds.all flatD
theorem flat_v {H : Hp} {d : PyData} {v : V} (f : flatD d = true) (h : Rp H d v) : flatV v = true := by
  cases d <;> first
    | (unfold Rp at h; subst h; rfl)
    | cases f
theorem flats_v {H : Hp} {ds : List PyData} {vs : List V} (f : flatsD ds = true) (h : Rps H ds vs) : vs.all flatV = true := by
  replace h := rps_paired.mp h
  induction h with
  | nil => rfl
  | cons h _ ih =>
    unfold flatsD at f
    rw [List.all_cons, Bool.and_eq_true] at f
    rw [List.all_cons, flat_v f.1 h, ih f.2]; rfl
theorem eqV_eqv {H : Hp} {d e : PyData} {v u : V} (f : flatD d = true) (g : flatD e = true) (h : Rp H d v) (k : Rp H e u) : eqV v u = PyData.eqv d e := by
  cases d <;> cases e <;> first
    | (unfold Rp at h k; subst h; subst k; rfl)
    | exact absurd (show false = true from f) Bool.false_ne_true
    | exact absurd (show false = true from g) Bool.false_ne_true
theorem inV_eqv {H : Hp} {d : PyData} {v : V} (f : flatD d = true) (h : Rp H d v) {ds : List PyData} {vs : List V} (g : flatsD ds = true) (r : Rps H ds vs) : inV v vs = ds.any fun e => PyData.eqv e d := by
  replace r := rps_paired.mp r
  unfold inV
  induction r with
  | nil => rfl
  | cons r _ ih =>
    unfold flatsD at g
    rw [List.all_cons, Bool.and_eq_true] at g
    rw [List.any_cons, List.any_cons, eqV_eqv g.1 f r h, ih g.2]
def itemsD : PyData → Option (List PyData)
  | .list ds => some ds
  | .tuple ds => some ds
  | _ => none
def inD (neg : Bool) : OF := fun d c => match itemsD c with
  | some ds => if flatD d = true ∧ flatsD ds = true then some (.bool (if neg then !(ds.any fun e => PyData.eqv e d) else ds.any fun e => PyData.eqv e d), false) else none
  | none => none
theorem rp_items {K : PySem.W.Frag} {H : Hp} {c : PyData} {v : V} {ds : List PyData} (h : Rp H c v) (e : itemsD c = some ds) : ∃ p xs, v = .ref p ∧ (SqL K H p xs ∨ SqT K H p xs) ∧ Rps H ds xs := by
  cases c <;> first
    | cases e
    | skip
  · obtain ⟨a, xs, e, h1, h2⟩ := rp_list h; exact ⟨a, xs, e, .inl (SqL.of h1), h2⟩
  · obtain ⟨a, xs, e, h1, h2⟩ := rp_tuple h; exact ⟨a, xs, e, .inr (SqT.of h1), h2⟩
theorem so_in {K : PySem.W.Frag} {neg : Bool} : SO (rIn K neg) (inD neg) := by
  intro A H x y dx dy hA rx ry d fr e Q q
  unfold inD at e
  split at e
  · rename_i ds hi
    split at e
    · rename_i h
      cases e
      have rx := Rp.same (Offs.same A H) _ rx
      obtain ⟨p, xs, rfl, hq, r⟩ := rp_items (K := K) (Rp.same (Offs.same A H) _ ry) hi
      refine ⟨p, xs, rfl, hq, flat_v h.1 rx, flats_v h.2 r, ?_⟩
      rw [inV_eqv h.1 rx h.2 r]
      refine q _ H (Same.refl _) ?_ (fun z => by cases z)
      cases neg <;> exact rp_mk_bool
    · cases e
  · cases e
/-! ### a[i] -/
def ixD : OF
  | .str z, .int i => if z.length ≤ 100000 then (atI z.cps.toList i).map fun c => (.str ⟨#[c]⟩, false) else none
  | .list ds, .int i => (atI ds i).map fun d => (d, false)
  | .tuple ds, .int i => (atI ds i).map fun d => (d, false)
  | _, _ => none
theorem Rps.atI {H : Hp} {ds : List PyData} {vs : List V} (h : Rps H ds vs) {i : Int} {d : PyData} (e : atI ds i = some d) : ∃ v, L2.atI vs i = some v ∧ Rp H d v := by
  unfold L2.atI at e ⊢
  rw [← h.length]
  cases g : ixN ds.length i with
  | none => rw [g] at e; cases e
  | some j =>
    rw [g] at e
    exact h.get2 e
theorem so_ix {K : PySem.W.Frag} : SO (rIxU K) ixD := by
  intro A H x y dx dy hA rx ry d fr e Q q
  unfold ixD at e
  split at e
  · split at e
    · rename_i z i hl
      obtain ⟨c, hc, e⟩ := Option.map_eq_some_iff.mp e
      cases e
      cases rp_str rx; cases rp_int ry
      exact ⟨size_of hl, c, hc, q _ H (Same.refl _) rp_mk_str (fun z => by cases z)⟩
    · cases e
  · obtain ⟨c, hc, e⟩ := Option.map_eq_some_iff.mp e
    cases e
    obtain ⟨p, xs, rfl, hp, r⟩ := rp_list rx
    cases rp_int ry
    obtain ⟨v, hv, rv⟩ := r.atI hc
    exact ⟨xs, v, .inl (SqL.of (off_at hp)), hv, q _ H (Same.refl _) rv (fun z => by cases z)⟩
  · obtain ⟨c, hc, e⟩ := Option.map_eq_some_iff.mp e
    cases e
    obtain ⟨p, xs, rfl, hp, r⟩ := rp_tuple rx
    cases rp_int ry
    obtain ⟨v, hv, rv⟩ := r.atI hc
    exact ⟨xs, v, .inr (SqT.of (off_at hp)), hv, q _ H (Same.refl _) rv (fun z => by cases z)⟩
  · cases e
end L2

namespace L2
open PySem PySem.Spec PyProof.Rows
/-! ### dicts -/
def dgetD : List (PyData × PyData) → Key → Option PyData
  | [], _ => none
  | (k, d) :: r, j => if keyD k = some j then some d else dgetD r j
def dhasD (kvs : List (PyData × PyData)) (j : Key) : Bool := (dgetD kvs j).isSome
def dputD (kvs : List (PyData × PyData)) (k : PyData) (d : PyData) : List (PyData × PyData) :=
  if (kvs.any fun kv => decide (keyD kv.1 = keyD k)) = true then kvs.map (fun kv => if keyD kv.1 = keyD k then (kv.1, d) else kv) else kvs ++ [(k, d)]
def dmergeD (kvs more : List (PyData × PyData)) : List (PyData × PyData) := more.foldl (fun acc kv => dputD acc kv.1 kv.2) kvs
theorem rpd_cons {H : Hp} {k d : PyData} {r : List (PyData × PyData)} {k' : Key} {v : V} {vs : List (Key × V)} (hk : keyD k = some k') (h : Rp H d v) (q : Rpd H r vs) : Rpd H ((k, d) :: r) ((k', v) :: vs) := by
  show Rpd H ((k, d) :: r) _
  unfold Rpd; exact ⟨k', v, vs, rfl, hk, h, q⟩
theorem rpd_uncons {H : Hp} {k d : PyData} {r : List (PyData × PyData)} {ps : List (Key × V)} (h : Rpd H ((k, d) :: r) ps) : ∃ k' v vs, ps = (k', v) :: vs ∧ keyD k = some k' ∧ Rp H d v ∧ Rpd H r vs := by
  unfold Rpd at h; exact h
theorem Rpd.length {H : Hp} : ∀ {kvs : List (PyData × PyData)} {ps : List (Key × V)}, Rpd H kvs ps → kvs.length = ps.length
  | [], ps, h => by unfold Rpd at h; subst h; rfl
  | (k, d) :: r, ps, h => by
    obtain ⟨k', v, vs, rfl, _, _, h3⟩ := rpd_uncons h
    rw [List.length_cons, List.length_cons, h3.length]
theorem Rpd.get {H : Hp} {j : Key} : ∀ {kvs : List (PyData × PyData)} {ps : List (Key × V)}, Rpd H kvs ps → match dgetD kvs j with
    | some d => ∃ v, valV ps j = some v ∧ Rp H d v
    | none => valV ps j = none
  | [], ps, h => by unfold Rpd at h; subst h; rfl
  | (k, d) :: r, ps, h => by
    obtain ⟨k', v, vs, rfl, hk, h2, h3⟩ := rpd_uncons h
    have ih := Rpd.get (j := j) h3
    unfold dgetD
    by_cases e : k' = j
    · rw [if_pos (by rw [hk, e])]
      exact ⟨v, valV_pos e, h2⟩
    · rw [if_neg (fun z => e (by rw [hk] at z; exact Option.some.inj z)), valV_neg e]
      exact ih
theorem Rpd.any {H : Hp} {j : Key} : ∀ {kvs : List (PyData × PyData)} {ps : List (Key × V)}, Rpd H kvs ps → (kvs.any fun kv => decide (keyD kv.1 = some j)) = ps.any fun kv => decide (kv.1 = j)
  | [], ps, h => by unfold Rpd at h; subst h; rfl
  | (k, d) :: r, ps, h => by
    obtain ⟨k', v, vs, rfl, hk, h2, h3⟩ := rpd_uncons h
    rw [List.any_cons, List.any_cons, h3.any, hk]
    congr 1
    simp
theorem Rpd.map {H : Hp} {j : Key} {d' : PyData} {v' : V} (h' : Rp H d' v') : ∀ {kvs : List (PyData × PyData)} {ps : List (Key × V)}, Rpd H kvs ps → Rpd H (kvs.map fun kv => if keyD kv.1 = some j then (kv.1, d') else kv) (ps.map fun kv => if kv.1 = j then (kv.1, v') else kv)
  | [], ps, h => by unfold Rpd at h; subst h; exact rpd_nil
  | (k, d) :: r, ps, h => by
    obtain ⟨k', v, vs, rfl, hk, h2, h3⟩ := rpd_uncons h
    rw [List.map_cons, List.map_cons]
    by_cases e : k' = j
    · rw [if_pos (show keyD (k, d).1 = some j by rw [hk, e]), if_pos (show ((k', v) : Key × V).1 = j from e)]
      exact rpd_cons hk h' (Rpd.map h' h3)
    · rw [if_neg (show ¬ keyD (k, d).1 = some j from fun z => e (by rw [hk] at z; exact Option.some.inj z)), if_neg (show ¬ ((k', v) : Key × V).1 = j from e)]
      exact rpd_cons hk h2 (Rpd.map h' h3)
theorem Rpd.snoc {H : Hp} {k d : PyData} {k' : Key} {v : V} (hk : keyD k = some k') (h' : Rp H d v) : ∀ {kvs : List (PyData × PyData)} {ps : List (Key × V)}, Rpd H kvs ps → Rpd H (kvs ++ [(k, d)]) (ps ++ [(k', v)])
  | [], ps, h => by unfold Rpd at h; subst h; exact rpd_cons hk h' rpd_nil
  | (k0, d0) :: r, ps, h => by
    obtain ⟨k1, v1, vs, rfl, hk1, h2, h3⟩ := rpd_uncons h
    exact rpd_cons hk1 h2 (Rpd.snoc hk h' h3)
theorem Rpd.put {H : Hp} {k d : PyData} {j : Key} {v : V} {kvs : List (PyData × PyData)} {ps : List (Key × V)} (h : Rpd H kvs ps) (hk : keyD k = some j) (h' : Rp H d v) : Rpd H (dputD kvs k d) (putK ps j v) := by
  unfold dputD putK
  rw [hk, h.any]
  split
  · exact h.map h'
  · exact h.snoc hk h'
theorem Rpd.merge {H : Hp} : ∀ {more : List (PyData × PyData)} {ps : List (Key × V)} {kvs : List (PyData × PyData)} {qs : List (Key × V)}, Rpd H kvs qs → Rpd H more ps → Rpd H (dmergeD kvs more) (mergeK qs ps)
  | [], ps, kvs, qs, h, g => by unfold Rpd at g; subst g; exact h
  | (k, d) :: r, ps, kvs, qs, h, g => by
    obtain ⟨k', v, vs, rfl, hk, h2, h3⟩ := rpd_uncons g
    show Rpd H (dmergeD (dputD kvs k d) r) (mergeK (putK qs k' v) vs)
    exact Rpd.merge (h.put hk h2) h3
theorem key_v {H : Hp} {d : PyData} {v : V} {k : Key} (h : Rp H d v) (e : keyD d = some k) : v = kV k := by
  cases d <;> first
    | (cases e; unfold Rp at h; exact h)
    | cases e
def eDGet (a b : EF) : EF := fun env => (a env).bind fun x => (b env).bind fun y => match x.d with
  | .dict kvs => (keyD y.d).bind fun k => (dgetD kvs k).bind fun d => some ⟨d, false, bsOf d x.bs⟩
  | _ => none
def eDIn (neg : Bool) (a b : EF) : EF := fun env => (a env).bind fun x => (b env).bind fun y => match y.d with
  | .dict kvs => (keyD x.d).bind fun k => some ⟨.bool (if neg then !dhasD kvs k else dhasD kvs k), false, []⟩
  | _ => none
theorem dget_of {H : Hp} {kvs : List (PyData × PyData)} {ps : List (Key × V)} (r : Rpd H kvs ps) (k : Key) : (valV ps k).isSome = dhasD kvs k := by
  have g := r.get (j := k)
  unfold dhasD
  cases e : dgetD kvs k with
  | none => rw [e] at g; rw [show valV ps k = none from g]; rfl
  | some d => rw [e] at g; obtain ⟨w, e1, _⟩ := g; rw [e1]; rfl
theorem se_dnotin {td ty : TE} {fa fb : EF} (ha : SE ty fa) (hb : SE td fb) : SE (tDNotIn ty td) (eDIn true fa fb) := by
  intro fx H0 env σ H h rr hr Q q
  unfold eDIn at hr
  obtain ⟨⟨dx, frx, bx⟩, ex, hr⟩ := Option.bind_eq_some_iff.mp hr
  obtain ⟨⟨dy, fry, by'⟩, ey, hr⟩ := Option.bind_eq_some_iff.mp hr
  cases dy with
  | dict kvs =>
    obtain ⟨k, ek, hr⟩ := Option.bind_eq_some_iff.mp hr
    cases hr
    refine ha fx H0 env σ H h _ ex _ fun v H1 s1 v1 => hb fx H0 env σ H1 (h.up s1) _ ey _ fun u H2 s2 v2 => ?_
    obtain ⟨a, ps, rfl, hp, r⟩ := rp_dict v2.rp
    rw [key_v v1.rp ek]
    exact ⟨a, _, rfl, DGet.k (off_at hp), by rw [dget_of r k]; exact q _ H2 (s1.trans s2) ⟨rp_mk_bool, fun z => by cases z⟩⟩
  | _ => cases hr
/-! ### tests -/
def tBool (f : EF) : TF := fun env => (f env).bind fun r => match r.d with | .bool b => some b | _ => none
theorem st_b {te : TE} {f : EF} (h : SE te f) : ST (tB te) (tBool f) := by
  intro fx H0 env σ H hE b hb Q q
  unfold tBool at hb
  obtain ⟨⟨d, fr, bs⟩, e, hb⟩ := Option.bind_eq_some_iff.mp hb
  cases d with
  | bool c =>
    have hb : some c = some b := hb
    cases hb
    exact h fx H0 env σ H hE _ e _ fun v H' s v1 => ⟨_, rp_bool v1.rp, q H' s⟩
  | _ => cases hb
theorem st_t {te : TE} {f : EF} (h : SE te f) : ST (tTest te) (tBool f) := st_b h
def truD : PyData → Option Bool
  | .none => some false
  | .bool b => some b
  | .int i => some (i != 0)
  | .str x => if x.length ≤ 100000 then some ((x.length : Int) != 0) else none
  | .list ds => some (!ds.isEmpty)
  | .tuple ds => some (!ds.isEmpty)
  | .dict ds => some (!ds.isEmpty)
def tTru (f : EF) : TF := fun env => (f env).bind fun r => truD r.d
theorem isEmpty_len {α β : Type} {xs : List α} {ys : List β} (h : xs.length = ys.length) : xs.isEmpty = ys.isEmpty := by
  cases xs <;> cases ys <;> simp at h <;> rfl
theorem tru_v {K : PySem.W.Frag} {H : Hp} {d : PyData} {v : V} {b : Bool} (h : Rp H d v) (e : truD d = some b) : TruV K v H b := by
  cases d with
  | none => cases e; cases rp_none h; rfl
  | bool c => cases e; cases rp_bool h; rfl
  | int i => cases e; cases rp_int h; rfl
  | str x =>
    have e : (if x.length ≤ 100000 then some ((x.length : Int) != 0) else none) = some b := e
    split at e
    · rename_i hl; cases e; cases rp_str h; exact ⟨size_of hl, rfl⟩
    · cases e
  | list ds => cases e; obtain ⟨a, xs, rfl, h1, h2⟩ := rp_list h; exact .inl ⟨xs, SqL.of h1, by rw [isEmpty_len h2.length]⟩
  | tuple ds => cases e; obtain ⟨a, xs, rfl, h1, h2⟩ := rp_tuple h; exact .inr (.inl ⟨xs, SqT.of h1, by rw [isEmpty_len h2.length]⟩)
  | dict ds => cases e; obtain ⟨a, xs, rfl, h1, h2⟩ := rp_dict h; exact .inr (.inr ⟨xs, h1, by rw [isEmpty_len h2.length]⟩)
theorem st_tru {K : PySem.W.Frag} {te : TE} {f : EF} (h : SE te f) : ST (fun σ H Q => te σ H fun x H1 => ∃ k, TruV K x H1 k ∧ Q k H1) (tTru f) := by
  intro fx H0 env σ H hE b hb Q q
  unfold tTru at hb
  obtain ⟨r, e, hb⟩ := Option.bind_eq_some_iff.mp hb
  exact h fx H0 env σ H hE _ e _ fun v H' s v1 => ⟨b, tru_v (Rp.same (Offs.same _ _) _ v1.rp) hb, q H' s⟩
def tAndF (f g : TF) : TF := fun env => (f env).bind fun b => if b = true then g env else some false
def tOrF (f g : TF) : TF := fun env => (f env).bind fun b => if b = true then some true else g env
def tNotF (f : TF) : TF := fun env => (f env).map fun b => !b
theorem st_and {t u : TT} {f g : TF} (h : ST t f) (k : ST u g) : ST (tAnd t u) (tAndF f g) := by
  intro fx H0 env σ H hE b hb Q q
  unfold tAndF at hb
  obtain ⟨c, e, hb⟩ := Option.bind_eq_some_iff.mp hb
  refine h fx H0 env σ H hE c e _ fun H' s => ?_
  cases c with
  | true => exact iteT (k fx H0 env σ H' (hE.up s) b hb _ fun H'' s' => q H'' (s.trans s'))
  | false => cases hb; exact iteF (q H' s)
theorem st_or {t u : TT} {f g : TF} (h : ST t f) (k : ST u g) : ST (tOr t u) (tOrF f g) := by
  intro fx H0 env σ H hE b hb Q q
  unfold tOrF at hb
  obtain ⟨c, e, hb⟩ := Option.bind_eq_some_iff.mp hb
  refine h fx H0 env σ H hE c e _ fun H' s => ?_
  cases c with
  | false => exact iteF (k fx H0 env σ H' (hE.up s) b hb _ fun H'' s' => q H'' (s.trans s'))
  | true => cases hb; exact iteT (q H' s)
theorem st_not {t : TT} {f : TF} (h : ST t f) : ST (tNot t) (tNotF f) := by
  intro fx H0 env σ H hE b hb Q q
  unfold tNotF at hb
  obtain ⟨c, e, rfl⟩ := Option.map_eq_some_iff.mp hb
  exact h fx H0 env σ H hE c e _ fun H' s => q H' s
/-! as values -/
def asB : PyData → Option Bool | .bool b => some b | _ => none
def eAnd (a b : EF) : EF := fun env => (a env).bind fun x => (asB x.d).bind fun c => if c = true then b env else some ⟨.bool false, false, []⟩
theorem as_b {H : Hp} {d : PyData} {v : V} {c : Bool} (h : Rp H d v) (e : asB d = some c) : v = .bl c := by
  cases d <;> first
    | (cases e; exact rp_bool h)
    | cases e
theorem se_and {ta tb : TE} {fa fb : EF} (ha : SE ta fa) (hb : SE tb fb) : SE (tAndV ta tb) (eAnd fa fb) := by
  intro fx H0 env σ H h rr hr Q q
  unfold eAnd at hr
  obtain ⟨x, ex, hr⟩ := Option.bind_eq_some_iff.mp hr
  obtain ⟨c, ec, hr⟩ := Option.bind_eq_some_iff.mp hr
  refine ha fx H0 env σ H h _ ex _ fun v H1 s1 v1 => ⟨c, as_b v1.rp ec, ?_⟩
  cases c with
  | true => exact iteT (hb fx H0 env σ H1 (h.up s1) _ hr _ fun u H2 s2 v2 => q u H2 (s1.trans s2) (v2.later s1 (Same.refl _) fun _ z => z))
  | false => cases hr; exact iteF (q _ H1 s1 ⟨rp_mk_bool, fun z => by cases z⟩)
end L2

namespace L2
open PySem PySem.Spec PyProof.Rows
/-! ### argument lists -/
def aNil : AF := fun _ => some []
def aCons (a : EF) (r : AF) : AF := fun env => (a env).bind fun x => (r env).map fun xs => x :: xs
theorem sa_nil : SA tNil aNil := by
  intro fx H0 env σ H h rs hr Q q
  cases hr
  exact q [] H (Same.refl _) .nil
theorem sa_cons {te : TE} {ta : TA} {f : EF} {g : AF} (h1 : SE te f) (h2 : SA ta g) : SA (tCons te ta) (aCons f g) := by
  intro fx H0 env σ H h rs hr Q q
  unfold aCons at hr
  obtain ⟨x, ex, hr⟩ := Option.bind_eq_some_iff.mp hr
  obtain ⟨xs, exs, rfl⟩ := Option.map_eq_some_iff.mp hr
  exact h1 fx H0 env σ H h x ex _ fun v H1 s1 v1 => h2 fx H0 env σ H1 (h.up s1) xs exs _ fun vs H2 s2 vs2 => q (v :: vs) H2 (s1.trans s2)
    (.cons (v1.later (Same.refl _) s2 fun _ z => z) (Paired.mapP vs2 fun _ _ z => z.later s1 (Same.refl _) fun _ y => y))
def datas (rs : List Val) : List PyData := rs.map (·.d)
def bss (rs : List Val) : List Nat := rs.flatMap (·.bs)
theorem vals_rps {fx : Addr → Prop} {env : DEnv} {σ : St} {H H' : Hp} : ∀ {rs : List Val} {vs : List V} {cs : List Nat}, (∀ i ∈ bss rs, i ∈ cs) → Paired (fun r v => ValOk (lim fx env σ r.bs) H H' r v) rs vs → Rps (Offs (lim fx env σ cs) H') (datas rs) vs
  | _, _, _, _, .nil => rps_nil
  | r :: rs, v :: vs, cs, hc, .cons h t => rps_cons (Rp.same (Offs.sub (lim_sub fun i hi => hc i (List.mem_flatMap.mpr ⟨r, List.mem_cons_self, hi⟩))) _ h.rp)
      (vals_rps (fun i hi => hc i (by obtain ⟨x, h1, h2⟩ := List.mem_flatMap.mp hi; exact List.mem_flatMap.mpr ⟨x, List.mem_cons_of_mem _ h1, h2⟩)) t)

/-! ### displays -/
def eTup (f : AF) : EF := fun env => (f env).bind fun rs => if rs.length ≤ 100000 then some ⟨.tuple (datas rs), false, bss rs⟩ else none
def eLst (f : AF) : EF := fun env => (f env).bind fun rs => if rs.length ≤ 100000 then some ⟨.list (datas rs), true, bss rs⟩ else none
theorem datas_len (rs : List Val) : (datas rs).length = rs.length := by unfold datas; rw [List.length_map]
theorem se_tup {ta : TA} {f : AF} (ha : SA ta f) : SE (tTup ta) (eTup f) := by
  intro fx H0 env σ H h rr hr Q q
  unfold eTup at hr
  obtain ⟨rs, er, hr⟩ := Option.bind_eq_some_iff.mp hr
  split at hr
  · rename_i hl
    cases hr
    refine ha fx H0 env σ H h rs er _ fun vs H1 s1 v1 => ?_
    have r := vals_rps (fun i hi => hi) v1
    have hA := (h.up s1).lims (bss rs)
    refine ⟨size_of (by rw [← r.length, datas_len]; exact hl), fun p hp => q _ _ (s1.trans (Same.new hp)) ⟨new_rpT hp (off_new hA hp) r, fun z => by cases z⟩⟩
  · cases hr
theorem se_lst {ta : TA} {f : AF} (ha : SA ta f) : SE (tLst ta) (eLst f) := by
  intro fx H0 env σ H h rr hr Q q
  unfold eLst at hr
  obtain ⟨rs, er, hr⟩ := Option.bind_eq_some_iff.mp hr
  split at hr
  · rename_i hl
    cases hr
    refine ha fx H0 env σ H h rs er _ fun vs H1 s1 v1 => ?_
    have r := vals_rps (fun i hi => hi) v1
    have hA := (h.up s1).lims (bss rs)
    refine ⟨size_of (by rw [← r.length, datas_len]; exact hl), fun p hp => q _ _ (s1.trans (Same.new hp)) ⟨new_rp hp (off_new hA hp) r, fun _ => ⟨p, rfl, s1.free hp, new_acc hp r⟩⟩⟩
  · cases hr
def eDNew : EF := fun _ => some ⟨.dict [], true, []⟩
theorem se_dnew : SE tDNewK eDNew := by
  intro fx H0 env σ H h rr hr Q q
  cases hr
  intro p hp
  have hA := h.lims []
  exact q _ _ (Same.new hp) ⟨rp_mk_dict (by rw [Offs.get (off_new hA hp)]; exact upd_same) rpd_nil, fun _ => ⟨p, rfl, hp, ⟨[], upd_same, rpd_nil⟩⟩⟩
/-- {k: v}, one pair -/
def eD1 (k v : EF) : EF := fun env => (k env).bind fun x => (v env).bind fun y => (keyD x.d).bind fun _ => some ⟨.dict [(x.d, y.d)], true, y.bs⟩
theorem se_d1 {tk tv : TE} {f g : EF} (h1 : SE tk f) (h2 : SE tv g) : SE (tDisp [(tk, tv)]) (eD1 f g) := by
  intro fx H0 env σ H h rr hr Q q
  unfold eD1 at hr
  obtain ⟨x, ex, hr⟩ := Option.bind_eq_some_iff.mp hr
  obtain ⟨y, ey, hr⟩ := Option.bind_eq_some_iff.mp hr
  obtain ⟨k, ek, hr⟩ := Option.bind_eq_some_iff.mp hr
  cases hr
  intro p hp
  have hp0 : Same H (upd H p (.dK [])) := Same.new hp
  have npf : ¬ fx p := off_new h.fxs hp
  -- the dict stands apart: it is left out while the pair comes
  have hE : EnvOk (fun b => fx b ∨ b = p) H0 env σ (upd H p (.dK [])) := h.grow hp0 (fun b o e n z => z.elim n fun y => by rw [y, hp] at e; cases e) fun b z => by
    rcases z with z | z
    · obtain ⟨o, e⟩ := h.fxs b z; exact ⟨o, hp0 b o e⟩
    · rw [z]; exact ⟨_, upd_same⟩
  refine h1 _ H0 env σ _ hE x ex _ fun v H1 s1 v1 => h2 _ H0 env σ H1 (hE.up s1) y ey _ fun u H2 s2 v2 => ?_
  have ep : H2 p = some (.dK []) := (s1.trans s2) _ _ upd_same
  refine ⟨ep, [(k, u)], by rw [key_v v1.rp ek]; rfl, (by show 1 ≤ 15; decide), ?_⟩
  have em : mergeK [] [(k, u)] = [(k, u)] := rfl
  rw [em]
  have rp2 : Rp (Offs (fun b => lim fx env σ y.bs b ∨ b = p) (upd H2 p (.dK [(k, u)]))) y.d u := by
    rw [Offs.upd (.inr rfl)]
    exact Rp.same (Offs.sub fun b z => by
      rcases z with (z | z) | z
      · exact .inl (.inl z)
      · exact .inr z
      · exact .inl (.inr z)) _ v2.rp
  have hs : Same H (upd H2 p (.dK [(k, u)])) := fun b o e => by
    rw [upd_ne (ne_of_none e hp)]
    exact s2 _ _ (s1 _ _ (hp0 _ _ e))
  have hnp : ¬ lim fx env σ y.bs p := off_new (h.lims y.bs) hp
  refine q _ _ hs ⟨rp_mk_dict (by rw [Offs.get hnp]; exact upd_same) (rpd_cons ek (Rp.same (Offs.sub fun b z => .inl z) _ rp2) rpd_nil), fun _ => ⟨p, rfl, hp, ⟨_, upd_same, rpd_cons ek rp2 rpd_nil⟩⟩⟩

/-! ### calls of builtins -/
abbrev GF := List PyData → Option (PyData × Bool)
def SC (r : List V → Hp → VK → Prop) (g : GF) : Prop := ∀ (A : Addr → Prop) (H : Hp) (vs : List V) (ds : List PyData), (∀ b, A b → ∃ o, H b = some o) → Rps (Offs A H) ds vs → ∀ d fr, g ds = some (d, fr) → ∀ Q : VK,
  (∀ v H', Same H H' → Rp (Offs A H') d v → (fr = true → ∃ a, v = .ref a ∧ H a = none ∧ AccAt (Offs (fun b => A b ∨ b = a) H') H' a d) → Q v H') → r vs H Q
def eCB (g : GF) (f : AF) : EF := fun env => (f env).bind fun rs => (g (datas rs)).bind fun z => some ⟨z.1, z.2, bsOf z.1 (bss rs)⟩
theorem se_cb {r : List V → Hp → VK → Prop} {g : GF} {ta : TA} {f : AF} (hc : SC r g) (ha : SA ta f) : SE (tCB r ta) (eCB g f) := by
  intro fx H0 env σ H h rr hr Q q
  unfold eCB at hr
  obtain ⟨rs, er, hr⟩ := Option.bind_eq_some_iff.mp hr
  obtain ⟨⟨d, fr⟩, ez, hr⟩ := Option.bind_eq_some_iff.mp hr
  cases hr
  refine ha fx H0 env σ H h rs er _ fun vs H1 s1 v1 => hc (lim fx env σ (bss rs)) H1 vs (datas rs) ((h.up s1).lims _) (vals_rps (fun i hi => hi) v1) d fr ez _ fun w H3 s3 rp fr3 => q w H3 (s1.trans s3) ⟨rp_bsOf rp, fun e => ?_⟩
  obtain ⟨a, g1, g2, g3⟩ := fr3 e
  refine ⟨a, g1, s1.free g2, ?_⟩
  have nf : flatD d = false := by cases d <;> first | rfl | exact g3.elim
  show AccAt (Offs (fun b => lim fx env σ (bsOf d (bss rs)) b ∨ b = a) H3) H3 a d
  rw [show bsOf d (bss rs) = bss rs by unfold bsOf; rw [if_neg (by rw [nf]; decide)]]
  exact g3
theorem rps1 {H : Hp} {d : PyData} {vs : List V} (h : Rps H [d] vs) : ∃ v, vs = [v] ∧ Rp H d v := by
  unfold Rps at h
  obtain ⟨v, ws, rfl, h1, h2⟩ := h
  unfold Rps at h2
  subst h2
  exact ⟨v, rfl, h1⟩
theorem rps2 {H : Hp} {d e : PyData} {vs : List V} (h : Rps H [d, e] vs) : ∃ v u, vs = [v, u] ∧ Rp H d v ∧ Rp H e u := by
  unfold Rps at h
  obtain ⟨v, ws, rfl, h1, h2⟩ := h
  obtain ⟨u, rfl, h3⟩ := rps1 h2
  exact ⟨v, u, rfl, h1, h3⟩
def lenD : GF
  | [.str x] => if x.length ≤ 100000 then some (.int x.length, false) else none
  | [.list ds] => some (.int ds.length, false)
  | [.tuple ds] => some (.int ds.length, false)
  | _ => none
theorem sc_len {K : PySem.W.Frag} : SC (fun xs H Q => ∃ x n, xs = [x] ∧ LenV K x H n ∧ Q (.int n) H) lenD := by
  intro A H vs ds hA rv d fr e Q q
  unfold lenD at e
  split at e
  · split at e
    · rename_i hl
      cases e
      obtain ⟨v, rfl, r⟩ := rps1 rv
      cases rp_str r
      exact ⟨_, _, rfl, ⟨size_of hl, rfl⟩, q _ H (Same.refl _) rp_mk_int (fun z => by cases z)⟩
    · cases e
  · cases e
    obtain ⟨v, rfl, r⟩ := rps1 rv
    obtain ⟨a, xs, rfl, h1, h2⟩ := rp_list r
    exact ⟨_, _, rfl, .inl ⟨xs, SqL.of (off_at h1), rfl⟩, by rw [← h2.length]; exact q _ H (Same.refl _) rp_mk_int (fun z => by cases z)⟩
  · cases e
    obtain ⟨v, rfl, r⟩ := rps1 rv
    obtain ⟨a, xs, rfl, h1, h2⟩ := rp_tuple r
    exact ⟨_, _, rfl, .inr ⟨xs, SqT.of (off_at h1), rfl⟩, by rw [← h2.length]; exact q _ H (Same.refl _) rp_mk_int (fun z => by cases z)⟩
  · cases e
def minD : GF
  | [.int i, .int j] => some (.int (if j < i then j else i), false)
  | _ => none
theorem sc_min : SC (fun xs H Q => ∃ i j, xs = [.int i, .int j] ∧ Q (.int (if j < i then j else i)) H) minD := by
  intro A H vs ds hA rv d fr e Q q
  unfold minD at e
  split at e
  · cases e
    obtain ⟨v, u, rfl, r1, r2⟩ := rps2 rv
    cases rp_int r1; cases rp_int r2
    exact ⟨_, _, rfl, q _ H (Same.refl _) rp_mk_int (fun z => by cases z)⟩
  · cases e
def listD : GF
  | [c] => (itemsD c).map fun ds => (.list ds, true)
  | _ => none
theorem sc_list {K : PySem.W.Frag} : SC (fun xs H Q => ∃ p ys, xs = [.ref p] ∧ (SqL K H p ys ∨ SqT K H p ys) ∧ ∀ l, H l = none → Q (.ref l) (upd H l (.lst ys))) listD := by
  intro A H vs ds hA rv d fr e Q q
  unfold listD at e
  split at e
  · obtain ⟨es, he, e⟩ := Option.map_eq_some_iff.mp e
    cases e
    obtain ⟨v, rfl, r1⟩ := rps1 rv
    obtain ⟨p, xs, rfl, hq, r⟩ := rp_items (K := K) r1 he
    refine ⟨p, xs, rfl, hq.imp (Offs.same A H).seq (SqT.same (Offs.same A H)), fun l hl => ?_⟩
    exact q _ _ (Same.new hl) (new_rp hl (off_new hA hl) r) fun _ => ⟨l, rfl, hl, new_acc hl r⟩
  · cases e
def tupleD : GF
  | [c] => (itemsD c).map fun ds => (.tuple ds, false)
  | _ => none
theorem sc_tuple {K : PySem.W.Frag} : SC (fun xs H Q => ∃ p ys, xs = [.ref p] ∧ ((SqL K H p ys ∧ ∀ l, H l = none → Q (.ref l) (upd H l (.tup ys))) ∨ (SqT K H p ys ∧ Q (.ref p) H))) tupleD := by
  intro A H vs ds hA rv d fr e Q q
  unfold tupleD at e
  split at e
  · obtain ⟨es, he, e⟩ := Option.map_eq_some_iff.mp e
    cases e
    obtain ⟨v, rfl, r1⟩ := rps1 rv
    rename_i c
    cases c with
    | list ds =>
      cases he
      obtain ⟨p, xs, rfl, h1, r⟩ := rp_list r1
      exact ⟨p, xs, rfl, .inl ⟨SqL.of (off_at h1), fun l hl => q _ _ (Same.new hl) (new_rpT hl (off_new hA hl) r) (fun z => by cases z)⟩⟩
    | tuple ds =>
      cases he
      obtain ⟨p, xs, rfl, h1, r⟩ := rp_tuple r1
      exact ⟨p, xs, rfl, .inr ⟨SqT.of (off_at h1), q _ H (Same.refl _) r1 (fun z => by cases z)⟩⟩
    | _ => cases he
  · cases e
def boolsD : List PyData → Option (List Bool)
  | [] => some []
  | .bool b :: r => (boolsD r).map fun bs => b :: bs
  | _ => none
theorem rps_bools {H : Hp} : ∀ {ds : List PyData} {vs : List V} {bs : List Bool}, Rps H ds vs → boolsD ds = some bs → vs = bs.map V.bl
  | [], vs, bs, h, e => by unfold Rps at h; cases e; exact h
  | d :: ds, vs, bs, h, e => by
    unfold Rps at h
    obtain ⟨v, ws, rfl, h1, h2⟩ := h
    cases d with
    | bool b =>
      obtain ⟨cs, ec, rfl⟩ := Option.map_eq_some_iff.mp e
      rw [rp_bool h1, rps_bools h2 ec]; rfl
    | _ => cases e
def anyD (f : List Bool → Bool) : GF
  | [.list ds] => (boolsD ds).map fun bs => (.bool (f bs), false)
  | _ => none
theorem sc_any {K : PySem.W.Frag} {f : List Bool → Bool} : SC (rAny K f) (anyD f) := by
  intro A H vs ds hA rv d fr e Q q
  unfold anyD at e
  split at e
  · obtain ⟨bs, he, e⟩ := Option.map_eq_some_iff.mp e
    cases e
    obtain ⟨v, rfl, r1⟩ := rps1 rv
    obtain ⟨p, xs, rfl, h1, r⟩ := rp_list r1
    cases rps_bools r he
    exact ⟨p, bs, rfl, SqL.of (off_at h1), q _ H (Same.refl _) rp_mk_bool (fun z => by cases z)⟩
  · cases e
/-! ### isinstance -/
def tyName : PyData → String
  | .none => "NoneType" | .bool _ => "bool" | .int _ => "int" | .str _ => "str" | .list _ => "list" | .tuple _ => "tuple" | .dict _ => "dict"
theorem rp_ty {K : PySem.W.Frag} {H : Hp} {d : PyData} {v : V} (h : Rp H d v) : TyOf K H v (.type (tyName d)) := by
  cases d with
  | list ds => obtain ⟨a, xs, rfl, h1, _⟩ := rp_list h; exact .lst h1
  | tuple ds => obtain ⟨a, xs, rfl, h1, _⟩ := rp_tuple h; exact .tup h1
  | dict ds => obtain ⟨a, xs, rfl, h1, _⟩ := rp_dict h; exact .dK h1
  | none => cases rp_none h; exact .non
  | bool b => cases rp_bool h; exact .bl _
  | int b => cases rp_int h; exact .int _
  | str b => cases rp_str h; exact .str _
def isiB (n : String) (d : PyData) : Bool := tyName d == n || (tyName d == "bool" && n == "int")
def eIsi (n : String) (a : EF) : EF := fun env => (a env).map fun x => ⟨.bool (isiB n x.d), false, []⟩
theorem se_isi {K : PySem.W.Frag} {n : String} {te : TE} {f : EF} (h1 : SE te f) (hk : ∀ d, PySem.W.kitOne K (.type (tyName d)) (.type n) = some (isiB n d)) :
    SE (tCB (fun xs H Q => ∃ x n t b, xs = [x, .ty n] ∧ TyOf K H x t ∧ PySem.W.kitOne K t (.type n) = some b ∧ Q (.bl b) H) (tCons te (tCons (tC (.ty n)) tNil))) (eIsi n f) := by
  intro fx H0 env σ H h rr hr Q q
  unfold eIsi at hr
  obtain ⟨x, ex, rfl⟩ := Option.map_eq_some_iff.mp hr
  refine h1 fx H0 env σ H h _ ex _ fun v H1 s1 v1 => ?_
  exact ⟨v, n, _, _, rfl, rp_ty (Rp.same (Offs.same _ _) _ v1.rp), hk _, q _ H1 s1 ⟨rp_mk_bool, fun z => by cases z⟩⟩
theorem kit_list {K : PySem.W.Frag} : ∀ d, PySem.W.kitOne K (.type (tyName d)) (.type "list") = some (isiB "list" d) := by intro d; cases d <;> rfl
theorem kit_str {K : PySem.W.Frag} : ∀ d, PySem.W.kitOne K (.type (tyName d)) (.type "str") = some (isiB "str" d) := by intro d; cases d <;> rfl
theorem kit_bool {K : PySem.W.Frag} : ∀ d, PySem.W.kitOne K (.type (tyName d)) (.type "bool") = some (isiB "bool" d) := by intro d; cases d <;> rfl
/-! ### a[lo:hi] -/
abbrev PF' := DEnv → Option (Option Int)
def SPt (t : TO) (f : PF') : Prop := ∀ (fx : Addr → Prop) (H0 : Hp) (env : DEnv) (σ : St) (H : Hp), EnvOk fx H0 env σ H → ∀ r, f env = some r → ∀ Q : Option Int → Hp → Prop, (∀ H', Same H H' → Q r H') → t σ H Q
def pNone : PF' := fun _ => some none
def pSome (a : EF) : PF' := fun env => (a env).bind fun x => match x.d with | .int i => some (some i) | _ => none
theorem sp_none : SPt tNoPart pNone := by
  intro fx H0 env σ H h r hr Q q
  cases hr
  exact q H (Same.refl _)
theorem sp_some {te : TE} {f : EF} (h1 : SE te f) : SPt (tPart te) (pSome f) := by
  intro fx H0 env σ H h r hr Q q
  unfold pSome at hr
  obtain ⟨⟨d, fr, bs⟩, ex, hr⟩ := Option.bind_eq_some_iff.mp hr
  cases d with
  | int i =>
    cases hr
    exact h1 fx H0 env σ H h _ ex _ fun v H1 s1 v1 => ⟨i, rp_int v1.rp, q H1 s1⟩
  | _ => cases hr
def cutD (xs : List PyData) (lo hi : Option Int) : List PyData := (xs.drop (HT.sIx xs.length 0 lo)).take (HT.sIx xs.length xs.length hi - HT.sIx xs.length 0 lo)
theorem Rps.drop {H : Hp} {ds : List PyData} {vs : List V} (h : Rps H ds vs) (n : Nat) : Rps H (ds.drop n) (vs.drop n) := by
  induction n generalizing ds vs with
  | zero => exact h
  | succ n ih =>
    cases ds with
    | nil => unfold Rps at h; subst h; exact rps_nil
    | cons d ds => unfold Rps at h; obtain ⟨v, ws, rfl, h1, h2⟩ := h; exact ih h2
theorem Rps.take {H : Hp} {ds : List PyData} {vs : List V} (h : Rps H ds vs) (n : Nat) : Rps H (ds.take n) (vs.take n) := by
  induction n generalizing ds vs with
  | zero => exact rps_nil
  | succ n ih =>
    cases ds with
    | nil => unfold Rps at h; subst h; exact rps_nil
    | cons d ds => unfold Rps at h; obtain ⟨v, ws, rfl, h1, h2⟩ := h; exact rps_cons h1 (ih h2)
theorem Rps.cut {H : Hp} {ds : List PyData} {vs : List V} (h : Rps H ds vs) (lo hi : Option Int) : Rps H (cutD ds lo hi) (cutV vs lo hi) := by
  unfold cutD cutV
  rw [← h.length]
  exact (h.drop _).take _
def slD (d : PyData) (lo hi : Option Int) : Option (PyData × Bool) := match d with
  | .str z => if z.length ≤ 100000 then some (.str (Txt.slice z lo hi), false) else none
  | .list ds => some (.list (cutD ds lo hi), true)
  | _ => none
def eSl (a : EF) (l h : PF') : EF := fun env => (a env).bind fun x => (l env).bind fun lo => (h env).bind fun hi => (slD x.d lo hi).bind fun z => some ⟨z.1, z.2, bsOf z.1 x.bs⟩
theorem se_sl {K : PySem.W.Frag} {te : TE} {tl th : TO} {f : EF} {fl fh : PF'} (h1 : SE te f) (h2 : SPt tl fl) (h3 : SPt th fh) : SE (tSl (rSlU K) te tl th) (eSl f fl fh) := by
  intro fx H0 env σ H h rr hr Q q
  unfold eSl at hr
  obtain ⟨⟨d, frd, bs⟩, ex, hr⟩ := Option.bind_eq_some_iff.mp hr
  obtain ⟨lo, el, hr⟩ := Option.bind_eq_some_iff.mp hr
  obtain ⟨hi, eh, hr⟩ := Option.bind_eq_some_iff.mp hr
  obtain ⟨⟨d', fr'⟩, ez, hr⟩ := Option.bind_eq_some_iff.mp hr
  cases hr
  refine h1 fx H0 env σ H h _ ex _ fun v H1 s1 v1 => h2 fx H0 env σ H1 (h.up s1) _ el _ fun H2 s2 => h3 fx H0 env σ H2 (h.up (s1.trans s2)) _ eh _ fun H3 s3 => ?_
  have v3 := (v1.later (Same.refl _) (s2.trans s3) fun _ z => z).rp
  have t3 := (s1.trans s2).trans s3
  cases d with
  | str z =>
    have ez : (if z.length ≤ 100000 then some (PyData.str (Txt.slice z lo hi), false) else none) = some (d', fr') := ez
    split at ez
    · rename_i hl
      cases ez
      cases rp_str v3
      exact ⟨size_of hl, q _ H3 t3 ⟨rp_mk_str, fun z => by cases z⟩⟩
    · cases ez
  | list ds =>
    cases ez
    obtain ⟨p, xs, rfl, hp, r⟩ := rp_list v3
    refine ⟨p, xs, rfl, SqL.of (off_at hp), fun l hl => q _ _ (t3.trans (Same.new hl)) ?_⟩
    have hA := (h.up t3).lims bs
    exact ⟨new_rp hl (off_new hA hl) (r.cut lo hi), fun _ => ⟨l, rfl, t3.free hl, new_acc hl (r.cut lo hi)⟩⟩
  | _ => cases ez
/-! ### calls of defs -/
def RetOk (fx : Addr → Prop) (H0 : Hp) (d : PyData) (fr : Bool) (v : V) (H : Hp) : Prop := Rp (Offs fx H) d v ∧ (fr = true → ∃ a, v = .ref a ∧ H0 a = none ∧ AccAt (Offs (fun b => fx b ∨ b = a) H) H a d)
def spD (n : Nat) (g : GF) : Sp := fun vs H Q _ => ∃ (fx : Addr → Prop) (ds : List PyData) (d : PyData) (fr : Bool), ds.length = n ∧ (∀ b, fx b → ∃ o, H b = some o) ∧ Rps (Offs fx H) ds vs ∧ g ds = some (d, fr) ∧ ∀ v H', Same H H' → RetOk fx H d fr v H' → Q v H'
def eCall (n : Nat) (g : GF) (f : AF) : EF := fun env => (f env).bind fun rs => if rs.length = n then (g (datas rs)).bind fun z => some ⟨z.1, z.2, bsOf z.1 (bss rs)⟩ else none
theorem se_call {n : Nat} {g : GF} {ta : TA} {f : AF} (ha : SA ta f) : SE (tCall (spD n g) [] E0 ta) (eCall n g f) := by
  intro fx H0 env σ H h rr hr Q q
  unfold eCall at hr
  obtain ⟨rs, er, hr⟩ := Option.bind_eq_some_iff.mp hr
  split at hr
  · rename_i hn
    obtain ⟨⟨d, fr⟩, ez, hr⟩ := Option.bind_eq_some_iff.mp hr
    cases hr
    refine ha fx H0 env σ H h rs er _ fun vs H1 s1 v1 => ?_
    rw [List.append_nil]
    refine ⟨lim fx env σ (bss rs), datas rs, d, fr, by rw [datas_len]; exact hn, (h.up s1).lims _, vals_rps (fun i hi => hi) v1, ez, fun w H3 s3 ⟨rp, fr3⟩ => q w H3 (s1.trans s3) ⟨rp_bsOf rp, fun e => ?_⟩⟩
    obtain ⟨a, g1, g2, g3⟩ := fr3 e
    refine ⟨a, g1, s1.free g2, ?_⟩
    have nf : flatD d = false := by cases d <;> first | rfl | exact g3.elim
    show AccAt (Offs (fun b => lim fx env σ (bsOf d (bss rs)) b ∨ b = a) H3) H3 a d
    rw [show bsOf d (bss rs) = bss rs by unfold bsOf; rw [if_neg (by rw [nf]; decide)]]
    exact g3
  · cases hr
end L2

namespace L2
open PySem PySem.Spec PyProof.Rows
/-! ## statements -/
inductive Out where
  | nx (env : DEnv)
  | bk (env : DEnv)
  | ct (env : DEnv)
  | rt (d : PyData) (fr : Bool)
def Sat (fx : Addr → Prop) (H0 : Hp) (D : Ends) : Out → Prop
  | .nx env => ∀ σ H, EnvOk fx H0 env σ H → D.nx σ H
  | .bk env => ∀ σ H, EnvOk fx H0 env σ H → D.bk σ H
  | .ct env => ∀ σ H, EnvOk fx H0 env σ H → D.ct σ H
  | .rt d fr => ∀ v H, Same H0 H → RetOk fx H0 d fr v H → D.rt v H
abbrev SF := DEnv → Option Out
def SS (ts : TS) (F : SF) : Prop := ∀ (fx : Addr → Prop) (H0 : Hp) (env : DEnv) (σ : St) (H : Hp) (D : Ends), EnvOk fx H0 env σ H → ∀ o, F env = some o → Sat fx H0 D o → ts D σ H
/-! ### names that keep what they hold -/
def frz1 (env : DEnv) (i : Nat) : DEnv := match env[i]? with
  | some (.ac d) => env.set i (.pl d)
  | _ => env
def frzs (env : DEnv) (bs : List Nat) : DEnv := bs.foldl frz1 env
theorem frz1_len (env : DEnv) (i : Nat) : (frz1 env i).length = env.length := by
  unfold frz1; split
  · rw [List.length_set]
  · rfl
theorem set_get {α : Type} {l : List α} {i j : Nat} {x y : α} (h : (l.set i x)[j]? = some y) : (j = i ∧ y = x) ∨ (j ≠ i ∧ l[j]? = some y) := by
  rw [List.getElem?_set] at h
  by_cases e : i = j
  · subst e
    rw [if_pos rfl] at h
    split at h
    · exact .inl ⟨rfl, (Option.some.inj h).symm⟩
    · cases h
  · rw [if_neg e] at h
    exact .inr ⟨fun z => e z.symm, h⟩
theorem frz1_ac {env : DEnv} {i j : Nat} {d : PyData} (h : (frz1 env i)[j]? = some (.ac d)) : env[j]? = some (.ac d) ∧ j ≠ i := by
  unfold frz1 at h
  split at h
  · rcases set_get h with ⟨_, e⟩ | ⟨e, h⟩
    · cases e
    · exact ⟨h, e⟩
  · rename_i hn
    refine ⟨h, fun e => ?_⟩
    subst e
    exact hn d h
theorem frz1_pl {env : DEnv} {i j : Nat} {d : PyData} (h : (frz1 env i)[j]? = some (.pl d)) : env[j]? = some (.pl d) ∨ (j = i ∧ env[i]? = some (.ac d)) := by
  unfold frz1 at h
  split at h
  · rename_i d' hd
    rcases set_get h with ⟨e1, e⟩ | ⟨e, h⟩
    · cases e; exact .inr ⟨e1, hd⟩
    · exact .inl h
  · exact .inl h
theorem frz1_own {env : DEnv} {σ : St} {i : Nat} : ∀ a, own (frz1 env i) σ a → own env σ a := by
  rintro a ⟨j, d, h1, h2⟩
  exact ⟨j, d, (frz1_ac h1).1, h2⟩
theorem EnvOk.frz1 {fx : Addr → Prop} {H0 : Hp} {env : DEnv} {σ : St} {H : Hp} (h : EnvOk fx H0 env σ H) (i : Nat) : EnvOk fx H0 (frz1 env i) σ H := by
  have so : Same (Offs (fun a => fx a ∨ own env σ a) H) (Offs (fun a => fx a ∨ own (L2.frz1 env i) σ a) H) := Offs.sub fun b z => z.imp (fun y => y) (frz1_own b)
  refine ⟨by rw [frz1_len]; exact h.len, fun j d e => ?_, fun j d e => ?_, fun j k d d' a h1 h2 h3 h4 => h.inj j k d d' a (frz1_ac h1).1 (frz1_ac h2).1 h3 h4, h.base, h.fxs⟩
  · rcases frz1_pl e with e | ⟨rfl, e⟩
    · obtain ⟨v, h1, h2⟩ := h.pl j d e
      exact ⟨v, h1, Rp.same so _ h2⟩
    · obtain ⟨a, h1, h2, h3, h4⟩ := h.ac j d e
      refine ⟨_, h1, h4.rp so fun o eo => ?_⟩
      rw [Offs.get]
      · exact eo
      · rintro (z | ⟨k, d', z1, z2⟩)
        · exact h3 z
        · obtain ⟨z1, z3⟩ := frz1_ac z1
          exact z3 (h.inj k j d' d a z1 e z2 h1)
  · obtain ⟨a, h1, h2, h3, h4⟩ := h.ac j d (frz1_ac e).1
    exact ⟨a, h1, h2, h3, h4.same so fun o z => z⟩
theorem EnvOk.frzs {fx : Addr → Prop} {H0 : Hp} {σ : St} {H : Hp} : ∀ (bs : List Nat) {env : DEnv}, EnvOk fx H0 env σ H → EnvOk fx H0 (frzs env bs) σ H
  | [], _, h => h
  | i :: bs, _, h => EnvOk.frzs bs (h.frz1 i)
theorem frzs_ac : ∀ {bs : List Nat} {env : DEnv} {j : Nat} {d : PyData}, (frzs env bs)[j]? = some (.ac d) → env[j]? = some (.ac d) ∧ j ∉ bs
  | [], _, _, _, h => ⟨h, by simp⟩
  | i :: bs, env, j, d, h => by
    obtain ⟨h1, h2⟩ := frzs_ac (bs := bs) h
    obtain ⟨h3, h4⟩ := frz1_ac h1
    exact ⟨h3, by simp [h4, h2]⟩
theorem frzs_lim {fx : Addr → Prop} {env : DEnv} {σ : St} {bs : List Nat} : ∀ a, fx a ∨ own (frzs env bs) σ a → lim fx env σ bs a := by
  rintro a (z | ⟨i, d, h1, h2⟩)
  · exact .inl z
  · obtain ⟨h3, h4⟩ := frzs_ac h1
    exact .inr ⟨i, d, h4, h3, h2⟩
/-! ### stores -/
theorem set_own {env : DEnv} {σ : St} {i : Nat} {d : PyData} {v : V} : ∀ a, own (env.set i (.pl d)) (σ.set i (some v)) a → own env σ a := by
  rintro a ⟨j, e, h1, h2⟩
  rcases set_get h1 with ⟨_, z⟩ | ⟨ne, h1⟩
  · cases z
  · rcases set_get h2 with ⟨z, _⟩ | ⟨_, h2⟩
    · exact absurd z ne
    · exact ⟨j, e, h1, h2⟩
theorem EnvOk.setPl {fx : Addr → Prop} {H0 : Hp} {env : DEnv} {σ : St} {H : Hp} (h : EnvOk fx H0 env σ H) (i : Nat) {d : PyData} {v : V} (r : Rp (Offs (fun a => fx a ∨ own env σ a) H) d v) : EnvOk fx H0 (env.set i (.pl d)) (σ.set i (some v)) H := by
  have so : Same (Offs (fun a => fx a ∨ own env σ a) H) (Offs (fun a => fx a ∨ own (env.set i (.pl d)) (σ.set i (some v)) a) H) := Offs.sub fun b z => z.imp (fun y => y) (set_own b)
  have kept : ∀ {j : Nat}, j ≠ i → (σ.set i (some v))[j]? = σ[j]? := fun {j} n => List.getElem?_set_ne fun z => n z.symm
  refine ⟨by rw [List.length_set, List.length_set]; exact h.len, fun j e hj => ?_, fun j e hj => ?_, fun j k d1 d2 a h1 h2 h3 h4 => ?_, h.base, h.fxs⟩
  · rcases set_get hj with ⟨rfl, z⟩ | ⟨ne, hj'⟩
    · cases z
      have hl : j < env.length := by have := (List.getElem?_eq_some_iff.mp hj).1; rwa [List.length_set] at this
      exact ⟨v, by rw [List.getElem?_set_self (by rw [← h.len]; exact hl)], Rp.same so _ r⟩
    · obtain ⟨u, h1, h2⟩ := h.pl j e hj'
      exact ⟨u, by rw [kept ne]; exact h1, Rp.same so _ h2⟩
  · rcases set_get hj with ⟨_, z⟩ | ⟨ne, hj'⟩
    · cases z
    · obtain ⟨a, h1, h2, h3, h4⟩ := h.ac j e hj'
      exact ⟨a, by rw [kept ne]; exact h1, h2, h3, h4.same so fun o z => z⟩
  · rcases set_get h1 with ⟨_, z⟩ | ⟨n1, h1⟩
    · cases z
    rcases set_get h2 with ⟨_, z⟩ | ⟨n2, h2⟩
    · cases z
    rw [kept n1] at h3
    rw [kept n2] at h4
    exact h.inj j k d1 d2 a h1 h2 h3 h4
theorem EnvOk.setAc {fx : Addr → Prop} {H0 : Hp} {env : DEnv} {σ : St} {H : Hp} {a : Addr} (h : EnvOk (fun b => fx b ∨ b = a) H0 env σ H) (i : Nat) {d : PyData} (r : AccAt (Offs (fun b => (fx b ∨ own env σ b) ∨ b = a) H) H a d) (h0 : H0 a = none) (hf : ¬ fx a) :
    EnvOk fx H0 (env.set i (.ac d)) (σ.set i (some (.ref a))) H := by
  have kept : ∀ {j : Nat}, j ≠ i → (σ.set i (some (V.ref a)))[j]? = σ[j]? := fun {j} n => List.getElem?_set_ne fun z => n z.symm
  have sub : ∀ b, fx b ∨ own (env.set i (.ac d)) (σ.set i (some (.ref a))) b → (fx b ∨ b = a) ∨ own env σ b := by
    rintro b (z | ⟨j, e, h1, h2⟩)
    · exact .inl (.inl z)
    · rcases set_get h1 with ⟨rfl, z⟩ | ⟨ne, h1⟩
      · have hl : j < env.length := by have := (List.getElem?_eq_some_iff.mp ‹(env.set j (.ac d))[j]? = _›).1; rwa [List.length_set] at this
        rw [List.getElem?_set_self (by rw [← h.len]; exact hl)] at h2
        cases h2
        exact .inl (.inr rfl)
      · rw [kept ne] at h2
        exact .inr ⟨j, e, h1, h2⟩
  have so : Same (Offs (fun b => (fx b ∨ b = a) ∨ own env σ b) H) (Offs (fun b => fx b ∨ own (env.set i (.ac d)) (σ.set i (some (.ref a))) b) H) := Offs.sub sub
  have so2 : Same (Offs (fun b => (fx b ∨ own env σ b) ∨ b = a) H) (Offs (fun b => fx b ∨ own (env.set i (.ac d)) (σ.set i (some (.ref a))) b) H) := Offs.sub fun b z => by
    rcases sub b z with (y | y) | y
    · exact .inl (.inl y)
    · exact .inr y
    · exact .inl (.inr y)
  refine ⟨by rw [List.length_set, List.length_set]; exact h.len, fun j e hj => ?_, fun j e hj => ?_, fun j k d1 d2 b h1 h2 h3 h4 => ?_, h.base, fun b z => h.fxs b (.inl z)⟩
  · rcases set_get hj with ⟨_, z⟩ | ⟨ne, hj'⟩
    · cases z
    · obtain ⟨u, h1, h2⟩ := h.pl j e hj'
      exact ⟨u, by rw [kept ne]; exact h1, Rp.same so _ h2⟩
  · rcases set_get hj with ⟨rfl, z⟩ | ⟨ne, hj'⟩
    · cases z
      have hl : j < env.length := by have := (List.getElem?_eq_some_iff.mp hj).1; rwa [List.length_set] at this
      exact ⟨a, by rw [List.getElem?_set_self (by rw [← h.len]; exact hl)], h0, hf, r.same so2 fun o z => z⟩
    · obtain ⟨b, h1, h2, h3, h4⟩ := h.ac j e hj'
      exact ⟨b, by rw [kept ne]; exact h1, h2, fun z => h3 (.inl z), h4.same so fun o z => z⟩
  · rcases set_get h1 with ⟨e1, z1⟩ | ⟨n1, h1'⟩ <;> rcases set_get h2 with ⟨e2, z2⟩ | ⟨n2, h2'⟩
    · rw [e1, e2]
    · subst e1
      have hl : j < env.length := by have := (List.getElem?_eq_some_iff.mp h1).1; rwa [List.length_set] at this
      rw [List.getElem?_set_self (by rw [← h.len]; exact hl)] at h3
      rw [kept n2] at h4
      cases h3
      obtain ⟨b, g1, g2, g3, g4⟩ := h.ac k d2 h2'
      rw [h4] at g1
      cases g1
      exact absurd (.inr rfl) g3
    · subst e2
      have hl : k < env.length := by have := (List.getElem?_eq_some_iff.mp h2).1; rwa [List.length_set] at this
      rw [List.getElem?_set_self (by rw [← h.len]; exact hl)] at h4
      rw [kept n1] at h3
      cases h4
      obtain ⟨b, g1, g2, g3, g4⟩ := h.ac j d1 h1'
      rw [h3] at g1
      cases g1
      exact absurd (.inr rfl) g3
    · rw [kept n1] at h3
      rw [kept n2] at h4
      exact h.inj j k d1 d2 b h1' h2' h3 h4
def slOf (r : Val) : Sl := if r.fr = true then .ac r.d else .pl r.d
def putV (env : DEnv) (i : Nat) (r : Val) : DEnv := (frzs env r.bs).set i (slOf r)
/-- a value that came is stored -/
theorem EnvOk.put {fx : Addr → Prop} {H0 : Hp} {env : DEnv} {σ : St} {H H' : Hp} (h : EnvOk fx H0 env σ H) (s : Same H H') {r : Val} {v : V} (hv : ValOk (lim fx env σ r.bs) H H' r v) (i : Nat) : EnvOk fx H0 (putV env i r) (σ.set i (some v)) H' := by
  unfold putV slOf
  cases e : r.fr with
  | false =>
    rw [if_neg Bool.false_ne_true]
    exact ((h.up s).frzs r.bs).setPl i (Rp.same (Offs.sub frzs_lim) _ hv.rp)
  | true =>
    rw [if_pos rfl]
    obtain ⟨a, rfl, ha, hacc⟩ := hv.fr e
    have nfx : ¬ fx a := off_new h.fxs ha
    have g : EnvOk (fun b => fx b ∨ b = a) H0 env σ H' := h.grow s (fun b o eo n z => z.elim n fun y => by rw [y, ha] at eo; cases eo) fun b z => by
      rcases z with z | z
      · obtain ⟨o, eo⟩ := h.fxs b z; exact ⟨o, s b o eo⟩
      · rw [z]; exact hacc.ex
    refine (g.frzs r.bs).setAc i (hacc.same (Offs.sub fun b z => ?_) fun o z => z) (h.base.free ha) nfx
    rcases z with z | z
    · exact .inl (frzs_lim b z)
    · exact .inr z
/-! ### the statements -/
def sNil : SF := fun env => some (.nx env)
def sSeq (f g : SF) : SF := fun env => (f env).bind fun o => match o with
  | .nx env' => g env'
  | o => some o
theorem ss_nil : SS tNext sNil := by
  intro fx H0 env σ H D h o e q
  cases e
  exact q σ H h
theorem ss_seq {t u : TS} {f g : SF} (h1 : SS t f) (h2 : SS u g) : SS (tSeq t u) (sSeq f g) := by
  intro fx H0 env σ H D h o e q
  unfold sSeq at e
  obtain ⟨o1, e1, e⟩ := Option.bind_eq_some_iff.mp e
  refine h1 fx H0 env σ H _ h o1 e1 ?_
  cases o1 with
  | nx env' => exact fun σ' H' h' => h2 fx H0 env' σ' H' D h' o e q
  | bk env' => cases e; exact q
  | ct env' => cases e; exact q
  | rt d fr => cases e; exact q
def sNever : SF := fun _ => none
theorem ss_never : SS tNever sNever := by
  intro fx H0 env σ H D h o e q
  cases e
def sExpr (f : EF) : SF := fun env => (f env).map fun _ => .nx env
theorem ss_expr {te : TE} {f : EF} (h1 : SE te f) : SS (tDrop te) (sExpr f) := by
  intro fx H0 env σ H D h o e q
  unfold sExpr at e
  obtain ⟨r, er, rfl⟩ := Option.map_eq_some_iff.mp e
  exact h1 fx H0 env σ H h r er _ fun v H' s _ => q σ H' (h.up s)
def sRet (f : EF) : SF := fun env => (f env).map fun r => .rt r.d r.fr
theorem ss_ret {te : TE} {f : EF} (h1 : SE te f) : SS (tRet te) (sRet f) := by
  intro fx H0 env σ H D h o e q
  unfold sRet at e
  obtain ⟨r, er, rfl⟩ := Option.map_eq_some_iff.mp e
  refine h1 fx H0 env σ H h r er _ fun v H' s hv => q v H' (h.base.trans s) ⟨Rp.same (Offs.sub fun b z => .inl z) _ hv.rp, fun z => ?_⟩
  obtain ⟨a, g1, g2, g3⟩ := hv.fr z
  exact ⟨a, g1, h.base.free g2, g3.same (Offs.sub fun b y => y.imp .inl id) fun o z => z⟩
def sRetV (i : Nat) : SF := fun env => match env[i]? with
  | some (.pl d) => some (.rt d false)
  | some (.ac d) => some (.rt d true)
  | _ => none
theorem ss_retv {i : Nat} : SS (tRet (tVar i)) (sRetV i) := by
  intro fx H0 env σ H D h o e q
  unfold sRetV at e
  cases ei : env[i]? with
  | none => rw [ei] at e; cases e
  | some sl =>
    rw [ei] at e
    cases sl with
    | no => cases e
    | pl d =>
      cases e
      obtain ⟨v, h1, h2⟩ := h.pl i d ei
      exact ⟨v, h1, q v H h.base ⟨Rp.same (Offs.sub fun b z => .inl z) _ h2, fun z => by cases z⟩⟩
    | ac d =>
      cases e
      obtain ⟨a, h1, h2, h3, h4⟩ := h.ac i d ei
      refine ⟨_, h1, q _ H h.base ⟨h4.rp (Offs.sub fun b z => .inl z) fun o eo => by rw [Offs.get h3]; exact eo, fun _ => ⟨a, rfl, h2, h4.same (Offs.sub fun b z => ?_) fun o z => z⟩⟩⟩
      rcases z with z | z
      · exact .inl z
      · rw [z]; exact .inr ⟨i, d, ei, h1⟩
def sIf (c : TF) (f g : SF) : SF := fun env => (c env).bind fun b => if b = true then f env else g env
theorem ss_if {tc : TT} {t u : TS} {c : TF} {f g : SF} (hc : ST tc c) (h1 : SS t f) (h2 : SS u g) : SS (tIfS tc t u) (sIf c f g) := by
  intro fx H0 env σ H D h o e q
  unfold sIf at e
  obtain ⟨b, eb, e⟩ := Option.bind_eq_some_iff.mp e
  refine hc fx H0 env σ H h b eb _ fun H' s => ?_
  cases b with
  | true => exact iteT (h1 fx H0 env σ H' D (h.up s) o e q)
  | false => exact iteF (h2 fx H0 env σ H' D (h.up s) o e q)
def sSet (i : Nat) (f : EF) : SF := fun env => (f env).map fun r => .nx (putV env i r)
theorem ss_set {te : TE} {f : EF} {i : Nat} (h1 : SE te f) : SS (tAsg te (gName i)) (sSet i f) := by
  intro fx H0 env σ H D h o e q
  unfold sSet at e
  obtain ⟨r, er, rfl⟩ := Option.map_eq_some_iff.mp e
  exact h1 fx H0 env σ H h r er _ fun v H' s hv => q _ H' (h.put s hv i)
/-! targets: data that stays -/
abbrev GT := PyData → DEnv → Option DEnv
def SG (g : TG) (f : GT) : Prop := ∀ (fx : Addr → Prop) (H0 : Hp) (env : DEnv) (σ : St) (H : Hp) (d : PyData) (v : V), EnvOk fx H0 env σ H → Rp (Offs (fun a => fx a ∨ own env σ a) H) d v → ∀ env', f d env = some env' → ∀ Q : St → Hp → Prop,
  (∀ σ', EnvOk fx H0 env' σ' H → Q σ' H) → g v σ H Q
abbrev GTs := List PyData → DEnv → Option DEnv
def SGs (g : TGs) (f : GTs) : Prop := ∀ (fx : Addr → Prop) (H0 : Hp) (env : DEnv) (σ : St) (H : Hp) (ds : List PyData) (vs : List V), EnvOk fx H0 env σ H → Rps (Offs (fun a => fx a ∨ own env σ a) H) ds vs → ∀ env', f ds env = some env' → ∀ Q : St → Hp → Prop,
  (∀ σ', EnvOk fx H0 env' σ' H → Q σ' H) → g vs σ H Q
def gN (i : Nat) : GT := fun d env => some (env.set i (.pl d))
theorem sg_name {i : Nat} : SG (gName i) (gN i) := by
  intro fx H0 env σ H d v h r env' e Q q
  cases e
  exact q _ (h.setPl i r)
def gsNil : GTs := fun ds env => match ds with | [] => some env | _ => none
def gsCons (i : Nat) (g : GTs) : GTs := fun ds env => match ds with | d :: r => g r (env.set i (.pl d)) | [] => none
theorem sgs_nil : SGs gNil gsNil := by
  intro fx H0 env σ H ds vs h r env' e Q q
  cases ds with
  | nil => cases e; unfold Rps at r; exact ⟨r, q _ h⟩
  | cons _ _ => cases e
theorem sgs_cons {i : Nat} {t : TGs} {g : GTs} (h1 : SGs t g) : SGs (gCons (gName i) t) (gsCons i g) := by
  intro fx H0 env σ H ds vs h r env' e Q q
  cases ds with
  | nil => cases e
  | cons d ds =>
    unfold Rps at r
    obtain ⟨v, ws, rfl, r1, r2⟩ := r
    refine ⟨v, ws, rfl, h1 fx H0 (env.set i (.pl d)) _ H ds ws (h.setPl i r1) (Rps.same (Offs.sub fun b z => z.imp (fun y => y) (set_own b)) _ r2) env' e Q q⟩
def gT (n : Nat) (g : GTs) : GT := fun d env => match d with | .tuple ds => if ds.length = n then g ds env else none | _ => none
theorem sg_tup {K : PySem.W.Frag} {n : Nat} {t : TGs} {g : GTs} (h1 : SGs t g) : SG (gTup K n t) (gT n g) := by
  intro fx H0 env σ H d v h r env' e Q q
  unfold gT at e
  cases d with
  | tuple ds =>
    have e : (if ds.length = n then g ds env else none) = some env' := e
    split at e
    · rename_i hn
      obtain ⟨a, xs, rfl, ha, rs⟩ := rp_tuple r
      exact ⟨a, xs, rfl, SqT.of (off_at ha), by rw [← rs.length]; exact hn, h1 fx H0 env σ H ds xs h rs env' e Q q⟩
    · cases e
  | _ => cases e
/-! ### own lists and dicts are changed -/
theorem EnvOk.mut {fx : Addr → Prop} {H0 : Hp} {env : DEnv} {σ : St} {H : Hp} (h : EnvOk fx H0 env σ H) {i : Nat} {d d' : PyData} {a : Addr} {o : HO} (e : env[i]? = some (.ac d)) (ea : σ[i]? = some (some (.ref a)))
    (r : AccAt (Offs (fun b => fx b ∨ own env σ b) H) (upd H a o) a d') : EnvOk fx H0 (env.set i (.ac d')) σ (upd H a o) := by
  have hl : i < env.length := (List.getElem?_eq_some_iff.mp e).1
  have oa : own env σ a := ⟨i, d, e, ea⟩
  have ow : ∀ b, own (env.set i (.ac d')) σ b ↔ own env σ b := by
    intro b
    constructor
    · rintro ⟨j, d1, h1, h2⟩
      rcases set_get h1 with ⟨rfl, z⟩ | ⟨ne, h1⟩
      · exact ⟨j, d, e, h2⟩
      · exact ⟨j, d1, h1, h2⟩
    · rintro ⟨j, d1, h1, h2⟩
      by_cases hj : j = i
      · subst hj; exact ⟨j, d', by rw [List.getElem?_set_self hl], h2⟩
      · exact ⟨j, d1, by rw [List.getElem?_set_ne fun z => hj z.symm]; exact h1, h2⟩
  have so : Same (Offs (fun b => fx b ∨ own env σ b) H) (Offs (fun b => fx b ∨ own (env.set i (.ac d')) σ b) (upd H a o)) := by
    have : Same (Offs (fun b => fx b ∨ own env σ b) (upd H a o)) (Offs (fun b => fx b ∨ own (env.set i (.ac d')) σ b) (upd H a o)) := Offs.sub fun b z => z.imp (fun y => y) (ow b).mp
    rw [Offs.upd (.inr oa)] at this
    exact this
  obtain ⟨a', g1, g2, g3, g4⟩ := h.ac i d e
  rw [ea] at g1
  cases g1
  refine ⟨by rw [List.length_set]; exact h.len, fun j d1 hj => ?_, fun j d1 hj => ?_, fun j k d1 d2 b h1 h2 h3 h4 => ?_, fun b u eb => by rw [upd_ne (ne_of_none eb g2)]; exact h.base b u eb, fun b z => ?_⟩
  · rcases set_get hj with ⟨_, z⟩ | ⟨ne, hj'⟩
    · cases z
    · obtain ⟨u, h1, h2⟩ := h.pl j d1 hj'
      exact ⟨u, h1, Rp.same so _ h2⟩
  · rcases set_get hj with ⟨rfl, z⟩ | ⟨ne, hj'⟩
    · cases z
      exact ⟨a, ea, g2, g3, r.same so fun o z => z⟩
    · obtain ⟨b, h1, h2, h3, h4⟩ := h.ac j d1 hj'
      refine ⟨b, h1, h2, h3, h4.same so fun o' z => ?_⟩
      rw [upd_ne fun y => ne (h.inj j i d1 d a hj' e (by rw [← y]; exact h1) ea)]
      exact z
  · have f : ∀ {j : Nat} {d1 : PyData}, (env.set i (.ac d'))[j]? = some (.ac d1) → ∃ d2, env[j]? = some (.ac d2) := fun {j d1} hj => by
      rcases set_get hj with ⟨rfl, z⟩ | ⟨ne, hj'⟩
      · exact ⟨d, e⟩
      · exact ⟨d1, hj'⟩
    obtain ⟨e1, h1⟩ := f h1
    obtain ⟨e2, h2⟩ := f h2
    exact h.inj j k e1 e2 b h1 h2 h3 h4
  · obtain ⟨u, eu⟩ := h.fxs b z
    exact ⟨u, by rw [upd_ne fun y => g3 (by rw [← y]; exact z)]; exact eu⟩
/-- x.append(e) -/
def sApp (i : Nat) (f : EF) : SF := fun env => match env[i]? with
  | some (.ac (.list ds)) => (f env).bind fun r => if ds.length < 100000 ∧ i ∉ r.bs then some (.nx ((frzs env r.bs).set i (.ac (.list (ds ++ [r.d]))))) else none
  | _ => none
theorem frzs_get {env : DEnv} {i : Nat} {d : PyData} : ∀ {bs : List Nat}, i ∉ bs → env[i]? = some (.ac d) → (frzs env bs)[i]? = some (.ac d) := by
  intro bs
  induction bs generalizing env with
  | nil => intro _ e; exact e
  | cons j bs ih =>
    intro hn e
    have hj : i ≠ j := fun z => hn (by simp [z])
    refine ih (fun z => hn (List.mem_cons_of_mem _ z)) ?_
    unfold frz1
    split
    · rw [List.getElem?_set_ne fun z => hj z.symm]; exact e
    · exact e
theorem ss_app {K : PySem.W.Frag} {i : Nat} {te : TE} {f : EF} (h1 : SE te f) : SS (tDrop (tBM K "list" rAppend (tVar i) (tCons te tNil))) (sApp i f) := by
  intro fx H0 env σ H D h o e q
  unfold sApp at e
  split at e
  · rename_i ds ei
    obtain ⟨r, er, e⟩ := Option.bind_eq_some_iff.mp e
    split at e
    · rename_i hl
      cases e
      obtain ⟨a, g1, g2, g3, g4⟩ := h.ac i _ ei
      obtain ⟨xs, hx, rx⟩ := g4
      refine ⟨_, g1, .inl ⟨rfl, _, SqL.of hx⟩, h1 fx H0 env σ H h r er _ fun v H' s hv => ?_⟩
      have h' := (h.up s).frzs r.bs
      have ei' := frzs_get hl.2 ei
      have hx' := s _ _ hx
      have rx' : Rps (Offs (fun b => fx b ∨ own (frzs env r.bs) σ b) H') ds xs := by
        obtain ⟨a', z1, _, _, z4⟩ := h'.ac i _ ei'
        rw [g1] at z1
        cases z1
        obtain ⟨ys, y1, y2⟩ := z4
        rw [hx'] at y1
        cases y1
        exact y2
      refine ⟨a, xs, v, rfl, rfl, hx', size_lt (by rw [← rx.length]; exact hl.1), ?_⟩
      refine q σ _ (h'.mut ei' g1 ⟨_, upd_same, rx'.append (rps_cons (Rp.same (Offs.sub frzs_lim) _ hv.rp) rps_nil)⟩)
    · cases e
  · cases e
/-- x[k] = v -/
def sPut (i : Nat) (fk fv : EF) : SF := fun env => match env[i]? with
  | some (.ac (.dict kvs)) => (fv env).bind fun r => (fk env).bind fun k => (keyD k.d).bind fun _ => if kvs.length < 100000 ∧ i ∉ r.bs then some (.nx ((frzs env r.bs).set i (.ac (.dict (dputD kvs k.d r.d))))) else none
  | _ => none
theorem ss_put {i : Nat} {tk tv : TE} {fk fv : EF} (h1 : SE tk fk) (h2 : SE tv fv) : SS (sDPut (tVar i) tk tv) (sPut i fk fv) := by
  intro fx H0 env σ H D h o e q
  unfold sPut at e
  split at e
  · rename_i kvs ei
    obtain ⟨r, er, e⟩ := Option.bind_eq_some_iff.mp e
    obtain ⟨k, ek, e⟩ := Option.bind_eq_some_iff.mp e
    obtain ⟨kk, ekk, e⟩ := Option.bind_eq_some_iff.mp e
    split at e
    · rename_i hl
      cases e
      obtain ⟨a, g1, g2, g3, g4⟩ := h.ac i _ ei
      obtain ⟨ps, hx, rx⟩ := g4
      refine h2 fx H0 env σ H h r er _ fun v H' s hv => ⟨_, g1, h1 fx H0 env σ H' (h.up s) k ek _ fun u H2 s2 hk => ?_⟩
      have t2 := s.trans s2
      have h' := (h.up t2).frzs r.bs
      have ei' := frzs_get hl.2 ei
      have hx' := t2 _ _ hx
      have rx' : Rpd (Offs (fun b => fx b ∨ own (frzs env r.bs) σ b) H2) kvs ps := by
        obtain ⟨a', z1, _, _, z4⟩ := h'.ac i _ ei'
        rw [g1] at z1
        cases z1
        obtain ⟨ys, y1, y2⟩ := z4
        rw [hx'] at y1
        cases y1
        exact y2
      rw [key_v hk.rp ekk]
      refine ⟨a, _, rfl, DPut.k hx' (size_lt (by rw [← rx.length]; exact hl.1)), ?_⟩
      refine q σ _ (h'.mut ei' g1 ⟨_, upd_same, rx'.put ekk (Rp.same (Offs.sub frzs_lim) _ (hv.later (Same.refl _) s2 fun _ z => z).rp)⟩)
    · cases e
  · cases e
/-- x.update(e) -/
def sUpd (i : Nat) (f : EF) : SF := fun env => match env[i]? with
  | some (.ac (.dict kvs)) => (f env).bind fun r => match r.d with
    | .dict more => if kvs.length + more.length ≤ 100000 ∧ i ∉ r.bs then some (.nx ((frzs env r.bs).set i (.ac (.dict (dmergeD kvs more))))) else none
    | _ => none
  | _ => none
end L2

namespace L2
open PySem PySem.Spec PyProof.Rows
/-! ## loops -/
theorem EnvOk.rebase {fx : Addr → Prop} {H0 : Hp} {env : DEnv} {σ : St} {H : Hp} (h : EnvOk fx H0 env σ H) : EnvOk fx (Offs (own env σ) H) env σ H := by
  refine ⟨h.len, h.pl, fun i d e => ?_, h.inj, Offs.same _ _, h.fxs⟩
  obtain ⟨a, h1, h2, h3, h4⟩ := h.ac i d e
  exact ⟨a, h1, Offs.out ⟨i, d, e, h1⟩, h3, h4⟩
theorem EnvOk.floor {fx : Addr → Prop} {H0 : Hp} {env : DEnv} {σ : St} {H : Hp} (h : EnvOk fx H0 env σ H) : Same H0 (Offs (own env σ) H) := fun b o e => by
  rw [Offs.get]
  · exact h.base b o e
  · rintro ⟨i, d, h1, h2⟩
    obtain ⟨a, g1, g2, _⟩ := h.ac i d h1
    rw [h2] at g1
    cases g1
    rw [g2] at e
    cases e
theorem EnvOk.unbase {fx : Addr → Prop} {H0 F : Hp} {env : DEnv} {σ : St} {H : Hp} (h : EnvOk fx F env σ H) (s : Same H0 F) : EnvOk fx H0 env σ H := by
  refine ⟨h.len, h.pl, fun i d e => ?_, h.inj, s.trans h.base, h.fxs⟩
  obtain ⟨a, h1, h2, h3, h4⟩ := h.ac i d e
  exact ⟨a, h1, s.free h2, h3, h4⟩
theorem RetOk.unbase {fx : Addr → Prop} {H0 F : Hp} {d : PyData} {fr : Bool} {v : V} {H : Hp} (h : RetOk fx F d fr v H) (s : Same H0 F) : RetOk fx H0 d fr v H :=
  ⟨h.1, fun e => let ⟨a, h1, h2, h3⟩ := h.2 e; ⟨a, h1, s.free h2, h3⟩⟩
/-- all that was seen at the floor is seen -/
theorem EnvOk.seen {fx : Addr → Prop} {env env' : DEnv} {σ σ' : St} {H H' : Hp} (h : EnvOk fx (Offs (own env σ) H) env' σ' H') : Same (Offs (fun b => fx b ∨ own env σ b) H) (Offs (fun b => fx b ∨ own env' σ' b) H') := fun b o e => by
  obtain ⟨h1, h2⟩ := Offs.of e
  have hF : Offs (own env σ) H b = some o := by rw [Offs.get fun z => h1 (.inr z)]; exact h2
  rw [Offs.get]
  · exact h.base b o hF
  · rintro (z | ⟨i, d, g1, g2⟩)
    · exact h1 (.inl z)
    · obtain ⟨a, k1, k2, _⟩ := h.ac i d g1
      rw [g2] at k1
      cases k1
      rw [k2] at hF
      cases hF
theorem EnvOk.all {fx : Addr → Prop} {H0 : Hp} {env : DEnv} {σ : St} {H : Hp} (h : EnvOk fx H0 env σ H) : ∀ b, fx b ∨ own env σ b → ∃ o, H b = some o := fun b z => h.lims [] b (lim_nil b z)
/-! ### what is walked -/
def Yl (A0 : Addr → Prop) (H1 : Hp) (J : It) (ds : List PyData) : Prop := ∀ (A : Addr → Prop) (H' : Hp), (∀ b, A b → ∃ o, H' b = some o) → Same (Offs A0 H1) (Offs A H') →
  (∀ i d, ds[i]? = some d → J.go i H' ∧ ∀ x H'', J.yld i H' x H'' → Same H' H'' ∧ Rp (Offs A H'') d x) ∧ J.stop ds.length H'
abbrev IF' := DEnv → Option (List PyData × List Nat)
def SI (wi : TI) (f : IF') : Prop := ∀ (fx : Addr → Prop) (H0 : Hp) (env : DEnv) (σ : St) (H : Hp), EnvOk fx H0 env σ H → ∀ ds bs, f env = some (ds, bs) → ∀ R : It → Hp → Prop,
  (∀ J H1, Same H H1 → Yl (fun b => fx b ∨ own (frzs env bs) σ b) H1 J ds → R J H1) → wi σ H R
def iSeq (K : PySem.W.Frag) (te : TE) : TI := fun σ H R => te σ H fun x H1 => ∃ a, x = .ref a ∧ ((∃ xs, SqL K H1 a xs) ∧ R (Itl K a) H1 ∨ (∃ xs, SqT K H1 a xs) ∧ R (Itt K a) H1)
theorem pi_seq {X : Cx} {tg l : Expr} {tl : TE} (hl : PE X l tl) : PI X tg l (iSeq X.K tl) := by
  intro pins s σ H R I h
  refine thn (hl pins s σ H _ I h) fun v s1 ⟨x, H1, I1, r1, q1⟩ => ?_
  obtain ⟨a, e, q⟩ := q1
  subst e
  cases r1
  rcases q with ⟨⟨xs, hq⟩, q⟩ | ⟨⟨xs, hq⟩, q⟩
  · obtain ⟨its, rv, p, hz⟩ := I1.list hq
    refine wpAny_pyIter_list p.isList ?_
    refine ⟨s1.heap.objs.size, [s1.heap.objs.size], _, _, H1, rfl, I1.kept (t' := s1.toks) fun b o e => Heap.get?_push_of_some _ e, turn_list a _, ⟨_, Heap.get?_push_size _ rfl, rfl, rfl⟩, fun b hb => ?_, q⟩
    have e : b = s1.heap.objs.size := by simpa using hb
    subst e
    exact I1.fpOk (Nat.le_refl _) (I1.hok.fresh (Nat.le_refl _))
  · obtain ⟨its, rv, p, hz⟩ := I1.tuple hq
    refine wpAny_pyIter_tuple (show s1.heap.IsTuple a its.toArray from p) ?_
    refine ⟨s1.heap.objs.size, [s1.heap.objs.size], _, _, H1, rfl, I1.kept (t' := s1.toks) fun b o e => Heap.get?_push_of_some _ e, turn_tuple a _, ⟨_, Heap.get?_push_size _ rfl, rfl, rfl⟩, fun b hb => ?_, q⟩
    have e : b = s1.heap.objs.size := by simpa using hb
    subst e
    exact I1.fpOk (Nat.le_refl _) (I1.hok.fresh (Nat.le_refl _))
theorem pi_seqK {X : Cx} {K : PySem.W.Frag} (hK : X.K = K) {tg l : Expr} {tl : TE} (hl : PE X l tl) : PI X tg l (iSeq K tl) := by subst hK; exact pi_seq hl
def iItems (f : EF) : IF' := fun env => (f env).bind fun r => (itemsD r.d).map fun ds => (ds, r.bs)
theorem yl_list {K : PySem.W.Frag} {A0 : Addr → Prop} {H1 : Hp} {a : Addr} {ds : List PyData} {xs : List V} (h : Offs A0 H1 a = some (.lst xs)) (r : Rps (Offs A0 H1) ds xs) : Yl A0 H1 (Itl K a) ds := by
  intro A H' hA s
  have ha := off_at (s _ _ h)
  have r' := Rps.same s _ r
  refine ⟨fun i d e => ?_, ⟨xs, SqL.of ha, by rw [r.length]; exact Nat.le_refl _⟩⟩
  obtain ⟨v, hv, rv⟩ := r'.get2 e
  refine ⟨⟨xs, v, SqL.of ha, hv⟩, fun x H'' y => ?_⟩
  obtain ⟨rfl, y⟩ := y
  have := y xs (SqL.of ha)
  rw [hv] at this
  cases this
  exact ⟨Same.refl _, rv⟩
theorem yl_tup {K : PySem.W.Frag} {A0 : Addr → Prop} {H1 : Hp} {a : Addr} {ds : List PyData} {xs : List V} (h : Offs A0 H1 a = some (.tup xs)) (r : Rps (Offs A0 H1) ds xs) : Yl A0 H1 (Itt K a) ds := by
  intro A H' hA s
  have ha := off_at (s _ _ h)
  have r' := Rps.same s _ r
  refine ⟨fun i d e => ?_, ⟨xs, SqT.of ha, by rw [r.length]; exact Nat.le_refl _⟩⟩
  obtain ⟨v, hv, rv⟩ := r'.get2 e
  refine ⟨⟨xs, v, SqT.of ha, hv⟩, fun x H'' y => ?_⟩
  obtain ⟨rfl, y⟩ := y
  have := y xs (SqT.of ha)
  rw [hv] at this
  cases this
  exact ⟨Same.refl _, rv⟩
theorem si_seq {K : PySem.W.Frag} {te : TE} {f : EF} (h1 : SE te f) : SI (iSeq K te) (iItems f) := by
  intro fx H0 env σ H h ds bs e R q
  unfold iItems at e
  obtain ⟨⟨d, fr, bs'⟩, er, e⟩ := Option.bind_eq_some_iff.mp e
  obtain ⟨es, he, e⟩ := Option.map_eq_some_iff.mp e
  cases e
  refine h1 fx H0 env σ H h _ er _ fun v H1 s hv => ?_
  have rp := Rp.same (Offs.sub (frzs_lim (bs := bs'))) _ hv.rp
  cases d with
  | list ds =>
    cases he
    obtain ⟨a, xs, rfl, ha, r⟩ := rp_list rp
    exact ⟨a, rfl, .inl ⟨⟨xs, SqL.of (off_at ha)⟩, q _ H1 s (yl_list ha r)⟩⟩
  | tuple ds =>
    cases he
    obtain ⟨a, xs, rfl, ha, r⟩ := rp_tuple rp
    exact ⟨a, rfl, .inr ⟨⟨xs, SqT.of (off_at ha)⟩, q _ H1 s (yl_tup ha r)⟩⟩
  | _ => cases he
def enumD (ds : List PyData) : List PyData := ds.zipIdx.map fun p => .tuple [.int p.2, p.1]
def iEnumF (f : AF) : IF' := fun env => (f env).bind fun rs => match rs with
  | [r] => match r.d with
    | .list ds => some (enumD ds, r.bs)
    | _ => none
  | _ => none
theorem yl_enum {K : PySem.W.Frag} {A0 : Addr → Prop} {H1 : Hp} {a : Addr} {ds : List PyData} {xs : List V} (h : Offs A0 H1 a = some (.lst xs)) (r : Rps (Offs A0 H1) ds xs) : Yl A0 H1 (Ite K a) (enumD ds) := by
  intro A H' hA s
  have ha := off_at (s _ _ h)
  have r' := Rps.same s _ r
  have hl : (enumD ds).length = ds.length := by unfold enumD; simp
  refine ⟨fun i d e => ?_, ⟨xs, SqL.of ha, by rw [hl, r.length]; exact Nat.le_refl _⟩⟩
  unfold enumD at e
  rw [List.getElem?_map, List.getElem?_zipIdx] at e
  cases e0 : ds[i]? with
  | none => rw [e0] at e; cases e
  | some d0 =>
    rw [e0] at e
    obtain ⟨v, hv, rv⟩ := r'.get2 e0
    have e : PyData.tuple [.int ((0 + i : Nat) : Int), d0] = d := Option.some.inj e
    rw [Nat.zero_add] at e
    subst e
    refine ⟨⟨xs, v, SqL.of ha, hv⟩, fun x H'' y => ?_⟩
    obtain ⟨p, y', rfl, hp, rfl, y⟩ := y
    have := y xs (SqL.of ha)
    rw [hv] at this
    cases this
    exact ⟨Same.new hp, new_rpT hp (off_new hA hp) (rps_cons rp_mk_int (rps_cons rv rps_nil))⟩
theorem si_enum {K : PySem.W.Frag} {ta : TA} {f : AF} (h1 : SA ta f) : SI (iEnum K ta) (iEnumF f) := by
  intro fx H0 env σ H h ds bs e R q
  unfold iEnumF at e
  obtain ⟨rs, er, e⟩ := Option.bind_eq_some_iff.mp e
  split at e
  · rename_i r
    split at e
    · rename_i es hd
      cases e
      refine h1 fx H0 env σ H h _ er _ fun vs H1 s hv => ?_
      cases hv with
      | cons hv t =>
        cases t
        have rp := Rp.same (Offs.sub (frzs_lim (bs := r.bs))) _ hv.rp
        rw [hd] at rp
        obtain ⟨a, xs, rfl, ha, rr⟩ := rp_list rp
        exact ⟨a, rfl, ⟨xs, SqL.of (off_at ha)⟩, q _ H1 s (yl_enum ha rr)⟩
    · cases e
  · cases e
def rangeD (lo : Int) (n : Nat) : List PyData := (List.range n).map fun (k : Nat) => .int (lo + (k : Int))
theorem yl_range {A0 : Addr → Prop} {H1 : Hp} {lo : Int} {n : Nat} : Yl A0 H1 (Itr lo n) (rangeD lo n) := by
  intro A H' hA s
  have hl : (rangeD lo n).length = n := by unfold rangeD; simp
  refine ⟨fun i d e => ?_, by rw [hl]; exact Nat.le_refl _⟩
  unfold rangeD at e
  rw [List.getElem?_map] at e
  by_cases hi : i < n
  · rw [List.getElem?_range hi] at e
    cases e
    exact ⟨hi, fun x H'' ⟨e1, e2⟩ => by subst e1; subst e2; exact ⟨Same.refl _, rp_mk_int⟩⟩
  · rw [List.getElem?_eq_none (by simpa using hi)] at e
    cases e
def iRange1 (f : AF) : IF' := fun env => (f env).bind fun rs => match rs with
  | [⟨.int j, _, _⟩] => if -(2 ^ 62) ≤ j ∧ j < 2 ^ 62 then some (rangeD 0 j.toNat, []) else none
  | _ => none
theorem si_range1 {ta : TA} {f : AF} (h1 : SA ta f) : SI (iRng1 ta) (iRange1 f) := by
  intro fx H0 env σ H h ds bs e R q
  unfold iRange1 at e
  obtain ⟨rs, er, e⟩ := Option.bind_eq_some_iff.mp e
  split at e
  · split at e
    · rename_i hj
      cases e
      refine h1 fx H0 env σ H h _ er _ fun vs H1 s hv => ?_
      cases hv with
      | cons hv t =>
        cases t
        cases rp_int hv.rp
        exact ⟨_, rfl, hj.1, hj.2, q _ H1 s yl_range⟩
    · cases e
  · cases e
def iRange2 (f : AF) : IF' := fun env => (f env).bind fun rs => match rs with
  | [⟨.int i, _, _⟩, ⟨.int j, _, _⟩] => if -(2 ^ 62) ≤ i ∧ i < 2 ^ 62 ∧ -(2 ^ 62) ≤ j ∧ j < 2 ^ 62 then some (rangeD i (j - i).toNat, []) else none
  | _ => none
theorem si_range2 {ta : TA} {f : AF} (h1 : SA ta f) : SI (iRng2 ta) (iRange2 f) := by
  intro fx H0 env σ H h ds bs e R q
  unfold iRange2 at e
  obtain ⟨rs, er, e⟩ := Option.bind_eq_some_iff.mp e
  split at e
  · split at e
    · rename_i hj
      cases e
      refine h1 fx H0 env σ H h _ er _ fun vs H1 s hv => ?_
      cases hv with
      | cons hv t =>
        cases t with
        | cons hv2 t =>
          cases t
          cases rp_int hv.rp
          cases rp_int hv2.rp
          exact ⟨_, _, rfl, hj, q _ H1 s yl_range⟩
    · cases e
  · cases e
/-! ### for -/
def forL (g : GT) (body : SF) : List PyData → DEnv → Option Out
  | [], env => some (.nx env)
  | d :: ds, env => (g d env).bind fun e1 => (body e1).bind fun o => match o with
    | .nx e2 => forL g body ds e2
    | .ct e2 => forL g body ds e2
    | .bk e2 => some (.nx e2)
    | .rt d fr => some (.rt d fr)
def sFor (f : IF') (g : GT) (body : SF) : SF := fun env => (f env).bind fun z => forL g body z.1 (frzs env z.2)
theorem ss_for {wi : TI} {g : TG} {tb : TS} {f : IF'} {gf : GT} {body : SF} (h1 : SI wi f) (h2 : SG g gf) (h3 : SS tb body) : SS (tFor wi g tb) (sFor f gf body) := by
  intro fx H0 env σ H D h o e q
  unfold sFor at e
  obtain ⟨⟨ds, bs⟩, er, e⟩ := Option.bind_eq_some_iff.mp e
  refine h1 fx H0 env σ H h ds bs er _ fun J H1 s yl => ?_
  have hE := (h.up s).frzs bs
  have fl := hE.floor
  refine ⟨fun i m σ' H' => m = ds.length - i ∧ i ≤ ds.length ∧ ∃ env', forL gf body (ds.drop i) env' = some o ∧ EnvOk fx (Offs (own (frzs env bs) σ) H1) env' σ' H', ⟨ds.length, rfl, Nat.zero_le _, _, e, hE.rebase⟩, ?_⟩
  rintro i m σ' H' ⟨rfl, hi, env', e', h'⟩
  obtain ⟨yi, ys⟩ := yl _ H' h'.all h'.seen
  by_cases hlt : i < ds.length
  · obtain ⟨yg, yy⟩ := yi i ds[i] (List.getElem?_eq_getElem hlt)
    refine .inr ⟨yg, fun σ'' H'' => i + 1 ≤ ds.length ∧ ∃ env'', forL gf body (ds.drop (i + 1)) env'' = some o ∧ EnvOk fx (Offs (own (frzs env bs) σ) H1) env'' σ'' H'', ?_, ?_⟩
    · rintro σ'' H'' ⟨hle, env'', e'', h''⟩
      exact ⟨ds.length - (i + 1), by omega, rfl, hle, env'', e'', h''⟩
    · intro x H'' hy
      obtain ⟨sy, ry⟩ := yy x H'' hy
      rw [List.drop_eq_getElem_cons hlt] at e'
      obtain ⟨e1, ee1, e'⟩ := Option.bind_eq_some_iff.mp e'
      obtain ⟨o1, eo1, e'⟩ := Option.bind_eq_some_iff.mp e'
      refine h2 fx _ env' σ' H'' _ x (h'.up sy) ry e1 ee1 _ fun σ2 h2' => h3 fx _ e1 σ2 H'' _ h2' o1 eo1 ?_
      cases o1 with
      | nx e2 => exact fun σ3 H3 hh => ⟨hlt, e2, e', hh⟩
      | ct e2 => exact fun σ3 H3 hh => ⟨hlt, e2, e', hh⟩
      | bk e2 => cases e'; exact fun σ3 H3 hh => q σ3 H3 (hh.unbase fl)
      | rt d fr => cases e'; exact fun v H3 sh rt => q v H3 (fl.trans sh) (rt.unbase fl)
  · have hi' : i = ds.length := by omega
    subst hi'
    rw [List.drop_length] at e'
    cases e'
    exact .inl ⟨ys, q σ' H' (h'.unbase fl)⟩
/-! ### while -/
/-! ### a def, by its data -/
def startD (n : Nat) (ds : List PyData) : DEnv := ds.map .pl ++ List.replicate (n - ds.length) .no
def fnD (n : Nat) (f : SF) : GF := fun ds => match f (startD n ds) with
  | some (.rt d fr) => some (d, fr)
  | some (.nx _) => some (.none, false)
  | _ => none
theorem start_get {ds : List PyData} {n i : Nat} {sl : Sl} (e : (startD n ds)[i]? = some sl) : (∃ d, ds[i]? = some d ∧ sl = .pl d) ∨ sl = .no := by
  unfold startD at e
  by_cases hi : i < ds.length
  · rw [List.getElem?_append_left (by simpa using hi), List.getElem?_map, List.getElem?_eq_getElem hi] at e
    cases e
    exact .inl ⟨_, List.getElem?_eq_getElem hi, rfl⟩
  · rw [List.getElem?_append_right (by simpa using hi), List.getElem?_replicate] at e
    split at e
    · cases e; exact .inr rfl
    · cases e
theorem env_start {fx : Addr → Prop} {H : Hp} {N : List Str} {ds : List PyData} {vs : List V} (hf : ∀ b, fx b → ∃ o, H b = some o) (r : Rps (Offs fx H) ds vs) : EnvOk fx H (startD N.length ds) (start N vs) H := by
  have no : ∀ (i : Nat) (d : PyData), (startD N.length ds)[i]? ≠ some (Sl.ac d) := fun i d e => by
    rcases start_get e with ⟨d', _, z⟩ | z <;> cases z
  refine ⟨?_, fun i d e => ?_, fun i d e => absurd e (no i d), fun i j d e a h1 => absurd h1 (no i d), Same.refl _, hf⟩
  · unfold startD start
    rw [List.length_append, List.length_append, List.length_map, List.length_map, List.length_replicate, List.length_replicate, r.length]
  · rcases start_get e with ⟨d', hd, z⟩ | z
    · cases z
      obtain ⟨v, hv, rv⟩ := r.get2 hd
      refine ⟨v, ?_, Rp.same (Offs.sub fun b z => ?_) _ rv⟩
      · unfold start
        have hi : i < vs.length := (List.getElem?_eq_some_iff.mp hv).1
        rw [List.getElem?_append_left (by simpa using hi), List.getElem?_map, hv]; rfl
      · rcases z with z | ⟨j, d', z, _⟩
        · exact z
        · exact absurd z (no j d')
    · cases z
theorem fn_d {N : List Str} {n : Nat} {f : SF} {t : TS} (hs : SS t f) {vs : List V} {H : Hp} {Q : VK} {E : XK} (h : spD n (fnD N.length f) vs H Q E) : t { nx := fun _ H' => Q .non H', rt := Q } (start N vs) H := by
  obtain ⟨fx, ds, d, fr, hn, hf, r, g, k⟩ := h
  unfold fnD at g
  split at g
  · rename_i d' fr' eo
    cases g
    exact hs fx H _ _ H _ (env_start hf r) _ eo fun v H' s rt => k v H' s rt
  · rename_i e' eo
    cases g
    exact hs fx H _ _ H _ (env_start hf r) _ eo fun σ H' hE => k .non H' hE.base ⟨rp_mk_none, fun z => by cases z⟩
  · cases g
theorem spD_len {n : Nat} {g : GF} {vs : List V} {H : Hp} {Q : VK} {E : XK} (h : spD n g vs H Q E) : vs.length = n := by
  obtain ⟨fx, ds, d, fr, hn, hf, r, _⟩ := h
  rw [← r.length]; exact hn
end L2

namespace L2
open PySem PySem.Spec PyProof.Rows
/-! ## comprehensions of one clause -/
def captS : Sl → Sl
  | .ac d => .pl d
  | s => s
def envB (own : List Str) (fr : List Nat) (env : DEnv) : DEnv := own.map (fun _ => Sl.no) ++ fr.map (fun j => captS (env.getD j .no))
def isAc : Option Sl → Bool
  | some (.ac _) => true
  | _ => false
def capA (fr : List Nat) (env : DEnv) : List Nat := fr.filter fun j => isAc env[j]?
theorem envB_get {own : List Str} {fr : List Nat} {env : DEnv} {i : Nat} {d : PyData} (e : (envB own fr env)[i]? = some (.pl d)) : ∃ j k, i = own.length + k ∧ fr[k]? = some j ∧ (env[j]? = some (.pl d) ∨ env[j]? = some (.ac d)) := by
  unfold envB at e
  by_cases hi : i < own.length
  · rw [List.getElem?_append_left (by simpa using hi), List.getElem?_map, List.getElem?_eq_getElem hi] at e
    cases e
  · rw [List.getElem?_append_right (by simpa using hi), List.length_map, List.getElem?_map] at e
    cases ej : fr[i - own.length]? with
    | none => rw [ej] at e; cases e
    | some j =>
      rw [ej] at e
      refine ⟨j, i - own.length, by omega, ej, ?_⟩
      have e : captS (env.getD j .no) = .pl d := Option.some.inj e
      rw [List.getD_eq_getElem?_getD] at e
      cases ev : env[j]? with
      | none => rw [ev] at e; cases e
      | some s =>
        rw [ev] at e
        cases s with
        | no => cases e
        | pl d' => cases e; exact .inl rfl
        | ac d' => cases e; exact .inr rfl
theorem envB_ac {own : List Str} {fr : List Nat} {env : DEnv} {i : Nat} {d : PyData} : (envB own fr env)[i]? ≠ some (.ac d) := by
  intro e
  unfold envB at e
  by_cases hi : i < own.length
  · rw [List.getElem?_append_left (by simpa using hi), List.getElem?_map, List.getElem?_eq_getElem hi] at e
    cases e
  · rw [List.getElem?_append_right (by simpa using hi), List.length_map, List.getElem?_map] at e
    cases ej : fr[i - own.length]? with
    | none => rw [ej] at e; cases e
    | some j =>
      rw [ej] at e
      have e : captS (env.getD j .no) = .ac d := Option.some.inj e
      cases ev : env.getD j .no with
      | no => rw [ev] at e; cases e
      | pl d' => rw [ev] at e; cases e
      | ac d' => rw [ev] at e; cases e
theorem tau_get {own : List Str} {fr : List Nat} {σ : St} {k j : Nat} {v : V} (hk : fr[k]? = some j) (hv : σ[j]? = some (some v)) : (tau own fr σ)[own.length + k]? = some (some v) := by
  unfold tau
  rw [List.getElem?_append_right (by simp), List.length_map, Nat.add_sub_cancel_left, List.getElem?_map, hk]
  show some (σ.getD j none) = _
  rw [List.getD_eq_getElem?_getD, hv]; rfl
/-- no own things in a block -/
theorem env_block {fx : Addr → Prop} {H0 : Hp} {env : DEnv} {σ : St} {H H1 : Hp} {p : Addr} (h : EnvOk fx H0 env σ H) (s : Same H H1) (hp : H1 p = none) (own : List Str) (fr : List Nat) (bs : List Nat) :
    EnvOk (fun b => lim fx env σ (bs ++ capA fr env) b ∨ b = p) H1 (envB own fr env) (tau own fr σ) (upd H1 p (.lst [])) := by
  have h1 := h.up s
  have sp : Same H1 (upd H1 p (.lst [])) := Same.new hp
  have so : Same (Offs (fun b => fx b ∨ L2.own env σ b) H1) (Offs (fun b => (lim fx env σ (bs ++ capA fr env) b ∨ b = p) ∨ L2.own (envB own fr env) (tau own fr σ) b) (upd H1 p (.lst []))) := Offs.mono sp fun b o e n z => by
    rcases z with (z | z) | ⟨i, d, z, _⟩
    · exact n (lim_own b z)
    · rw [z, hp] at e; cases e
    · exact absurd z envB_ac
  refine ⟨?_, fun i d e => ?_, fun i d e => absurd e envB_ac, fun i j d e a z => absurd z envB_ac, sp, fun b z => ?_⟩
  · unfold envB tau; simp
  · obtain ⟨j, k, rfl, hk, hj⟩ := envB_get e
    rcases hj with hj | hj
    · obtain ⟨v, h2, h3⟩ := h1.pl j d hj
      exact ⟨v, tau_get hk h2, Rp.same so _ h3⟩
    · obtain ⟨a, h2, h3, h4, h5⟩ := h1.ac j d hj
      refine ⟨_, tau_get hk h2, h5.rp so fun o eo => ?_⟩
      rw [Offs.get]
      · exact sp _ _ eo
      · rintro ((z | ⟨i', d', z1, z2, z3⟩) | ⟨i', d', z, _⟩)
        · rcases z with z | ⟨i', d', z1, z2, z3⟩
          · exact h4 z
          · have e2 := h1.inj i' j d' d a z2 hj z3 h2
            subst e2
            refine z1 (List.mem_append_right _ (List.mem_filter.mpr ⟨List.mem_of_getElem? hk, ?_⟩))
            rw [hj]; rfl
        · rw [hp] at eo; cases eo
        · exact absurd z envB_ac
  · rcases z with z | z
    · obtain ⟨o, e⟩ := h1.lims _ b z; exact ⟨o, sp b o e⟩
    · rw [z]; exact ⟨_, upd_same⟩
theorem EnvOk.weaken {fx : Addr → Prop} {H0 : Hp} {env e1 : DEnv} {σ : St} {H : Hp} (h : EnvOk fx H0 e1 σ H) (hl : env.length = e1.length) (hp : ∀ (i : Nat) (d : PyData), env[i]? = some (.pl d) → e1[i]? = some (.pl d)) (ha : ∀ (i : Nat) (d : PyData), env[i]? ≠ some (.ac d)) : EnvOk fx H0 env σ H := by
  refine ⟨hl.trans h.len, fun i d e => ?_, fun i d e => absurd e (ha i d), fun i j d e a z => absurd z (ha i d), h.base, h.fxs⟩
  obtain ⟨v, h1, h2⟩ := h.pl i d (hp i d e)
  exact ⟨v, h1, Rp.same (Offs.sub fun b z => z.imp (fun y => y) fun ⟨j, d', z, _⟩ => absurd z (ha j d')) _ h2⟩
theorem EnvOk.updFx {fx : Addr → Prop} {H0 : Hp} {env : DEnv} {σ : St} {H : Hp} {p : Addr} {o : HO} (h : EnvOk fx H0 env σ H) (hp : fx p) (h0 : H0 p = none) : EnvOk fx H0 env σ (upd H p o) := by
  have so : Offs (fun b => fx b ∨ own env σ b) (upd H p o) = Offs (fun b => fx b ∨ own env σ b) H := Offs.upd (.inl hp)
  refine ⟨h.len, fun i d e => ?_, fun i d e => ?_, h.inj, fun b u e => by rw [upd_ne (ne_of_none e h0)]; exact h.base b u e, fun b z => ?_⟩
  · rw [so]; exact h.pl i d e
  · obtain ⟨a, h1, h2, h3, h4⟩ := h.ac i d e
    rw [so]
    exact ⟨a, h1, h2, h3, h4.same (Same.refl _) fun u z => by rw [upd_ne fun y => h3 (by rw [y]; exact hp)]; exact z⟩
  · by_cases e : b = p
    · rw [e]; exact ⟨_, upd_same⟩
    · obtain ⟨u, hu⟩ := h.fxs b z
      exact ⟨u, by rw [upd_ne e]; exact hu⟩
def GX (n : Nat) (g : GT) : Prop := ∀ d env e1, g d env = some e1 → e1.length = env.length ∧ ∀ i, n ≤ i → e1[i]? = env[i]?
def GXs (n : Nat) (g : GTs) : Prop := ∀ ds env e1, g ds env = some e1 → e1.length = env.length ∧ ∀ i, n ≤ i → e1[i]? = env[i]?
theorem gx_name {n i : Nat} (h : i < n) : GX n (gN i) := by
  intro d env e1 e
  cases e
  exact ⟨List.length_set, fun j hj => List.getElem?_set_ne (by omega)⟩
theorem gxs_nil {n : Nat} : GXs n gsNil := by
  intro ds env e1 e
  cases ds with
  | nil => cases e; exact ⟨rfl, fun _ _ => rfl⟩
  | cons _ _ => cases e
theorem gxs_cons {n i : Nat} {g : GTs} (h : i < n) (hg : GXs n g) : GXs n (gsCons i g) := by
  intro ds env e1 e
  cases ds with
  | nil => cases e
  | cons d ds =>
    obtain ⟨h1, h2⟩ := hg ds _ e1 e
    rw [List.length_set] at h1
    exact ⟨h1, fun j hj => (h2 j hj).trans (List.getElem?_set_ne (by omega))⟩
theorem gx_tup {n m : Nat} {g : GTs} (hg : GXs n g) : GX n (gT m g) := by
  intro d env e1 e
  unfold gT at e
  cases d with
  | tuple ds =>
    have e : (if ds.length = m then g ds env else none) = some e1 := e
    split at e
    · exact hg ds env e1 e
    · cases e
  | _ => cases e
def compL (g : GT) (t : TF) (e : EF) (env : DEnv) : List PyData → Option (List PyData)
  | [] => some []
  | d :: ds => (g d env).bind fun e1 => (t e1).bind fun b => if b = true then (e e1).bind fun r => (compL g t e env ds).map fun rs => r.d :: rs else compL g t e env ds
def eComp (own : List Str) (fr : List Nat) (fi : IF') (g : GT) (t : TF) (e : EF) : EF := fun env => (fi env).bind fun z => if z.1.length < 100000 then
  (compL g t e (envB own fr env) z.1).map fun rs => ⟨.list rs, true, if flatsD rs = true then [] else z.2 ++ capA fr env⟩ else none
theorem rps_flats {H H' : Hp} {ds : List PyData} {vs : List V} (f : flatsD ds = true) (h : Rps H ds vs) : Rps H' ds vs := by
  replace h := rps_paired.mp h
  induction h with
  | nil => exact rps_nil
  | cons h _ ih =>
    unfold flatsD at f
    rw [List.all_cons, Bool.and_eq_true] at f
    exact rps_cons (rp_flat f.1 h) (ih f.2)
theorem se_comp {own : List Str} {fr : List Nat} {wi : TI} {g : TG} {tt : TT} {te : TE} {fi : IF'} {gf : GT} {t : TF} {e : EF} (h1 : SI wi fi) (h2 : SG g gf) (hx : GX own.length gf) (h3 : ST tt t) (h4 : SE te e) :
    SE (tComp1 wi g tt te own fr) (eComp own fr fi gf t e) := by
  intro fx H0 env σ H h rr hr Q q
  unfold eComp at hr
  obtain ⟨⟨ds, bs⟩, ei, hr⟩ := Option.bind_eq_some_iff.mp hr
  split at hr
  · rename_i hlen
    have hlen : ds.length < 100000 := hlen
    obtain ⟨rs, ers, rfl⟩ := Option.map_eq_some_iff.mp hr
    refine h1 fx H0 env σ H h ds bs ei _ fun J H1 s yl => fun p hp => ?_
    have hB := env_block h s hp own fr bs
    generalize hA : (fun b => lim fx env σ (bs ++ capA fr env) b) = A
    have hA' : ∀ b, lim fx env σ (bs ++ capA fr env) b ↔ A b := fun b => by rw [← hA]
    have eA : (fun b => lim fx env σ (bs ++ capA fr env) b ∨ b = p) = fun b => A b ∨ b = p := by rw [← hA]
    rw [eA] at hB
    have nA : ¬ A p := fun z => by
      obtain ⟨o, eo⟩ := (h.up s).lims _ p ((hA' p).mpr z)
      rw [hp] at eo; cases eo
    have seen : ∀ {σ' : St} {H' : Hp}, EnvOk (fun b => A b ∨ b = p) H1 (envB own fr env) σ' H' → Same (Offs (fun b => fx b ∨ L2.own (frzs env bs) σ b) H1) (Offs (fun b => A b ∨ b = p) H') := fun {σ' H'} hE => Offs.mono hE.base fun b o eo n z => by
      rcases z with z | z
      · rcases (hA' b).mpr z with z | ⟨i, d, z1, z2, z3⟩
        · exact n (.inl z)
        · exact n (.inr ⟨i, d, frzs_get (fun y => z1 (List.mem_append_left _ y)) z2, z3⟩)
      · rw [z, hp] at eo; cases eo
    refine ⟨fun i m σ' H' => m = ds.length - i ∧ i ≤ ds.length ∧ ∃ vs done rest, H' p = some (.lst vs) ∧ Rps (Offs (fun b => A b ∨ b = p) H') done vs ∧ done.length ≤ i ∧ compL gf t e (envB own fr env) (ds.drop i) = some rest ∧ done ++ rest = rs ∧ EnvOk (fun b => A b ∨ b = p) H1 (envB own fr env) σ' H',
      ⟨ds.length, rfl, Nat.zero_le _, [], [], rs, upd_same, rps_nil, Nat.zero_le _, ers, rfl, hB⟩, ?_⟩
    rintro i m σ' H' ⟨rfl, hi, vs, done, rest, ep, rd, dl, ec, edr, hE⟩
    obtain ⟨yi, ys⟩ := yl _ H' hE.fxs (seen hE)
    by_cases hlt : i < ds.length
    · obtain ⟨yg, yy⟩ := yi i ds[i] (List.getElem?_eq_getElem hlt)
      refine .inr ⟨yg, fun σ'' H'' => i + 1 ≤ ds.length ∧ ∃ vs done rest, H'' p = some (.lst vs) ∧ Rps (Offs (fun b => A b ∨ b = p) H'') done vs ∧ done.length ≤ i + 1 ∧ compL gf t e (envB own fr env) (ds.drop (i + 1)) = some rest ∧ done ++ rest = rs ∧ EnvOk (fun b => A b ∨ b = p) H1 (envB own fr env) σ'' H'', ?_, ?_⟩
      · rintro σ'' H'' ⟨hle, hh⟩
        exact ⟨ds.length - (i + 1), by omega, rfl, hle, hh⟩
      · intro x H'' hy
        obtain ⟨sy, ry⟩ := yy x H'' hy
        rw [List.drop_eq_getElem_cons hlt] at ec
        obtain ⟨e1, ee1, ec⟩ := Option.bind_eq_some_iff.mp ec
        obtain ⟨b, eb, ec⟩ := Option.bind_eq_some_iff.mp ec
        have ry' : Rp (Offs (fun a => (A a ∨ a = p) ∨ L2.own (envB own fr env) σ' a) H'') ds[i] x := Rp.same (Offs.sub fun b z => z.elim (fun y => y) fun ⟨j, d', z, _⟩ => absurd z envB_ac) _ ry
        refine h2 _ H1 (envB own fr env) σ' H'' _ x (hE.up sy) ry' e1 ee1 _ fun σ2 hE2 => ?_
        refine h3 _ H1 e1 σ2 H'' hE2 b eb _ fun H3 s3 => ?_
        have hE3 := hE2.up s3
        obtain ⟨gl, gk⟩ := hx _ _ _ ee1
        have back : ∀ {H4 : Hp}, EnvOk (fun b => A b ∨ b = p) H1 e1 σ2 H4 → EnvOk (fun b => A b ∨ b = p) H1 (envB own fr env) σ2 H4 := fun {H4} hh => hh.weaken gl.symm (fun j d' ej => by
          by_cases hj : own.length ≤ j
          · rw [gk j hj]; exact ej
          · obtain ⟨_, k, rfl, _⟩ := envB_get ej; omega) fun j d' => envB_ac
        cases b with
        | false =>
          have ec : compL gf t e (envB own fr env) (ds.drop (i + 1)) = some rest := ec
          exact iteF ⟨hlt, vs, done, rest, s3 _ _ (sy _ _ ep), Rps.same (Offs.grow (sy.trans s3)) _ rd, Nat.le_succ_of_le dl, ec, edr, back hE3⟩
        | true =>
          have ec : ((e e1).bind fun r => (compL gf t e (envB own fr env) (ds.drop (i + 1))).map fun rs => r.d :: rs) = some rest := ec
          obtain ⟨r, er, ec⟩ := Option.bind_eq_some_iff.mp ec
          obtain ⟨rest', er', rfl⟩ := Option.map_eq_some_iff.mp ec
          refine iteT (h4 _ H1 e1 σ2 H3 hE3 r er _ fun v H4 s4 hv => ?_)
          have t4 := (sy.trans s3).trans s4
          refine ⟨vs, t4 _ _ ep, size_lt (by rw [← rd.length]; omega), hlt, vs ++ [v], done ++ [r.d], rest', upd_same, ?_, by rw [List.length_append]; simp; omega, er', by rw [← edr]; simp, (back (hE3.up s4)).updFx (.inr rfl) hp⟩
          rw [Offs.upd (.inr rfl)]
          exact (Rps.same (Offs.grow t4) _ rd).append (rps_cons (Rp.same (Offs.sub fun b z => .inl z) _ hv.rp) rps_nil)
    · have hi' : i = ds.length := by omega
      subst hi'
      rw [List.drop_length] at ec
      cases ec
      rw [List.append_nil] at edr
      subst edr
      refine .inl ⟨ys, q _ H' (s.trans hE.base) ⟨?_, fun _ => ⟨p, rfl, s.free hp, ?_⟩⟩⟩
      · show Rp (Offs (lim fx env σ (if flatsD done = true then [] else bs ++ capA fr env)) H') (.list done) (.ref p)
        have nl : ∀ cs, ¬ lim fx env σ cs p := fun cs z => by
          obtain ⟨o, eo⟩ := (h.up s).lims _ p z
          rw [hp] at eo; cases eo
        refine rp_mk_list (by rw [Offs.get (nl _)]; exact ep) ?_
        split
        · rename_i f; exact rps_flats f rd
        · exact Rps.same (Offs.sub fun b z => .inl ((hA' b).mp z)) _ rd
      · show AccAt (Offs (fun b => lim fx env σ (if flatsD done = true then [] else bs ++ capA fr env) b ∨ b = p) H') H' p (.list done)
        refine ⟨vs, ep, ?_⟩
        split
        · rename_i f; exact rps_flats f rd
        · exact Rps.same (Offs.sub fun b z => z.imp (hA' b).mp id) _ rd
  · cases hr
end L2

namespace L2
open PySem PySem.Spec PyProof.Rows
section
variable {X : Cx} {K : PySem.W.Frag}
theorem pt_truthK (hK : X.K = K) {a : Expr} {ta : TE} (ha : PE X a ta) (he : ∀ whole, isTrue a X.env whole = (do let v ← whole; standAt a.pos; holding [v] (truthy v))) :
    PT X a (fun σ H Q => ta σ H fun x H' => ∃ k, TruV K x H' k ∧ Q k H') := by subst hK; exact pt_truth ha he
theorem call_tupleK (hK : X.K = K) : CallR X (.type "tuple") (fun xs H Q => ∃ p ys, xs = [.ref p] ∧ ((SqL K H p ys ∧ ∀ l, H l = none → Q (.ref l) (upd H l (.tup ys))) ∨ (SqT K H p ys ∧ Q (.ref p) H))) := by subst hK; exact call_tuple_of
theorem op_eqA (hK : X.K = K) (hu : X.A.units + 64 < cLine) : OpR X (compareOp .Eq) (fun x y H Q => rEq x y H Q ∨ rEqD K false x y H Q) := by subst hK; exact op_eq.or (op_eqD hu)
def tAllF : TF := fun _ => some true
theorem st_all : ST tAll tAllF := by
  intro fx H0 env σ H hE b hb Q q
  cases hb
  exact q H (Same.refl _)
/-! is True, is False -/
/-! -e -/
def eNeg (a : EF) : EF := fun env => (a env).bind fun x => match x.d with | .int i => some ⟨.int (-i), false, []⟩ | _ => none
theorem se_neg {te : TE} {f : EF} (h1 : SE te f) : SE (tUn (rU fun i => .int (-i)) te) (eNeg f) := by
  intro fx H0 env σ H h rr hr Q q
  unfold eNeg at hr
  obtain ⟨⟨d, fr, bs⟩, ex, hr⟩ := Option.bind_eq_some_iff.mp hr
  cases d with
  | int i =>
    cases hr
    exact h1 fx H0 env σ H h _ ex _ fun v H1 s1 v1 => ⟨i, rp_int v1.rp, q _ H1 s1 ⟨rp_mk_int, fun z => by cases z⟩⟩
  | _ => cases hr
/-! a op b op c -/
end
end L2

namespace PySem
open Sem (wp)
theorem keys_miss : typeLookup (.type "list") "keys" = pure none := by rw [typeLookup_type, builtinLookup_eq_fast]; kernel_rfl
theorem getAttrBy_keys {prog : Program} {w : World} {A : Around} {E : Value → Shared → Prop} {s : Shared} {a : Addr} {o : Obj} {xs : Array Value} {k : Nat} {u : Tok} {Q : Value → Shared → Prop}
    (hx : s.heap.get? a = some o) (hc : o.cls = .type "list") (hdat : o.data = .seq xs k) (hd : o.dict = none) (hA : A.handled = none)
    (h : ∀ h' tk e, Heap.NewExcOf s.heap h' e "AttributeError" → E (.ref e) { s with heap := h', toks := tk }) :
    wpAny (model prog w) A (getAttrBy (.ref a) (.str "keys" u) false) Q E s := by
  obtain ⟨c, dct, dat, sl⟩ := o
  simp only at hc hdat hd
  subst hc hdat hd
  obtain ⟨hp, g, d, tk, os⟩ := s
  have hT : ∀ tk', (⟨hp, g, d, tk', os⟩ : Shared).TypeIs (.ref a) "list" := fun _ => ⟨_, hx, rfl⟩
  have f1 := sub_AttributeError
  have f3 := F.slot_list_getattribute.lookup
  have f4 := F.slot_list_getattribute.bind (.ref a)
  have f5 := am_list_getattr_none
  unfold getAttrBy
  repeat (any_goals (first | assumption | exact hT _ | ((with_reducible show wpAny _ _ (call (Value.builtin "list.__getattribute__") _ _) _ _ _); refine call_meets F.slot_list_getattribute (hT _) am_entry_list_getattribute (F.args_list_getattribute_2 _ _) (meets_getattribute_miss_list a xs k sl "keys" _ keys_miss (by decide) (by size_fits)) ⟨hx, hA, fun h' tk' e hx' => ?_⟩) | wp_step))
  obtain ⟨t', u', he⟩ := hx'.there
  show wpAny _ _ (getattributeRaised _ _ _ _ _ _ _) _ _ _
  unfold getattributeRaised
  repeat (any_goals (first | assumption | wp_step))
  exact h _ _ _ hx'.of
theorem getAttrQ_keys {prog : Program} {w : World} {A : Around} {E : Value → Shared → Prop} {s : Shared} {a : Addr} {o : Obj} {xs : Array Value} {k : Nat} {Q : Option Value → Shared → Prop}
    (hx : s.heap.get? a = some o) (hc : o.cls = .type "list") (hdat : o.data = .seq xs k) (hd : o.dict = none) (hA : A.handled = none)
    (h : ∀ h' tk, (∀ b o, s.heap.get? b = some o → h'.get? b = some o) → Q none { s with heap := h', toks := tk }) :
    wpAny (model prog w) A (getAttr? (.ref a) "keys") Q E s := by
  unfold getAttr? getAttrBy?
  refine wpAny_bind (wpAny_mkText (wpAny_bind (wpAny_attempt (getAttrBy_keys (s := { s with toks := s.toks + 1 }) hx hc hdat hd hA fun h' tk e x => ?_))))
  obtain ⟨ob, vs, he, hcl, _, _⟩ := x.there
  show wpAny _ _ (do if ← isInstance (.ref e) (.type "AttributeError") then pure none else throw (.ref e)) _ _ _
  refine wpAny_bind (wpAny_isInstance (T := "AttributeError") ⟨ob, he, hcl⟩ sub_AttributeError ?_)
  exact wpAny_pure (h h' tk x.keeps)
theorem plain_dict_loop : plainId "dict.update.loop" = true := by decide +kernel
theorem entry_dict_loop : entryFor table "dict.update.loop" = some Builtin.«dict.update.loop» := entryFor_of_fast (by kernel_rfl)
end PySem
namespace L2
open PySem PySem.Spec PyProof.Rows
theorem paired_get2' {α β : Type} {F : α → β → Prop} : ∀ {l : List α} {r : List β} {i : Nat} {x : α}, Paired F l r → l[i]? = some x → ∃ y, r[i]? = some y ∧ F x y
  | _, _, _, _, .nil, e => by simp at e
  | _, _, 0, _, .cons h _, e => by simp at e; subst e; exact ⟨_, rfl, h⟩
  | _, _, i + 1, x, .cons _ t, e => by
    obtain ⟨y, h1, h2⟩ := paired_get2' (i := i) (x := x) t (by simpa using e)
    exact ⟨y, by simpa using h1, h2⟩
theorem stored_len (kvs : List (Key × Value)) (k : Key) (v : Value) : (stored kvs k v).length ≤ kvs.length + 1 := by
  unfold stored
  split
  · rw [List.length_map]; omega
  · rw [List.length_append]; simp
def _root_.PySem.Heap.IsList0 (h : Heap) (l : Addr) (items : Array Value) : Prop := ∃ o, h.get? l = some o ∧ o.cls = .type "list" ∧ ∃ n, o.data = .seq items n ∧ o.dict = none
def foldP (ps : List (Key × Value)) (kvs : List (Key × Value)) : List (Key × Value) := ps.foldl (fun acc p => stored acc p.1 p.2) kvs
theorem dict_loop {prog : Program} {w : World} {A : Around} {R : Result → Shared → Prop} {d it l : Addr} {h0 : Heap} {items : List Value} {ps : List (Key × Value)} (hA : A.in1.handled = none)
    (pr : Paired (fun (v : Value) (p : Key × Value) => ∃ t kv, v = .ref t ∧ IsTup h0 t #[kv, p.2] ∧ keyIs p.1 kv = true) items ps) (hl : h0.IsList l items.toArray) (hd : h0.get? d = none) (hi : h0.get? it = none) (hdi : d ≠ it) (hz : items.length ≤ sizeLine) :
    ∀ (k i : Nat) (s : Shared) (kvs : List (Key × Value)) (tk : Tok), items.length - i = k → i ≤ items.length → s.heap.IsListIter it l i → s.heap.DictOf (mixKind prog w) d kvs → (∀ b o, h0.get? b = some o → s.heap.get? b = some o) → kvs.length ≤ i →
    (∀ h' tk', h'.DictOf (mixKind prog w) d (foldP (ps.drop i) kvs) → (∀ b o, h0.get? b = some o → h'.get? b = some o) → R (.ok (.ret .none)) { s with heap := h', toks := tk' }) →
    codeAny (model prog w) A (.builtin "dict.update.loop" ⟨[.ref d, .ref it, .int i tk, .none], []⟩) R s := by
  have hlen := pr.length
  have keepL : ∀ {h : Heap}, (∀ b o, h0.get? b = some o → h.get? b = some o) → h.IsList l items.toArray := fun {h} kp => Heap.IsList.at hl fun o e => kp _ o e
  intro k
  induction k with
  | zero =>
    intro i s kvs tk hk hile hit hdo kp hkl hR
    have hin : i = items.length := by omega
    subst hin
    refine codeAny_builtin entry_dict_loop ?_
    rw [Around.under_plainId plain_dict_loop _]
    show wpAny _ A.in1 (pyNext (.ref it) >>= _) _ _ s
    refine wpAny_bind (wpAny_pyNext_list_end hA hit (keepL kp) (by simp) fun h' eb => ?_)
    show wpAny _ _ (Builtin.Dict.addKeywords d [] >>= _) _ _ _
    refine wpAny_bind (wpAny_pure (wpAny_pure ?_))
    refine hR h' s.toks ?_ fun b o e => eb b o (fun z => by rw [z, hi] at e; cases e) (kp b o e)
    rw [List.drop_of_length_le (by omega)]
    exact hdo.extBut eb hdi
  | succ k ih =>
    intro i s kvs tk hk hile hit hdo kp hkl hR
    have hlt : i < items.length := by omega
    obtain ⟨p, hp, t, kv, ev, ht, hkey⟩ : ∃ p, ps[i]? = some p ∧ ∃ t kv, items[i] = .ref t ∧ IsTup h0 t #[kv, p.2] ∧ keyIs p.1 kv = true := by
      have := pr
      obtain ⟨p, h1, h2⟩ := paired_get2' pr (List.getElem?_eq_getElem hlt)
      exact ⟨p, h1, h2⟩
    refine codeAny_builtin entry_dict_loop ?_
    rw [Around.under_plainId plain_dict_loop _]
    show wpAny _ A.in1 (pyNext (.ref it) >>= _) _ _ s
    refine wpAny_bind (wpAny_pyNext_list_item hit (keepL kp) (x := .ref t) (by rw [← ev]; simp [hlt]) fun h1 hit1 sb1 => ?_)
    have kp1 : ∀ b o, h0.get? b = some o → h1.get? b = some o := fun b o e => (sb1.2 b (fun z => by rw [z, hi] at e; cases e)).trans (kp b o e)
    have hd1 : h1.DictOf (mixKind prog w) d kvs := hdo.sameBut sb1 hdi
    obtain ⟨ot, g1, g2, n3, g3⟩ := ht
    refine wpAny_bind (wpAny_holding (wpAny_bind (wpAny_tryCatch ?_)))
    unfold Builtin.Dict.pairItems
    refine wpAny_bind (wpAny_typeOf (T := "tuple") ⟨ot, kp1 _ _ g1, g2⟩ ?_)
    rw [if_pos (by decide)]
    refine wpAny_bind (wpAny_seqItems (kp1 _ _ g1) g3 (wpAny_pure ?_))
    show wpAny _ _ (holding [kv, p.2] (dictSet d kv p.2)) _ _ _
    refine wpAny_holding (wpAny_dictSet_pairs (knd := mixKind prog w) (k := p.1) hkey hd1 (fun h2 hd2 sb2 => ?_) (by omega))
    have hit2 : h2.IsListIter it l (i + 1) := by obtain ⟨o, q1, q2, q3⟩ := hit1; exact ⟨o, (sb2.2 _ (Ne.symm hdi)).trans q1, q2, q3⟩
    refine wpAny_pure ⟨plainId_quiet plain_dict_loop _, ?_⟩
    have kp2 : ∀ b o, h0.get? b = some o → h2.get? b = some o := fun b o e => (sb2.2 b (fun z => by rw [z, hd] at e; cases e)).trans (kp1 b o e)
    refine ih (i + 1) { s with heap := h2, toks := s.toks + 1 } (stored kvs p.1 p.2) _ (by omega) hlt hit2 hd2 kp2 ?_ fun h' tk' hd' kp' => ?_
    · have := stored_len kvs p.1 p.2; omega
    · refine hR h' tk' ?_ kp'
      have e : ps.drop i = p :: ps.drop (i + 1) := by
        obtain ⟨hh, e⟩ := List.getElem?_eq_some_iff.mp hp
        rw [← e]; exact List.drop_eq_getElem_cons hh
      rw [e]
      exact hd'
theorem call_dict_list {prog : Program} {w : World} {A : Around} {E : Value → Shared → Prop} {s : Shared} {l : Addr} {items : List Value} {ps : List (Key × Value)} {Q : Value → Shared → Prop} (hA : A.handled = none)
    (pr : Paired (fun (v : Value) (p : Key × Value) => ∃ t kv, v = .ref t ∧ IsTup s.heap t #[kv, p.2] ∧ keyIs p.1 kv = true) items ps) (hl : Heap.IsList0 s.heap l items.toArray) (hz : items.length ≤ sizeLine)
    (h : ∀ h' tk, h'.DictOf (mixKind prog w) s.heap.objs.size (foldP ps []) → (∀ b o, s.heap.get? b = some o → h'.get? b = some o) → Q (.ref s.heap.objs.size) { s with heap := h', toks := tk }) :
    wpAny (model prog w) A (call (.type "dict") [.ref l]) Q E s := by
  refine callType_codes (Q₁ := fun obj s₁ => obj = .ref s.heap.objs.size ∧ s₁ = { s with heap := s.heap.push { cls := .type "dict", data := .dict #[] } }) F.kt_called_dict (F.kt_typeCall_dict_1 _) F.entry_dict_init (kt_code_dict_new _ ⟨rfl, rfl⟩) ?_
  rintro obj s₁ ⟨rfl, rfl⟩
  have hnew : (s.heap.push { cls := .type "dict", data := .dict #[] }).DictOf (mixKind prog w) s.heap.objs.size [] := Heap.DictOf.new s.heap
  obtain ⟨ol, g1, g2, n3, g3, g4⟩ := id hl
  have hl' : (s.heap.push { cls := .type "dict", data := .dict #[] }).get? l = some ol := Heap.get?_push_of_some _ g1
  refine ⟨hnew.typeIs, F.args_dict_init_2 _ _, ?_⟩
  unfold Builtin.«dict.__init__»
  refine wpAny_bind ?_
  unfold Builtin.Dict.selfAndRest
  refine wpAny_bind (wpAny_notOrdered_dict hnew.typeIs ?_)
  show wpAny _ _ (pure (s.heap.objs.size, [Value.ref l])) _ _ _
  refine wpAny_pure ?_
  show wpAny _ _ (Builtin.Dict.updateFrom "dict.__init__" s.heap.objs.size (.ref l) [] .none) _ _ _
  unfold Builtin.Dict.updateFrom
  refine wpAny_bind (wpAny_typeOf (T := "list") ⟨ol, hl', g2⟩ ?_)
  rw [if_pos (by decide)]
  refine wpAny_bind (getAttrQ_keys (s := { s with heap := s.heap.push { cls := .type "dict", data := .dict #[] } }) hl' g2 g3 g4 hA fun h1 tk1 kp1 => ?_)
  rw [if_pos (by rfl)]
  refine wpAny_bind (wpAny_rule ?_)
  have k1 : ∀ b o, s.heap.get? b = some o → h1.get? b = some o := fun b o e => kp1 b o (Heap.get?_push_of_some _ e)
  have hd1 : h1.DictOf (mixKind prog w) s.heap.objs.size [] := by
    obtain ⟨o, es, ep, q1, q2⟩ := hnew
    exact ⟨o, es, ep, kp1 _ _ q1, q2⟩
  refine wpAny_bind (wpAny_pyIter_list (items := items.toArray) ⟨ol, k1 _ _ g1, g2, n3, g3⟩ ?_)
  refine wpAny_pure ⟨plainId_quiet plain_dict_loop _, ?_⟩
  have hsz : s.heap.objs.size < h1.objs.size := by obtain ⟨o, es, ep, q1, q2⟩ := hd1; exact Heap.lt_size q1
  refine dict_loop (h0 := s.heap) (by exact hA) pr ⟨ol, g1, g2, n3, g3⟩ (Heap.get?_none_of_le (Nat.le_refl _)) (Heap.get?_none_of_le (Nat.le_of_lt hsz)) (Nat.ne_of_lt hsz) hz items.length 0 _ [] _ rfl (Nat.zero_le _) ⟨_, Heap.get?_push_size _ rfl, rfl, rfl⟩ (hd1.push _) (fun b o e => Heap.get?_push_of_some _ (k1 b o e)) (Nat.zero_le _) fun h' tk' hd' kp' => ?_
  exact ⟨rfl, h h' tk' hd' kp'⟩
end L2

namespace L2
open PySem PySem.Spec PyProof.Rows
/-! ### dict(list of pairs) -/
def rDict : List V → Hp → VK → Prop := fun xs H Q => ∃ p rows kvs, xs = [.ref p] ∧ H p = some (.lst rows) ∧ Paired (fun (v : V) (kv : Key × V) => ∃ t, v = .ref t ∧ H t = some (.tup [kV kv.1, kv.2])) rows kvs ∧ ∀ d, H d = none → Q (.ref d) (upd H d (.dK (mergeK [] kvs)))
theorem kv_fold : ∀ {more : List (Key × V)} {ms : List (Key × Value)} {kvs : List (Key × V)} {vs : List (Key × Value)}, KV kvs vs → KV more ms → KV (mergeK kvs more) (foldP ms vs)
  | _, _, _, _, h, .nil => h
  | p :: r, q :: s, kvs, vs, h, .cons e t => by
    obtain ⟨e1, e2⟩ := e
    show KV (mergeK (putK kvs p.1 p.2) r) (foldP s (stored vs q.1 q.2))
    rw [← e1]
    exact kv_fold (h.put p.1 e2) t
theorem rows_kv {X : Cx} {pins : List (Addr × Obj)} {σ : St} {H : Hp} {s : Shared} (I : Inv X pins σ H s) : ∀ {rows : List V} {kvs : List (Key × V)} {its : List Value}, Paired (fun (v : V) (kv : Key × V) => ∃ t, v = .ref t ∧ H t = some (.tup [kV kv.1, kv.2])) rows kvs → Vals rows its →
    ∃ ms : List (Key × Value), KV kvs ms ∧ Paired (fun (v : Value) (p : Key × Value) => ∃ t kv, v = .ref t ∧ IsTup s.heap t #[kv, p.2] ∧ keyIs p.1 kv = true) its ms
  | _, _, _, .nil, .nil => ⟨[], .nil, .nil⟩
  | v :: rows, kv :: kvs, u :: its, .cons h t, .cons r rr => by
    obtain ⟨ms, h1, h2⟩ := rows_kv I t rr
    obtain ⟨a, rfl, ha⟩ := h
    cases (show u = Value.ref a from r)
    obtain ⟨_, its', rv, ht⟩ := (show ObjOk X.prog X.w H s.heap a (.tup [kV kv.1, kv.2]) from I.hok a _ ha)
    obtain ⟨k', v', rfl, rk, rv'⟩ := vals2 rv
    exact ⟨(kv.1, v') :: ms, .cons ⟨rfl, rv'⟩ h1, .cons ⟨a, k', rfl, ht, kV_is (P := X.prog) (w := X.w) rk⟩ h2⟩
theorem call_dictL {X : Cx} (hc : X.calm = true) : CallR X (.type "dict") rDict := by
  intro pins s σ H xs us Q I r h
  obtain ⟨p, rows, kvs, rfl, hp, pr, q⟩ := h
  obtain ⟨u, rfl, ru⟩ := vals1 r
  cases ru
  obtain ⟨hz, its, n, rv, hg⟩ := (show ObjOk X.prog X.w H s.heap p (.lst rows) from I.hok p _ hp)
  obtain ⟨ms, h1, h2⟩ := rows_kv I pr rv
  refine call_dict_list (I.ok.hd hc) h2 ⟨_, hg, rfl, n, rfl, rfl⟩ (by rw [← rv.length]; exact hz) fun h' tk hd kp => ?_
  refine ⟨.ref s.heap.objs.size, _, I.laid (t' := tk) kp (Nat.le_refl _) ?_, rfl, q _ (I.hok.fresh (Nat.le_refl _))⟩
  refine dk_new ?_ ?_ (kv_fold .nil h1) hd
  · refine Nat.le_trans (length_mergeK kvs []) ?_
    rw [List.length_nil, Nat.zero_add, ← pr.length]; exact hz
  · have := I.big
    exact beq_eq_false_iff_ne.mpr (Nat.ne_of_gt this)
def pairsD : List PyData → Option (List (PyData × PyData))
  | [] => some []
  | .tuple [k, v] :: r => (keyD k).bind fun _ => (pairsD r).map fun ps => (k, v) :: ps
  | _ => none
def dictD : GF
  | [.list rows] => (pairsD rows).map fun ps => (.dict (dmergeD [] ps), true)
  | _ => none
theorem rps_pairs {A : Addr → Prop} {H : Hp} : ∀ {rows : List PyData} {vs : List V} {ps : List (PyData × PyData)}, Rps (Offs A H) rows vs → pairsD rows = some ps →
    ∃ kvs : List (Key × V), Rpd (Offs A H) ps kvs ∧ Paired (fun (v : V) (kv : Key × V) => ∃ t, v = .ref t ∧ H t = some (.tup [kV kv.1, kv.2])) vs kvs
  | [], vs, ps, h, e => by unfold Rps at h; cases e; subst h; exact ⟨[], rpd_nil, .nil⟩
  | d :: rows, vs, ps, h, e => by
    unfold Rps at h
    obtain ⟨v, ws, rfl, h1, h2⟩ := h
    unfold pairsD at e
    split at e
    · rename_i heq; cases heq
    · rename_i k d' r heq
      cases heq
      obtain ⟨kk, ek, e⟩ := Option.bind_eq_some_iff.mp e
      obtain ⟨ps', ep, rfl⟩ := Option.map_eq_some_iff.mp e
      obtain ⟨kvs, g1, g2⟩ := rps_pairs h2 ep
      obtain ⟨a, xs, rfl, ha, r⟩ := rp_tuple h1
      obtain ⟨x, y, rfl, r1, r2⟩ := rps2 r
      rw [key_v r1 ek] at ha
      exact ⟨(kk, y) :: kvs, rpd_cons ek r2 g1, .cons ⟨a, rfl, off_at ha⟩ g2⟩
    · cases e
theorem sc_dict : SC rDict dictD := by
  intro A H vs ds hA rv d fr e Q q
  unfold dictD at e
  split at e
  · obtain ⟨ps, he, e⟩ := Option.map_eq_some_iff.mp e
    cases e
    obtain ⟨v, rfl, r1⟩ := rps1 rv
    obtain ⟨p, xs, rfl, h1, r⟩ := rp_list r1
    obtain ⟨kvs, g1, g2⟩ := rps_pairs r he
    refine ⟨p, xs, kvs, rfl, off_at h1, g2, fun d hd => ?_⟩
    have m : ∀ {B : Addr → Prop}, (∀ b, B b → A b ∨ b = d) → Rpd (Offs B (upd H d (.dK (mergeK [] kvs)))) (dmergeD [] ps) (mergeK [] kvs) := fun {B} hB => Rpd.merge rpd_nil (Rpd.same (Offs.mono (Same.new hd) fun b o eo n z => (hB b z).elim n fun y => by rw [y, hd] at eo; cases eo) _ g1)
    exact q _ _ (Same.new hd) (rp_mk_dict (by rw [Offs.get (off_new hA hd)]; exact upd_same) (m fun b z => .inl z)) fun _ => ⟨d, rfl, hd, ⟨_, upd_same, m fun b z => z⟩⟩
  · cases e
/-! ### x.append(y.pop(e)), both own -/
def sAppPop (i j : Nat) (f : EF) : SF := fun env => match env[i]?, env[j]? with
  | some (.ac (.list ds)), some (.ac (.list es)) => (f env).bind fun r => match r.d with
    | .int k => if 0 ≤ k ∧ k < 100000 ∧ ds.length < 100000 ∧ i ≠ j then (es[k.toNat]?).bind fun d => some (.nx ((env.set j (.ac (.list (es.eraseIdx k.toNat)))).set i (.ac (.list (ds ++ [d]))))) else none
    | _ => none
  | _, _ => none
theorem Rps.erase {H : Hp} {ds : List PyData} {vs : List V} (h : Rps H ds vs) (n : Nat) : Rps H (ds.eraseIdx n) (vs.eraseIdx n) := by
  induction n generalizing ds vs with
  | zero =>
    cases ds with
    | nil => unfold Rps at h; subst h; exact rps_nil
    | cons d ds => unfold Rps at h; obtain ⟨v, ws, rfl, h1, h2⟩ := h; exact h2
  | succ n ih =>
    cases ds with
    | nil => unfold Rps at h; subst h; exact rps_nil
    | cons d ds => unfold Rps at h; obtain ⟨v, ws, rfl, h1, h2⟩ := h; exact rps_cons h1 (ih h2)
theorem ss_apppop {K : PySem.W.Frag} {i j : Nat} {te : TE} {f : EF} (h1 : SE te f) : SS (tDrop (tBM K "list" rAppend (tVar i) (tCons (tBM K "list" rPopAt (tVar j) (tCons te tNil)) tNil))) (sAppPop i j f) := by
  intro fx H0 env σ H D h o e q
  unfold sAppPop at e
  split at e
  · rename_i ds es ei ej
    obtain ⟨⟨rd, rfr, rbs⟩, er, e⟩ := Option.bind_eq_some_iff.mp e
    cases rd with
    | int k =>
      have e : (if 0 ≤ k ∧ k < 100000 ∧ ds.length < 100000 ∧ i ≠ j then (es[k.toNat]?).bind fun d => some (Out.nx ((env.set j (.ac (.list (es.eraseIdx k.toNat)))).set i (.ac (.list (ds ++ [d]))))) else none) = some o := e
      split at e
      · rename_i hl
        obtain ⟨d, ed, e⟩ := Option.bind_eq_some_iff.mp e
        cases e
        obtain ⟨a, g1, g2, g3, g4⟩ := h.ac i _ ei
        obtain ⟨xs, hx, rx⟩ := g4
        obtain ⟨b, k1, k2, k3, k4⟩ := h.ac j _ ej
        obtain ⟨ys, hy, ry⟩ := k4
        have hab : a ≠ b := fun z => hl.2.2.2 (h.inj i j _ _ a ei ej g1 (by rw [z]; exact k1))
        refine ⟨_, g1, .inl ⟨rfl, _, SqL.of hx⟩, _, k1, .inl ⟨rfl, _, SqL.of hy⟩, h1 fx H0 env σ H h _ er _ fun v H' s hv => ?_⟩
        cases rp_int hv.rp
        have h' := h.up s
        have hy' := s _ _ hy
        have hx' := s _ _ hx
        have ry' : Rps (Offs (fun b => fx b ∨ own env σ b) H') es ys := Rps.same (Offs.grow s) _ ry
        have rx' : Rps (Offs (fun b => fx b ∨ own env σ b) H') ds xs := Rps.same (Offs.grow s) _ rx
        obtain ⟨u, hu, ru⟩ := ry'.get2 ed
        have hlt : k.toNat < ys.length := (List.getElem?_eq_some_iff.mp hu).1
        have hsq : seqIndex? k ys.length = some k.toNat := seqIndex_of hl.1 (by omega)
        refine ⟨b, ys, k, k.toNat, u, rfl, rfl, hy', by omega, by omega, hsq, hu, ?_⟩
        have h2 := h'.mut ej k1 (d' := .list (es.eraseIdx k.toNat)) (o := .lst (ys.eraseIdx k.toNat)) ⟨_, upd_same, ry'.erase _⟩
        have ei2 : (env.set j (.ac (.list (es.eraseIdx k.toNat))))[i]? = some (.ac (.list ds)) := by rw [List.getElem?_set_ne (Ne.symm hl.2.2.2)]; exact ei
        have hx2 : (upd H' b (.lst (ys.eraseIdx k.toNat))) a = some (.lst xs) := by rw [upd_ne hab]; exact hx'
        obtain ⟨a', z1, _, _, z4⟩ := h2.ac i _ ei2
        rw [g1] at z1
        cases z1
        obtain ⟨zs, y1, y2⟩ := z4
        rw [hx2] at y1
        cases y1
        have ow : Same (Offs (fun b => fx b ∨ own env σ b) H') (Offs (fun c => fx c ∨ own (env.set j (.ac (.list (es.eraseIdx k.toNat)))) σ c) (upd H' b (.lst (ys.eraseIdx k.toNat)))) := by
          have t : Same (Offs (fun b => fx b ∨ own env σ b) (upd H' b (.lst (ys.eraseIdx k.toNat)))) (Offs (fun c => fx c ∨ own (env.set j (.ac (.list (es.eraseIdx k.toNat)))) σ c) (upd H' b (.lst (ys.eraseIdx k.toNat)))) := Offs.sub fun c z => z.imp (fun y => y) fun ⟨m, d1, w1, w2⟩ => by
            rcases set_get w1 with ⟨rfl, _⟩ | ⟨_, w1⟩
            · exact ⟨m, _, ej, w2⟩
            · exact ⟨m, d1, w1, w2⟩
          rw [Offs.upd (.inr ⟨j, _, ej, k1⟩)] at t
          exact t
        refine ⟨a, xs, u, rfl, rfl, hx2, size_lt (by rw [← rx.length]; exact hl.2.2.1), ?_⟩
        exact q σ _ (h2.mut ei2 g1 ⟨_, upd_same, y2.append (rps_cons (Rp.same ow _ ru) rps_nil)⟩)
      · cases e
    | _ => cases e
  · cases e
end L2

namespace L2
open PySem PySem.Spec PyProof.Rows
/-! ### f(k = v, ..), all by name -/
/-! ### x[e] of a name's own things: the items stand apart -/
def eDGetV (i : Nat) (b : EF) : EF := fun env => match env[i]? with
  | some (.pl (.dict kvs)) => (b env).bind fun y => (keyD y.d).bind fun k => (dgetD kvs k).bind fun d => some ⟨d, false, []⟩
  | some (.ac (.dict kvs)) => (b env).bind fun y => (keyD y.d).bind fun k => (dgetD kvs k).bind fun d => some ⟨d, false, []⟩
  | _ => none
theorem se_dgetv {i : Nat} {ty : TE} {fb : EF} (hb : SE ty fb) : SE (tDGet (tVar i) ty) (eDGetV i fb) := by
  intro fx H0 env σ H h rr hr Q q
  unfold eDGetV at hr
  have key : ∀ (a : Addr) (ps : List (Key × V)) (kvs : List (PyData × PyData)), σ[i]? = some (some (.ref a)) → H a = some (.dK ps) → Rpd (Offs (fun b => fx b ∨ own env σ b) H) kvs ps → ((fb env).bind fun y => (keyD y.d).bind fun k => (dgetD kvs k).bind fun d => some (⟨d, false, []⟩ : Val)) = some rr → tDGet (tVar i) ty σ H Q := by
    intro a ps kvs hs ha r hr
    obtain ⟨y, ey, hr⟩ := Option.bind_eq_some_iff.mp hr
    obtain ⟨k, ek, hr⟩ := Option.bind_eq_some_iff.mp hr
    obtain ⟨d, ed, hr⟩ := Option.bind_eq_some_iff.mp hr
    cases hr
    refine ⟨_, hs, hb fx H0 env σ H h _ ey _ fun u H2 s2 v2 => ?_⟩
    have g := (Rpd.same (Offs.grow s2) _ r).get (j := k)
    rw [ed] at g
    obtain ⟨w, e1, e2⟩ := g
    rw [key_v v2.rp ek]
    have dg := DGet.k (k := k) (s2 _ _ ha)
    rw [e1] at dg
    exact ⟨a, w, rfl, dg, q w H2 s2 ⟨Rp.same (Offs.sub lim_own) _ e2, fun z => by cases z⟩⟩
  split at hr
  · rename_i kvs ei
    obtain ⟨v, h1, h2⟩ := h.pl i _ ei
    obtain ⟨a, ps, rfl, ha, r⟩ := rp_dict h2
    exact key a ps kvs h1 (off_at ha) r hr
  · rename_i kvs ei
    obtain ⟨a, h1, h2, h3, ps, ha, r⟩ := h.ac i _ ei
    exact key a ps kvs h1 ha r hr
  · cases hr
def eIxV (i : Nat) (b : EF) : EF := fun env => match env[i]? with
  | some (.ac (.list ds)) => (b env).bind fun y => match y.d with
    | .int k => (atI ds k).map fun d => ⟨d, false, []⟩
    | _ => none
  | _ => eOp ixD (eVar i) b env
theorem se_ixv {K : PySem.W.Frag} {i : Nat} {tb : TE} {fb : EF} (hb : SE tb fb) : SE (tOp (rIxU K) (tVar i) tb) (eIxV i fb) := by
  intro fx H0 env σ H h rr hr Q q
  unfold eIxV at hr
  split at hr
  · rename_i ds ei
    obtain ⟨⟨dy, fy, bys⟩, ey, hr⟩ := Option.bind_eq_some_iff.mp hr
    cases dy with
    | int k =>
      obtain ⟨d, ed, rfl⟩ := Option.map_eq_some_iff.mp hr
      obtain ⟨a, h1, h2, h3, xs, ha, r⟩ := h.ac i _ ei
      refine ⟨_, h1, hb fx H0 env σ H h _ ey _ fun u H2 s2 v2 => ?_⟩
      cases rp_int v2.rp
      obtain ⟨v, hv, rv⟩ := (Rps.same (Offs.grow s2) _ r).atI ed
      exact ⟨xs, v, .inl (SqL.of (s2 _ _ ha)), hv, q _ H2 s2 ⟨Rp.same (Offs.sub lim_own) _ rv, fun z => by cases z⟩⟩
    | _ => cases hr
  · exact se_op so_ix (se_var i) hb fx H0 env σ H h rr hr Q q
end L2

namespace Bc
open PySem L2
def F_names_of : SF := (sRet (eComp ["name", "elders"] [] (iItems (eVar 0)) (gT 2 (gsCons 0 (gsCons 1 gsNil))) tAllF (eVar 0)))
def G_names_of : GF := fnD 1 F_names_of
def F_check_kinds : SF := (sSeq (sSet 2 (eCall 1 G_names_of (aCons (eVar 0) aNil)))
    (sFor (iItems (eVar 1)) (gN 3)
    (sIf (tBool (eOp (inD true) (eVar 3) (eVar 2))) sNever sNil)))
def G_check_kinds : GF := fnD 4 F_check_kinds
def F_roofs_of : SF := (sSeq (sSet 1 eDNew)
    (sSeq (sFor (iItems (eVar 0)) (gT 2 (gsCons 2 (gsCons 3 gsNil)))
    (sSeq (sSet 4 (eD1 (eVar 2) (eC (.bool true))))
    (sSeq (sFor (iItems (eVar 3)) (gN 5)
    (sUpd 4 (eDGetV 1 (eVar 5))))
    (sPut 1 (eVar 2) (eVar 4)))))
    (sRetV 1)))
def G_roofs_of : GF := fnD 6 F_roofs_of
def F_law_names : SF := (sSeq (sSet 2 (eC (.str "abcdefghijklmnopqrstuvwxyz")))
    (sSeq (sSet 3 (eOp ixD (eTup (aCons (eC (.int 1)) (aCons (eC (.int 3)) (aCons (eC (.int 5)) (aCons (eC (.int 7)) (aCons (eC (.int 9)) (aCons (eC (.int 11)) (aCons (eC (.int 15)) (aCons (eC (.int 17)) aNil))))))))) (eOp modD (eOp fdivD (eVar 1) (eC (.int 3))) (eC (.int 8)))))
    (sSeq (sSet 4 (eOp modD (eOp fdivD (eVar 1) (eC (.int 24))) (eC (.int 26))))
    (sSeq (sSet 5 (eOp mulD (eIxV 2 (eOp modD (eOp fdivD (eVar 1) (eC (.int 624))) (eC (.int 26)))) (eOp modD (eOp fdivD (eVar 1) (eC (.int 16224))) (eC (.int 8)))))
    (sSeq (sSet 6 (eOp modD (eOp fdivD (eVar 1) (eC (.int 129792))) (eOp addD (eCB lenD (aCons (eVar 5) aNil)) (eC (.int 1)))))
    (sSeq (sSet 7 (eLst aNil))
    (sSeq (sFor (iRange1 (aCons (eVar 0) aNil)) (gN 8)
    (sSeq (sSet 9 (eIxV 2 (eOp modD (eOp addD (eVar 4) (eOp mulD (eVar 3) (eVar 8))) (eC (.int 26)))))
    (sIf (tBool (eOp eqD (eOp modD (eVar 1) (eC (.int 3))) (eC (.int 0)))) (sApp 7 (eOp addD (eOp addD (eSl (eVar 5) pNone (pSome (eVar 6))) (eVar 9)) (eSl (eVar 5) (pSome (eVar 6)) pNone))) (sIf (tBool (eOp eqD (eOp modD (eVar 1) (eC (.int 3))) (eC (.int 1)))) (sApp 7 (eOp addD (eSl (eVar 5) pNone (pSome (eOp modD (eOp mulD (eVar 8) (eVar 3)) (eOp addD (eCB lenD (aCons (eVar 5) aNil)) (eC (.int 1)))))) (eVar 9))) (sApp 7 (eOp mulD (eIxV 2 (eOp modD (eOp addD (eVar 4) (eOp fdivD (eVar 8) (eC (.int 8)))) (eC (.int 26)))) (eOp addD (eC (.int 1)) (eOp modD (eOp mulD (eVar 8) (eVar 3)) (eC (.int 8))))))))))
    (sRetV 7))))))))
def G_law_names : GF := fnD 10 F_law_names
def F_law_net : SF := (sSeq (sSet 2 (eLst aNil))
    (sSeq (sFor (iEnumF (aCons (eVar 1) aNil)) (gT 2 (gsCons 3 (gsCons 4 gsNil)))
    (sSeq (sSet 5 (eSl (eVar 1) pNone (pSome (eVar 3))))
    (sSeq (sSet 6 (eOp fdivD (eIxV 0 (eVar 3)) (eC (.int 5))))
    (sSeq (sSet 7 (eLst aNil))
    (sSeq (sFor (iRange1 (aCons (eCB minD (aCons (eOp modD (eIxV 0 (eVar 3)) (eC (.int 5))) (aCons (eVar 3) aNil))) aNil)) (gN 8)
    (sSeq (sSet 9 (eOp modD (eVar 6) (eCB lenD (aCons (eVar 5) aNil))))
    (sSeq (sSet 6 (eOp fdivD (eVar 6) (eCB lenD (aCons (eVar 5) aNil))))
    (sAppPop 7 5 (eVar 9)))))
    (sApp 2 (eTup (aCons (eVar 4) (aCons (eVar 7) aNil)))))))))
    (sRetV 2)))
def G_law_net : GF := fnD 10 F_law_net
def F_law_up : SF := (sSeq (sSet 1 eDNew)
    (sSeq (sFor (iItems (eVar 0)) (gT 2 (gsCons 2 (gsCons 3 gsNil)))
    (sSeq (sSet 4 (eLst (aCons (eVar 2) aNil)))
    (sSeq (sFor (iItems (eVar 3)) (gN 5)
    (sFor (iItems (eDGetV 1 (eVar 5))) (gN 6)
    (sIf (tBool (eOp (inD true) (eVar 6) (eVar 4))) (sApp 4 (eVar 6)) sNil)))
    (sPut 1 (eVar 2) (eVar 4)))))
    (sRetV 1)))
def G_law_up : GF := fnD 7 F_law_up
end Bc

namespace Bc
open PySem L2
/-! ### loops and comprehensions over written-out data -/
theorem compL_filter {α : Type} {enc out : α → PyData} {g : GT} {t : TF} {e : EF} {env : DEnv} (p : α → Bool) : ∀ {l : List α}, (∀ x ∈ l, ∃ e1, g (enc x) env = some e1 ∧ t e1 = some (p x) ∧ (p x = true → ∃ r, e e1 = some r ∧ r.d = out x)) →
    compL g t e env (l.map enc) = some ((l.filter p).map out)
  | [], _ => rfl
  | x :: l, h => by
    obtain ⟨e1, h1, h2, h3⟩ := h x List.mem_cons_self
    have ih := compL_filter (l := l) p fun y hy => h y (List.mem_cons_of_mem _ hy)
    rw [List.map_cons]
    unfold compL
    rw [h1, Option.bind_some, h2, Option.bind_some]
    cases hp : p x with
    | false =>
      rw [if_neg Bool.false_ne_true, ih, List.filter_cons, hp]; rfl
    | true =>
      obtain ⟨r, h4, h5⟩ := h3 hp
      rw [if_pos rfl, h4, Option.bind_some, ih, List.filter_cons, hp]
      simp [h5]
theorem compL_map {α : Type} {enc out : α → PyData} {g : GT} {t : TF} {e : EF} {env : DEnv} {l : List α} (h : ∀ x ∈ l, ∃ e1, g (enc x) env = some e1 ∧ t e1 = some true ∧ ∃ r, e e1 = some r ∧ r.d = out x) : compL g t e env (l.map enc) = some (l.map out) := by
  have q := compL_filter (enc := enc) (out := out) (g := g) (t := t) (e := e) (env := env) (fun _ => true) (l := l) fun x hx => let ⟨e1, h1, h2, h3⟩ := h x hx; ⟨e1, h1, h2, fun _ => h3⟩
  rw [q]
  congr 2
  exact List.filter_eq_self.mpr fun _ _ => rfl
/-- a loop that runs through -/
theorem forL_run {α : Type} {enc : α → PyData} {g : GT} {body : SF} (I : List α → DEnv → Prop) (all : List α) : ∀ (l pre : List α) (env : DEnv), pre ++ l = all → I pre env →
    (∀ pre x post env, pre ++ x :: post = all → I pre env → ∃ e1 e2, g (enc x) env = some e1 ∧ (body e1 = some (.nx e2) ∨ body e1 = some (.ct e2)) ∧ I (pre ++ [x]) e2) → ∃ env', forL g body (l.map enc) env = some (.nx env') ∧ I all env'
  | [], pre, env, hall, h0, hs => by
    rw [List.append_nil] at hall
    subst hall
    exact ⟨env, rfl, h0⟩
  | x :: l, pre, env, hall, h0, hs => by
    obtain ⟨e1, e2, h1, h2, h3⟩ := hs pre x l env hall h0
    obtain ⟨env', h4, h5⟩ := forL_run I all l (pre ++ [x]) e2 (by rw [← hall]; simp) h3 hs
    refine ⟨env', ?_, h5⟩
    rw [List.map_cons]
    unfold forL
    rw [h1, Option.bind_some]
    rcases h2 with h2 | h2 <;> rw [h2, Option.bind_some] <;> exact h4
theorem forL_runs {α : Type} {enc : α → PyData} {g : GT} {body : SF} {l : List α} {env : DEnv} (I : List α → DEnv → Prop) (h0 : I [] env) (hs : ∀ pre x post env, pre ++ x :: post = l → I pre env → ∃ e1 e2, g (enc x) env = some e1 ∧ (body e1 = some (.nx e2) ∨ body e1 = some (.ct e2)) ∧ I (pre ++ [x]) e2) :
    ∃ env', forL g body (l.map enc) env = some (.nx env') ∧ I l env' := forL_run I l l [] env rfl h0 hs
/-- a loop that may leave with an answer -/
theorem forL_find {α : Type} {enc : α → PyData} {g : GT} {body : SF} (p : α → Bool) (d : PyData) (fr : Bool) (I : DEnv → Prop) : ∀ (l : List α) (env : DEnv), I env →
    (∀ x ∈ l, ∀ env, I env → ∃ e1, g (enc x) env = some e1 ∧ (p x = true → ∃ e2, body e1 = some (.nx e2) ∧ I e2) ∧ (p x = false → body e1 = some (.rt d fr))) →
    (l.all p = true → ∃ env', forL g body (l.map enc) env = some (.nx env') ∧ I env') ∧ (l.all p = false → forL g body (l.map enc) env = some (.rt d fr))
  | [], env, h0, hs => ⟨fun _ => ⟨env, rfl, h0⟩, fun h => by simp at h⟩
  | x :: l, env, h0, hs => by
    obtain ⟨e1, h1, h2, h3⟩ := hs x List.mem_cons_self env h0
    rw [List.map_cons, List.all_cons]
    unfold forL
    rw [h1, Option.bind_some]
    cases hp : p x with
    | false =>
      rw [h3 hp, Option.bind_some]
      exact ⟨fun h => by simp at h, fun _ => rfl⟩
    | true =>
      obtain ⟨e2, h4, h5⟩ := h2 hp
      rw [h4, Option.bind_some]
      exact forL_find p d fr I l e2 h5 fun y hy => hs y (List.mem_cons_of_mem _ hy)
theorem law_end {t : TS} {F : SF} (hs : SS t F) {env : DEnv} {σ : St} {H1 : Hp} {Q : VK} {nx : St → Hp → Prop} (hE : EnvOk (fun _ => False) H1 env σ H1) (e : F env = some (.rt (.bool true) false)) (k : ∀ H', Q (.bl true) H') : t { nx := nx, rt := Q } σ H1 := by
  refine hs _ H1 env σ H1 _ hE _ e fun v H s rt => ?_
  rw [show v = .bl true from rp_bool rt.1]
  exact k H
def intsD (cs : List Int) : PyData := .list (cs.map .int)
theorem rps_ints {H : Hp} : ∀ (cs : List Int), Rps H (cs.map .int) (cs.map .int)
  | [] => rps_nil
  | c :: cs => rps_cons rp_mk_int (rps_ints cs)
/-- the env behind the first row of a law: the script, the cells -/
def envL (n : Nat) (cs : List Int) : DEnv := .no :: .pl (intsD cs) :: List.replicate n .no
theorem env_law {H1 : Hp} {a pc : Addr} {cs : List Int} {n : Nat} (e : H1 pc = some (.lst (cs.map .int))) : EnvOk (fun _ => False) H1 (envL n cs) (some (.ref a) :: some (.ref pc) :: List.replicate n none) H1 := by
  have no : ∀ (i : Nat) (d : PyData), (envL n cs)[i]? ≠ some (Sl.ac d) := fun i d => by
    unfold envL
    cases i with
    | zero => simp
    | succ i => cases i with
      | zero => simp
      | succ i => simp [List.getElem?_replicate]
  refine ⟨by unfold envL; simp, fun i d h => ?_, fun i d h => absurd h (no i d), fun i j d e a h => absurd h (no i d), Same.refl _, fun b z => z.elim⟩
  unfold envL at h
  cases i with
  | zero => simp at h
  | succ i => cases i with
    | zero =>
      simp at h
      subst h
      refine ⟨.ref pc, rfl, rp_mk_list ?_ (rps_ints cs)⟩
      rw [Offs.get]
      · exact e
      · rintro (z | ⟨j, d', z, _⟩)
        · exact z
        · exact no j d' z
    | succ i => simp [List.getElem?_replicate] at h
/-! ### one statement after the other -/
theorem seq_nx {f g : SF} {env e1 : DEnv} {o : Option Out} (h : f env = some (.nx e1)) (k : g e1 = o) : sSeq f g env = o := by unfold sSeq; rw [h]; exact k
theorem seq_rt {f g : SF} {env : DEnv} {d : PyData} {fr : Bool} (h : f env = some (.rt d fr)) : sSeq f g env = some (.rt d fr) := by unfold sSeq; rw [h]; rfl
theorem for_list {f : EF} {g : GT} {b : SF} {env : DEnv} {ds : List PyData} {fr : Bool} {bs : List Nat} {o : Option Out} (h : f env = some ⟨.list ds, fr, bs⟩) (k : forL g b ds (frzs env bs) = o) : sFor (iItems f) g b env = o := by
  unfold sFor iItems; rw [h]; exact k
theorem for_is {f : IF'} {g : GT} {b : SF} {env : DEnv} {ds : List PyData} {bs : List Nat} {o : Option Out} (h : f env = some (ds, bs)) (k : forL g b ds (frzs env bs) = o) : sFor f g b env = o := by
  unfold sFor; rw [h]; exact k
theorem if_t {c : TF} {f g : SF} {env : DEnv} {o : Option Out} (h : c env = some true) (k : f env = o) : sIf c f g env = o := by unfold sIf; rw [h]; exact k
theorem if_f {c : TF} {f g : SF} {env : DEnv} {o : Option Out} (h : c env = some false) (k : g env = o) : sIf c f g env = o := by unfold sIf; rw [h]; exact k
theorem set_is {i : Nat} {f : EF} {env : DEnv} {r : Val} (h : f env = some r) : sSet i f env = some (.nx (putV env i r)) := by unfold sSet; rw [h]; rfl
theorem expr_is {f : EF} {env : DEnv} {r : Val} (h : f env = some r) : sExpr f env = some (.nx env) := by unfold sExpr; rw [h]; rfl
theorem ret_is {f : EF} {env : DEnv} {d : PyData} {fr : Bool} {bs : List Nat} (h : f env = some ⟨d, fr, bs⟩) : sRet f env = some (.rt d fr) := by unfold sRet; rw [h]; rfl
theorem call_is {n : Nat} {g : GF} {f : AF} {env : DEnv} {rs : List Val} {d : PyData} {fr : Bool} (h : f env = some rs) (hn : rs.length = n) (k : g (datas rs) = some (d, fr)) : eCall n g f env = some ⟨d, fr, bsOf d (bss rs)⟩ := by
  unfold eCall; rw [h, Option.bind_some, if_pos hn, k]; rfl
theorem comp_is {own : List Str} {fr : List Nat} {fi : IF'} {g : GT} {t : TF} {e : EF} {env : DEnv} {ds : List PyData} {bs : List Nat} {rs : List PyData} (h : fi env = some (ds, bs)) (hl : ds.length < 100000) (k : compL g t e (envB own fr env) ds = some rs) :
    eComp own fr fi g t e env = some ⟨.list rs, true, if flatsD rs = true then [] else bs ++ capA fr env⟩ := by
  unfold eComp; rw [h, Option.bind_some, if_pos hl, k]; rfl
theorem fn_rt {n : Nat} {f : SF} {ds : List PyData} {env : DEnv} {d : PyData} {fr : Bool} (h : startD n ds = env) (e : f env = some (.rt d fr)) : fnD n f ds = some (d, fr) := by
  unfold fnD; rw [h, e]
end Bc

namespace Bc
open PySem L2
def strsD (xs : List Str) : PyData := .list (xs.map .str)
def rowD (p : Str × List Str) : PyData := .tuple [.str p.1, strsD p.2]
def webD (W : Web) : PyData := .list (W.map rowD)
theorem flats_strs (xs : List Str) : flatsD (xs.map .str) = true := by
  unfold flatsD
  rw [List.all_map]
  exact List.all_eq_true.mpr fun _ _ => rfl
theorem any_strs (xs : List Str) (x : Str) : ((xs.map PyData.str).any fun e => PyData.eqv e (.str x)) = decide (x ∈ xs) := by
  rw [List.any_map, Bool.eq_iff_iff, List.any_eq_true, decide_eq_true_iff]
  constructor
  · rintro ⟨y, hy, h⟩
    have : y = x := by simpa [PyData.eqv] using h
    rw [← this]; exact hy
  · exact fun h => ⟨x, h, by simp [PyData.eqv]⟩
theorem in_strs (b : Bool) (xs : List Str) (x : Str) : inD b (.str x) (strsD xs) = some (.bool (if b then !decide (x ∈ xs) else decide (x ∈ xs)), false) := by
  unfold inD strsD
  simp only [itemsD]
  rw [if_pos ⟨rfl, flats_strs xs⟩, any_strs]
theorem g_names_of {W : Web} (hl : W.length < 100000) : G_names_of [webD W] = some (strsD (nm W), true) := by
  have c : compL (gT 2 (gsCons 0 (gsCons 1 gsNil))) tAllF (eVar 0) [.no, .no] (W.map rowD) = some (W.map fun p => PyData.str p.1) := compL_map fun p _ => ⟨[.pl (.str p.1), .pl (strsD p.2)], rfl, rfl, ⟨.str p.1, false, []⟩, rfl, rfl⟩
  have e : F_names_of [.pl (webD W)] = some (.rt (strsD (nm W)) true) := by
    unfold F_names_of sRet eComp iItems
    simp only [eVar, List.getElem?_cons_zero, Option.bind_some, webD, itemsD, Option.map_some, List.length_map]
    rw [if_pos hl]
    show Option.map _ (Option.map _ (compL _ _ _ [.no, .no] _)) = _
    rw [c]
    unfold strsD nm
    simp
  show (match F_names_of [.pl (webD W)] with | some (.rt d fr) => some (d, fr) | some (.nx _) => some (.none, false) | _ => none) = _
  rw [e]
theorem g_check_kinds {W : Web} (hl : W.length < 100000) {ns : List Str} (h : ∀ n ∈ ns, n ∈ nm W) : G_check_kinds [webD W, strsD ns] = some (.none, false) := by
  have l : ∃ env', forL (gN 3) (sIf (tBool (eOp (inD true) (eVar 3) (eVar 2))) sNever sNil) (ns.map .str) [.pl (webD W), .pl (strsD ns), .ac (strsD (nm W)), .no] = some (.nx env') ∧ True := by
    refine forL_runs (fun _ env => ∃ s, env = [.pl (webD W), .pl (strsD ns), .ac (strsD (nm W)), s]) ⟨_, rfl⟩ ?_ |>.imp fun _ q => ⟨q.1, trivial⟩
    rintro pre x post env hx ⟨s, rfl⟩
    have hm := h x (by rw [← hx]; simp)
    refine ⟨_, [.pl (webD W), .pl (strsD ns), .ac (strsD (nm W)), .pl (.str x)], rfl, .inl ?_, _, rfl⟩
    simp [sIf, tBool, eOp, eVar, sNil, in_strs, hm, bsOf, flatD]
  obtain ⟨env', l, _⟩ := l
  have e : F_check_kinds [.pl (webD W), .pl (strsD ns), .no, .no] = some (.nx env') := by
    unfold F_check_kinds sSeq sSet eCall sFor iItems
    simp only [aCons, aNil, eVar, List.getElem?_cons_zero, List.getElem?_cons_succ, Option.bind_some, Option.map_some, datas, List.map_cons, List.map_nil, List.length_cons, List.length_nil, g_names_of hl, if_true]
    simp [putV, frzs, bsOf, strsD, flatD, bss, slOf, itemsD]
    exact l
  show (match F_check_kinds [.pl (webD W), .pl (strsD ns), .no, .no] with | some (.rt d fr) => some (d, fr) | some (.nx _) => some (.none, false) | _ => none) = _
  rw [e]
end Bc

namespace Bc
open PySem L2
/-! ### what each kind stands on -/
def insS (ks : List Str) (k : Str) : List Str := if k ∈ ks then ks else ks ++ [k]
def upL (acc : List (Str × List Str)) (e : Str) : List Str := (acc.lookup e).getD []
def upsStep (acc : List (Str × List Str)) (p : Str × List Str) : List (Str × List Str) := acc ++ [(p.1, p.2.foldl (fun ks e => (upL acc e).foldl insS ks) [p.1])]
def ups (W : Web) : List (Str × List Str) := W.foldl upsStep []
def up (W : Web) (n : Str) : List Str := upL (ups W) n
theorem ups_snoc (W : Web) (p : Str × List Str) : ups (W ++ [p]) = upsStep (ups W) p := by unfold ups; rw [List.foldl_append]; rfl
theorem mem_insS {ks : List Str} {k x : Str} : x ∈ insS ks k ↔ x ∈ ks ∨ x = k := by
  unfold insS
  split
  · rename_i h
    exact ⟨.inl, fun z => z.elim id fun e => e ▸ h⟩
  · simp
theorem mem_insSs {x : Str} : ∀ {ms ks : List Str}, x ∈ ms.foldl insS ks ↔ x ∈ ks ∨ x ∈ ms
  | [], ks => by simp
  | m :: ms, ks => by
    rw [List.foldl_cons, mem_insSs, mem_insS]
    simp [or_assoc]
theorem nd_insS {ks : List Str} {k : Str} (h : ks.Nodup) : (insS ks k).Nodup := by
  unfold insS
  split
  · exact h
  · rename_i hk; exact nd_snoc h hk
theorem nd_insSs : ∀ {ms ks : List Str}, ks.Nodup → (ms.foldl insS ks).Nodup
  | [], _, h => h
  | _ :: ms, _, h => nd_insSs (ms := ms) (nd_insS h)
theorem mem_ups {acc : List (Str × List Str)} {x : Str} : ∀ {es ks : List Str}, x ∈ es.foldl (fun ks e => (upL acc e).foldl insS ks) ks ↔ x ∈ ks ∨ ∃ e ∈ es, x ∈ upL acc e
  | [], ks => by simp
  | e :: es, ks => by
    rw [List.foldl_cons, mem_ups, mem_insSs]
    simp [or_assoc]
theorem nd_ups {acc : List (Str × List Str)} : ∀ {es ks : List Str}, ks.Nodup → (es.foldl (fun ks e => (upL acc e).foldl insS ks) ks).Nodup
  | [], _, h => h
  | _ :: es, _, h => nd_ups (es := es) (nd_insSs h)
theorem lookup_append {l : List (Str × List Str)} {n : Str} {p : Str × List Str} : (l ++ [p]).lookup n = (l.lookup n).or (if n == p.1 then some p.2 else none) := by
  induction l with
  | nil =>
    obtain ⟨a, b⟩ := p
    show List.lookup n [(a, b)] = _
    rw [List.lookup_cons]
    cases n == a <;> rfl
  | cons q l ih =>
    obtain ⟨a, b⟩ := q
    rw [List.cons_append, List.lookup_cons, List.lookup_cons]
    cases n == a with
    | true => rfl
    | false => exact ih
theorem snocInd {α : Type} {P : List α → Prop} (h0 : P []) (hs : ∀ l x, P l → P (l ++ [x])) : ∀ l, P l := by
  intro l
  have : ∀ n (l : List α), l.length = n → P l := by
    intro n
    induction n with
    | zero => intro l e; rw [List.length_eq_zero_iff.mp e]; exact h0
    | succ n ih =>
      intro l e
      have hne : l ≠ [] := fun z => by rw [z] at e; cases e
      rw [← List.dropLast_concat_getLast hne]
      exact hs _ _ (ih _ (by rw [List.length_dropLast, e]; rfl))
  exact this _ l rfl
theorem keys_ups : ∀ (W : Web), (ups W).map (·.1) = nm W := by
  refine snocInd rfl fun W p ih => ?_
  rw [ups_snoc]
  unfold upsStep nm
  rw [List.map_append, List.map_append, ih]
  rfl
theorem nm_snoc (W : Web) (p : Str × List Str) : nm (W ++ [p]) = nm W ++ [p.1] := by unfold nm; rw [List.map_append]; rfl
theorem webOk_snoc {W : Web} {p : Str × List Str} (h : WebOk (W ++ [p])) : WebOk W ∧ p.1 ∉ nm W ∧ (∀ e ∈ p.2, e ∈ nm W) ∧ p.2.length ≤ 4 := by
  have hp : (W ++ [p])[W.length]? = some p := by simp
  refine ⟨⟨?_, fun i n es e => ?_, fun q hq => h.few q (List.mem_append_left _ hq), ?_⟩, ?_, fun e he => ?_, h.few p (by simp)⟩
  · have := h.nd; rw [nm_snoc] at this; exact (List.nodup_append.mp this).1
  · have hi : i < W.length := (List.getElem?_eq_some_iff.mp e).1
    have q := h.el i n es (by rw [List.getElem?_append_left hi]; exact e)
    rw [List.take_append_of_le_length (by omega)] at q
    exact q
  · have := h.len; simp at this; omega
  · have := h.nd
    rw [nm_snoc] at this
    intro hm
    exact (List.nodup_append.mp this).2.2 p.1 hm p.1 (by simp) rfl
  · have q := h.el W.length p.1 p.2 hp e he
    rw [List.take_append_of_le_length (Nat.le_refl _), List.take_length] at q
    exact q
theorem lookup_some {l : List (Str × List Str)} {n : Str} (h : n ∈ l.map (·.1)) : ∃ ks, l.lookup n = some ks ∧ (n, ks) ∈ l := by
  induction l with
  | nil => simp at h
  | cons q l ih =>
    obtain ⟨a, b⟩ := q
    rw [List.lookup_cons]
    cases e : n == a with
    | true => rw [eq_of_beq e]; exact ⟨b, rfl, List.mem_cons_self⟩
    | false =>
      have hn : n ≠ a := beq_eq_false_iff_ne.mp e
      rcases List.mem_cons.mp h with z | z
      · exact absurd z hn
      · obtain ⟨ks, h1, h2⟩ := ih z
        exact ⟨ks, h1, List.mem_cons_of_mem _ h2⟩
theorem up_keep {W : Web} {p : Str × List Str} {m : Str} (h : m ∈ nm W) : up (W ++ [p]) m = up W m := by
  unfold up upL
  rw [ups_snoc]
  unfold upsStep
  obtain ⟨ks, e, _⟩ := lookup_some (l := ups W) (n := m) (by rw [keys_ups]; exact h)
  rw [lookup_append, e]
  rfl
theorem lookup_none {l : List (Str × List Str)} {n : Str} (h : n ∉ l.map (·.1)) : l.lookup n = none := by
  induction l with
  | nil => rfl
  | cons q l ih =>
    obtain ⟨a, b⟩ := q
    rw [List.lookup_cons]
    have h1 : n ≠ a := fun z => h (by simp [z])
    rw [beq_eq_false_iff_ne.mpr h1]
    exact ih fun z => h (List.mem_cons_of_mem _ z)
theorem up_new {W : Web} {p : Str × List Str} (h : p.1 ∉ nm W) : up (W ++ [p]) p.1 = p.2.foldl (fun ks e => (upL (ups W) e).foldl insS ks) [p.1] := by
  unfold up upL
  rw [ups_snoc]
  unfold upsStep
  rw [lookup_append, lookup_none (by rw [keys_ups]; exact h)]
  simp [upL]
theorem mem_nm {W : Web} {n : Str} {es : List Str} (h : (n, es) ∈ W) : n ∈ nm W := List.mem_map.mpr ⟨_, h, rfl⟩
theorem webOk_el {W : Web} (h : WebOk W) {n : Str} {es : List Str} (hm : (n, es) ∈ W) : ∀ e ∈ es, e ∈ nm W := fun e he => by
  obtain ⟨i, hi, e'⟩ := List.getElem_of_mem hm
  have q := h.el i n es (by rw [List.getElem?_eq_getElem hi, e']) e he
  obtain ⟨p, h1, h2⟩ := List.mem_map.mp q
  exact List.mem_map.mpr ⟨p, List.mem_of_mem_take h1, h2⟩
theorem up_mem {x : Str} : ∀ {W : Web}, WebOk W → ∀ {n : Str} {es : List Str}, (n, es) ∈ W → (x ∈ up W n ↔ x = n ∨ ∃ e ∈ es, x ∈ up W e) := by
  intro W
  refine snocInd (P := fun W => WebOk W → ∀ {n : Str} {es : List Str}, (n, es) ∈ W → (x ∈ up W n ↔ x = n ∨ ∃ e ∈ es, x ∈ up W e)) (fun _ n es h => nomatch h) (fun W p ih h n es hm => ?_) W
  obtain ⟨hW, hp, hel, _⟩ := webOk_snoc h
  rcases List.mem_append.mp hm with hm | hm
  · rw [up_keep (mem_nm hm), ih hW hm]
    have : (∃ e ∈ es, x ∈ up W e) ↔ ∃ e ∈ es, x ∈ up (W ++ [p]) e := by
      constructor
      · rintro ⟨e, he, hx⟩; exact ⟨e, he, by rw [up_keep (webOk_el hW hm e he)]; exact hx⟩
      · rintro ⟨e, he, hx⟩; exact ⟨e, he, by rw [up_keep (webOk_el hW hm e he)] at hx; exact hx⟩
    rw [this]
  · have e : (n, es) = p := by simpa using hm
    subst e
    rw [up_new hp, mem_ups]
    have : (∃ e ∈ es, x ∈ upL (ups W) e) ↔ ∃ e ∈ es, x ∈ up (W ++ [(n, es)]) e := by
      constructor
      · rintro ⟨e, he, hx⟩; exact ⟨e, he, by rw [up_keep (hel e he)]; exact hx⟩
      · rintro ⟨e, he, hx⟩; exact ⟨e, he, by rw [up_keep (hel e he)] at hx; exact hx⟩
    rw [this]
    simp
theorem up_self {W : Web} (h : WebOk W) {n : Str} (hn : n ∈ nm W) : n ∈ up W n := by
  obtain ⟨⟨m, es⟩, h1, h2⟩ := List.mem_map.mp hn
  cases h2
  exact (up_mem h h1).mpr (.inl rfl)
theorem up_sub : ∀ {W : Web}, WebOk W → ∀ {n x : Str}, x ∈ up W n → x ∈ nm W := by
  intro W
  refine snocInd (P := fun W => WebOk W → ∀ {n x : Str}, x ∈ up W n → x ∈ nm W) (fun _ n x h => by simp [up, ups, upL] at h) (fun W p ih h n x hx => ?_) W
  obtain ⟨hW, hp, hel, _⟩ := webOk_snoc h
  rw [nm_snoc]
  by_cases hn : n ∈ nm W
  · rw [up_keep hn] at hx
    exact List.mem_append_left _ (ih hW hx)
  · by_cases e : n = p.1
    · rw [e, up_new hp, mem_ups] at hx
      rcases hx with hx | ⟨e', _, hx⟩
      · exact List.mem_append_right _ (by simpa using hx)
      · exact List.mem_append_left _ (ih hW hx)
    · unfold up upL at hx
      rw [ups_snoc] at hx
      unfold upsStep at hx
      rw [lookup_append, lookup_none (by rw [keys_ups]; exact hn), beq_eq_false_iff_ne.mpr e] at hx
      simp at hx
theorem up_nd : ∀ {W : Web} {n : Str}, (up W n).Nodup := by
  intro W
  refine snocInd (P := fun W => ∀ {n : Str}, (up W n).Nodup) (fun {n} => by simp [up, ups, upL]) (fun W p ih n => ?_) W
  unfold up upL
  rw [ups_snoc]
  unfold upsStep
  rw [lookup_append]
  cases e : (ups W).lookup n with
  | some ks =>
    have q := ih (n := n)
    unfold up upL at q
    rw [e] at q
    exact q
  | none =>
    show ((if n == p.1 then some _ else none).getD []).Nodup
    split
    · exact nd_ups (by simp)
    · exact List.nodup_nil
theorem up_len {W : Web} (h : WebOk W) (n : Str) : (up W n).length ≤ 12 := by
  have := nodup_sub _ (nm W) (up_nd (W := W) (n := n)) fun x hx => up_sub h hx
  have := nm_len h
  omega
/-! ### dicts by names -/
def dS (f : List Str → PyData) (l : List (Str × List Str)) : List (PyData × PyData) := l.map fun p => (.str p.1, f p.2)
theorem dget_dS (f : List Str → PyData) (n : Str) : ∀ l : List (Str × List Str), dgetD (dS f l) (Sum.inr n) = (l.lookup n).map f
  | [] => rfl
  | (a, b) :: l => by
    have ih := dget_dS f n l
    show (if keyD (.str a) = some (Sum.inr n) then some (f b) else dgetD (dS f l) (Sum.inr n)) = _
    rw [List.lookup_cons]
    by_cases e : a = n
    · subst e; rw [if_pos (show keyD (.str a) = some (Sum.inr a) from rfl), beq_self_eq_true]; rfl
    · rw [if_neg (show ¬ keyD (.str a) = some (Sum.inr n) from fun z => e (Sum.inr.inj (Option.some.inj z))), beq_eq_false_iff_ne.mpr (Ne.symm e)]
      exact ih
theorem dput_dS (f : List Str → PyData) {l : List (Str × List Str)} {n : Str} {ks : List Str} (h : n ∉ l.map (·.1)) : dputD (dS f l) (.str n) (f ks) = dS f (l ++ [(n, ks)]) := by
  unfold dputD dS
  rw [if_neg, List.map_append]
  · rfl
  · intro z
    rw [List.any_map, List.any_eq_true] at z
    obtain ⟨p, hp, e⟩ := z
    have e := of_decide_eq_true e
    exact h (List.mem_map.mpr ⟨p, hp, Sum.inr.inj (Option.some.inj e)⟩)
def roofL (ks : List Str) : List (PyData × PyData) := ks.map fun k => (.str k, .bool true)
def roofD (ks : List Str) : PyData := .dict (roofL ks)
theorem dput_roof (ks : List Str) (k : Str) : dputD (roofL ks) (.str k) (.bool true) = roofL (insS ks k) := by
  have ha : ((roofL ks).any fun kv => decide (keyD kv.1 = keyD (.str k))) = decide (k ∈ ks) := by
    unfold roofL
    rw [List.any_map, Bool.eq_iff_iff, List.any_eq_true, decide_eq_true_iff]
    constructor
    · rintro ⟨y, hy, h⟩
      have h := of_decide_eq_true h
      have : y = k := Sum.inr.inj (Option.some.inj h)
      rw [← this]; exact hy
    · exact fun h => ⟨k, h, decide_eq_true rfl⟩
  unfold dputD insS
  rw [ha]
  by_cases hk : k ∈ ks
  · rw [if_pos (decide_eq_true hk), if_pos hk]
    unfold roofL
    rw [List.map_map]
    refine List.map_congr_left fun y _ => ?_
    show (if keyD (PyData.str y) = keyD (.str k) then (PyData.str y, PyData.bool true) else (PyData.str y, PyData.bool true)) = _
    split <;> rfl
  · rw [if_neg (by simpa using hk), if_neg hk]
    unfold roofL
    rw [List.map_append]; rfl
theorem dmerge_roof : ∀ (ms ks : List Str), dmergeD (roofL ks) (roofL ms) = roofL (ms.foldl insS ks)
  | [], _ => rfl
  | m :: ms, ks => by
    show dmergeD (dputD (roofL ks) (.str m) (.bool true)) (roofL ms) = _
    rw [dput_roof, dmerge_roof ms]; rfl
/-! ### roofs_of, law_up -/
theorem take_pre {α : Type} {pre post : List α} {x : α} {l : List α} (h : pre ++ x :: post = l) : l = (pre ++ [x]) ++ post := by rw [← h]; simp
theorem webOk_pre : ∀ {post W : Web}, WebOk (W ++ post) → WebOk W := by
  intro post
  refine snocInd (P := fun post => ∀ {W : Web}, WebOk (W ++ post) → WebOk W) (fun {W} h => by rwa [List.append_nil] at h) (fun post p ih W h => ?_) post
  rw [← List.append_assoc] at h
  exact ih (webOk_snoc h).1
theorem g_roofs_of {W : Web} (h : WebOk W) : G_roofs_of [webD W] = some (.dict (dS roofD (ups W)), true) := by
  have inner : ∀ (V : Web) (p : Str × List Str) (es pre : List Str) (s5 : Sl), WebOk (V ++ [p]) → pre ++ es = p.2 →
      ∃ s5', forL (gN 5) (sUpd 4 (eDGetV 1 (eVar 5))) (es.map .str) [.pl (webD W), .ac (.dict (dS roofD (ups V))), .pl (.str p.1), .pl (strsD p.2), .ac (roofD (pre.foldl (fun ks e => (upL (ups V) e).foldl insS ks) [p.1])), s5] =
        some (.nx [.pl (webD W), .ac (.dict (dS roofD (ups V))), .pl (.str p.1), .pl (strsD p.2), .ac (roofD (p.2.foldl (fun ks e => (upL (ups V) e).foldl insS ks) [p.1])), s5']) := by
    intro V p es
    induction es with
    | nil => intro pre s5 _ e; rw [List.append_nil] at e; subst e; exact ⟨s5, rfl⟩
    | cons e es ih =>
      intro pre s5 hV hp
      obtain ⟨hV', hn, hel, hfew⟩ := webOk_snoc hV
      have he : e ∈ nm V := hel e (by rw [← hp]; simp)
      obtain ⟨ks, lk, _⟩ := lookup_some (l := ups V) (n := e) (by rw [keys_ups]; exact he)
      have eup : upL (ups V) e = ks := by unfold upL; rw [lk]; rfl
      have l1 : ks.length ≤ 12 := by rw [← eup]; exact up_len hV' e
      have sub : ∀ x ∈ pre.foldl (fun ks e => (upL (ups V) e).foldl insS ks) [p.1], x ∈ nm (V ++ [p]) := fun x hx => by
        rw [nm_snoc]
        rcases mem_ups.mp hx with z | ⟨e', _, z⟩
        · exact List.mem_append_right _ (by simpa using z)
        · exact List.mem_append_left _ (up_sub hV' z)
      have l2 : (pre.foldl (fun ks e => (upL (ups V) e).foldl insS ks) [p.1]).length ≤ 12 := by
        have := nodup_sub _ _ (nd_ups (acc := ups V) (es := pre) (ks := [p.1]) (by simp)) sub
        have := nm_len hV
        omega
      obtain ⟨s5', q⟩ := ih (pre ++ [e]) (.pl (.str e)) hV (by rw [← hp]; simp)
      refine ⟨s5', ?_⟩
      rw [List.map_cons]
      unfold forL
      simp only [gN, Option.bind_some, List.set_cons_succ, List.set_cons_zero]
      have b : sUpd 4 (eDGetV 1 (eVar 5)) [.pl (webD W), .ac (.dict (dS roofD (ups V))), .pl (.str p.1), .pl (strsD p.2), .ac (roofD (pre.foldl (fun ks e => (upL (ups V) e).foldl insS ks) [p.1])), .pl (.str e)] =
          some (.nx [.pl (webD W), .ac (.dict (dS roofD (ups V))), .pl (.str p.1), .pl (strsD p.2), .ac (roofD ((pre ++ [e]).foldl (fun ks e => (upL (ups V) e).foldl insS ks) [p.1])), .pl (.str e)]) := by
        have lz : (roofL (pre.foldl (fun ks e => (upL (ups V) e).foldl insS ks) [p.1])).length + (roofL ks).length ≤ 100000 := by unfold roofL; rw [List.length_map, List.length_map]; omega
        simp only [sUpd, roofD, eDGetV, eVar, List.getElem?_cons_succ, List.getElem?_cons_zero, Option.bind_some, keyD, dget_dS, lk, Option.map_some]
        rw [if_pos ⟨lz, by simp⟩, dmerge_roof]
        simp [frzs, List.foldl_append, eup]
      rw [b, Option.bind_some]
      exact q
  have outer : ∃ env', forL (gT 2 (gsCons 2 (gsCons 3 gsNil))) (sSeq (sSet 4 (eD1 (eVar 2) (eC (.bool true)))) (sSeq (sFor (iItems (eVar 3)) (gN 5) (sUpd 4 (eDGetV 1 (eVar 5)))) (sPut 1 (eVar 2) (eVar 4)))) (W.map rowD) [.pl (webD W), .ac (.dict []), .no, .no, .no, .no] = some (.nx env') ∧
      ∃ s2 s3 s4 s5, env' = [.pl (webD W), .ac (.dict (dS roofD (ups W))), s2, s3, s4, s5] := by
    refine forL_runs (fun pre env => ∃ s2 s3 s4 s5, env = [.pl (webD W), .ac (.dict (dS roofD (ups pre))), s2, s3, s4, s5]) ⟨_, _, _, _, rfl⟩ ?_
    rintro pre p post env hp ⟨s2, s3, s4, s5, rfl⟩
    have hV : WebOk (pre ++ [p]) := webOk_pre (post := post) (by rw [← take_pre hp]; exact h)
    obtain ⟨hV', hn, hel, hfew⟩ := webOk_snoc hV
    obtain ⟨s5', q⟩ := inner pre p p.2 [] s5 hV rfl
    refine ⟨[.pl (webD W), .ac (.dict (dS roofD (ups pre))), .pl (.str p.1), .pl (strsD p.2), s4, s5], [.pl (webD W), .ac (.dict (dS roofD (ups (pre ++ [p])))), .pl (.str p.1), .pl (strsD p.2), .pl (roofD (p.2.foldl (fun ks e => (upL (ups pre) e).foldl insS ks) [p.1])), s5'], rfl, .inl ?_, _, _, _, _, rfl⟩
    have lz : (dS roofD (ups pre)).length < 100000 := by
      unfold dS
      rw [List.length_map, ← List.length_map (f := (·.1)), keys_ups]
      have := nm_len hV'
      omega
    have st : sSet 4 (eD1 (eVar 2) (eC (.bool true))) [.pl (webD W), .ac (.dict (dS roofD (ups pre))), .pl (.str p.1), .pl (strsD p.2), s4, s5] = some (.nx [.pl (webD W), .ac (.dict (dS roofD (ups pre))), .pl (.str p.1), .pl (strsD p.2), .ac (roofD [p.1]), s5]) := by
      simp [sSet, eD1, eVar, eC, keyD, putV, frzs, slOf, roofD, roofL]
    have pt : sPut 1 (eVar 2) (eVar 4) [.pl (webD W), .ac (.dict (dS roofD (ups pre))), .pl (.str p.1), .pl (strsD p.2), .ac (roofD (p.2.foldl (fun ks e => (upL (ups pre) e).foldl insS ks) [p.1])), s5'] =
        some (.nx [.pl (webD W), .ac (.dict (dS roofD (ups (pre ++ [p])))), .pl (.str p.1), .pl (strsD p.2), .pl (roofD (p.2.foldl (fun ks e => (upL (ups pre) e).foldl insS ks) [p.1])), s5']) := by
      simp only [sPut, eVar, List.getElem?_cons_succ, List.getElem?_cons_zero, Option.bind_some, keyD]
      rw [if_pos ⟨lz, by simp⟩, dput_dS roofD (by rw [keys_ups]; exact hn), ups_snoc]
      simp [frzs, frz1, upsStep]
    exact seq_nx st (seq_nx (for_list rfl q) pt)
  obtain ⟨env', hl, s2, s3, s4, s5, rfl⟩ := outer
  exact fn_rt (env := [.pl (webD W), .no, .no, .no, .no, .no]) rfl (seq_nx rfl (seq_nx (for_list rfl hl) rfl))
/-- the law's own lists -/
theorem ins_run {W : Web} {A B C : Sl} {D E : Sl} : ∀ (ms ks : List Str) (s6 : Sl), ks.length + ms.length < 100000 → ∃ s6', forL (gN 6) (sIf (tBool (eOp (inD true) (eVar 6) (eVar 4))) (sApp 4 (eVar 6)) sNil) (ms.map .str) [A, B, C, D, .ac (strsD ks), E, s6] = some (.nx [A, B, C, D, .ac (strsD (ms.foldl insS ks)), E, s6'])
  | [], ks, s6, _ => ⟨s6, rfl⟩
  | m :: ms, ks, s6, hl => by
    have step : sIf (tBool (eOp (inD true) (eVar 6) (eVar 4))) (sApp 4 (eVar 6)) sNil [A, B, C, D, .ac (strsD ks), E, .pl (.str m)] = some (.nx [A, B, C, D, .ac (strsD (insS ks m)), E, .pl (.str m)]) := by
      by_cases hm : m ∈ ks
      · refine if_f ?_ ?_
        · simp [tBool, eOp, eVar, in_strs, hm]
        · rw [show insS ks m = ks from if_pos hm]; rfl
      · refine if_t ?_ ?_
        · simp [tBool, eOp, eVar, in_strs, hm]
        · have lz : (ks.map PyData.str).length < 100000 := by rw [List.length_map]; simp at hl; omega
          simp only [sApp, strsD, eVar, List.getElem?_cons_succ, List.getElem?_cons_zero, Option.bind_some]
          rw [if_pos ⟨lz, by simp⟩]
          simp [frzs, insS, hm]
    have hl2 : (insS ks m).length + ms.length < 100000 := by
      have : (insS ks m).length ≤ ks.length + 1 := by unfold insS; split <;> simp
      simp at hl; omega
    obtain ⟨s6', q⟩ := ins_run (W := W) ms (insS ks m) (.pl (.str m)) hl2
    refine ⟨s6', ?_⟩
    rw [List.map_cons]
    unfold forL
    simp only [gN, Option.bind_some, List.set_cons_succ, List.set_cons_zero]
    rw [step, Option.bind_some]
    exact q
theorem g_law_up {W : Web} (h : WebOk W) : G_law_up [webD W] = some (.dict (dS strsD (ups W)), true) := by
  have inner : ∀ (V : Web) (p : Str × List Str) (es pre : List Str) (s5 s6 : Sl), WebOk (V ++ [p]) → pre ++ es = p.2 →
      ∃ s5' s6', forL (gN 5) (sFor (iItems (eDGetV 1 (eVar 5))) (gN 6) (sIf (tBool (eOp (inD true) (eVar 6) (eVar 4))) (sApp 4 (eVar 6)) sNil)) (es.map .str) [.pl (webD W), .ac (.dict (dS strsD (ups V))), .pl (.str p.1), .pl (strsD p.2), .ac (strsD (pre.foldl (fun ks e => (upL (ups V) e).foldl insS ks) [p.1])), s5, s6] =
        some (.nx [.pl (webD W), .ac (.dict (dS strsD (ups V))), .pl (.str p.1), .pl (strsD p.2), .ac (strsD (p.2.foldl (fun ks e => (upL (ups V) e).foldl insS ks) [p.1])), s5', s6']) := by
    intro V p es
    induction es with
    | nil => intro pre s5 s6 _ e; rw [List.append_nil] at e; subst e; exact ⟨s5, s6, rfl⟩
    | cons e es ih =>
      intro pre s5 s6 hV hp
      obtain ⟨hV', hn, hel, hfew⟩ := webOk_snoc hV
      have he : e ∈ nm V := hel e (by rw [← hp]; simp)
      obtain ⟨ks, lk, _⟩ := lookup_some (l := ups V) (n := e) (by rw [keys_ups]; exact he)
      have eup : upL (ups V) e = ks := by unfold upL; rw [lk]; rfl
      have l1 : ks.length ≤ 12 := by rw [← eup]; exact up_len hV' e
      have sub : ∀ x ∈ pre.foldl (fun ks e => (upL (ups V) e).foldl insS ks) [p.1], x ∈ nm (V ++ [p]) := fun x hx => by
        rw [nm_snoc]
        rcases mem_ups.mp hx with z | ⟨e', _, z⟩
        · exact List.mem_append_right _ (by simpa using z)
        · exact List.mem_append_left _ (up_sub hV' z)
      have l2 : (pre.foldl (fun ks e => (upL (ups V) e).foldl insS ks) [p.1]).length ≤ 12 := by
        have := nodup_sub _ _ (nd_ups (acc := ups V) (es := pre) (ks := [p.1]) (by simp)) sub
        have := nm_len hV
        omega
      obtain ⟨s6', q1⟩ := ins_run (W := W) (A := .pl (webD W)) (B := .ac (.dict (dS strsD (ups V)))) (C := .pl (.str p.1)) (D := .pl (strsD p.2)) (E := .pl (.str e)) ks (pre.foldl (fun ks e => (upL (ups V) e).foldl insS ks) [p.1]) s6 (by omega)
      obtain ⟨s5', s6'', q⟩ := ih (pre ++ [e]) (.pl (.str e)) s6' hV (by rw [← hp]; simp)
      refine ⟨s5', s6'', ?_⟩
      rw [List.map_cons]
      unfold forL
      simp only [gN, Option.bind_some, List.set_cons_succ, List.set_cons_zero]
      have gd : eDGetV 1 (eVar 5) [.pl (webD W), .ac (.dict (dS strsD (ups V))), .pl (.str p.1), .pl (strsD p.2), .ac (strsD (pre.foldl (fun ks e => (upL (ups V) e).foldl insS ks) [p.1])), .pl (.str e), s6] = some ⟨strsD ks, false, []⟩ := by
        simp [eDGetV, eVar, keyD, dget_dS, lk]
      rw [for_list gd q1, Option.bind_some]
      rw [List.foldl_append, List.foldl_cons, List.foldl_nil, eup] at q
      exact q
  have outer : ∃ env', forL (gT 2 (gsCons 2 (gsCons 3 gsNil))) (sSeq (sSet 4 (eLst (aCons (eVar 2) aNil))) (sSeq (sFor (iItems (eVar 3)) (gN 5) (sFor (iItems (eDGetV 1 (eVar 5))) (gN 6) (sIf (tBool (eOp (inD true) (eVar 6) (eVar 4))) (sApp 4 (eVar 6)) sNil))) (sPut 1 (eVar 2) (eVar 4)))) (W.map rowD) [.pl (webD W), .ac (.dict []), .no, .no, .no, .no, .no] = some (.nx env') ∧
      ∃ s2 s3 s4 s5 s6, env' = [.pl (webD W), .ac (.dict (dS strsD (ups W))), s2, s3, s4, s5, s6] := by
    refine forL_runs (fun pre env => ∃ s2 s3 s4 s5 s6, env = [.pl (webD W), .ac (.dict (dS strsD (ups pre))), s2, s3, s4, s5, s6]) ⟨_, _, _, _, _, rfl⟩ ?_
    rintro pre p post env hp ⟨s2, s3, s4, s5, s6, rfl⟩
    have hV : WebOk (pre ++ [p]) := webOk_pre (post := post) (by rw [← take_pre hp]; exact h)
    obtain ⟨hV', hn, hel, hfew⟩ := webOk_snoc hV
    obtain ⟨s5', s6', q⟩ := inner pre p p.2 [] s5 s6 hV rfl
    refine ⟨[.pl (webD W), .ac (.dict (dS strsD (ups pre))), .pl (.str p.1), .pl (strsD p.2), s4, s5, s6], [.pl (webD W), .ac (.dict (dS strsD (ups (pre ++ [p])))), .pl (.str p.1), .pl (strsD p.2), .pl (strsD (p.2.foldl (fun ks e => (upL (ups pre) e).foldl insS ks) [p.1])), s5', s6'], rfl, .inl ?_, _, _, _, _, _, rfl⟩
    have lz : (dS strsD (ups pre)).length < 100000 := by
      unfold dS
      rw [List.length_map, ← List.length_map (f := (·.1)), keys_ups]
      have := nm_len hV'
      omega
    have pt : sPut 1 (eVar 2) (eVar 4) [.pl (webD W), .ac (.dict (dS strsD (ups pre))), .pl (.str p.1), .pl (strsD p.2), .ac (strsD (p.2.foldl (fun ks e => (upL (ups pre) e).foldl insS ks) [p.1])), s5', s6'] =
        some (.nx [.pl (webD W), .ac (.dict (dS strsD (ups (pre ++ [p])))), .pl (.str p.1), .pl (strsD p.2), .pl (strsD (p.2.foldl (fun ks e => (upL (ups pre) e).foldl insS ks) [p.1])), s5', s6']) := by
      simp only [sPut, eVar, List.getElem?_cons_succ, List.getElem?_cons_zero, Option.bind_some, keyD]
      rw [if_pos ⟨lz, by simp⟩, dput_dS strsD (by rw [keys_ups]; exact hn), ups_snoc]
      simp [frzs, frz1, upsStep]
    exact seq_nx rfl (seq_nx (for_list rfl q) pt)
  obtain ⟨env', hl, s2, s3, s4, s5, s6, rfl⟩ := outer
  exact fn_rt (env := [.pl (webD W), .no, .no, .no, .no, .no, .no]) rfl (seq_nx rfl (seq_nx (for_list rfl hl) rfl))
end Bc

namespace Bc
open PySem L2
/-! ### the law's own names -/
def ltr (i : Int) : Str := ⟨#[97 + i.toNat]⟩
def Low (x : Str) : Prop := ∀ c ∈ x.cps.toList, c < 128
theorem app_list (a b : Str) : (a ++ b).cps.toList = a.cps.toList ++ b.cps.toList := by
  show (a.cps ++ b.cps).toList = _
  simp
theorem Low.app {a b : Str} (h1 : Low a) (h2 : Low b) : Low (a ++ b) := fun c hc => by
  rw [app_list] at hc
  exact (List.mem_append.mp hc).elim (h1 c) (h2 c)
theorem Low.slice {x : Str} (h : Low x) (l u : Option Int) : Low (Txt.slice x l u) := fun c hc => by
  unfold Txt.slice at hc
  split at hc
  · exact h c hc
  · have hc : c ∈ (List.filterMap (x.cps[·]?) (Builtin.Str.strSliceIndices l u 1 x.length)) := by simpa using hc
    obtain ⟨i, _, e⟩ := List.mem_filterMap.mp hc
    exact h c (by
      have := Array.mem_of_getElem? e
      simpa using this)
theorem Low.ltr {i : Int} (h0 : 0 ≤ i) (h1 : i < 26) : Low (ltr i) := fun c hc => by
  have : c = 97 + i.toNat := by simpa [Bc.ltr] using hc
  omega
theorem foldl_rep (c : Nat) : ∀ (n : Nat) (acc : Array Nat), ((List.replicate n #[c]).foldl (· ++ ·) acc).toList = acc.toList ++ List.replicate n c
  | 0, acc => by simp
  | n + 1, acc => by
    rw [List.replicate_succ, List.foldl_cons, foldl_rep c n, List.replicate_succ]
    simp
theorem mul_list {c : Nat} {n : Int} (h : 0 ≤ n) : (Txt.mul ⟨#[c]⟩ n).cps.toList = List.replicate n.toNat c := by
  unfold Txt.mul
  split
  · have : n.toNat = 0 := by omega
    rw [this]; rfl
  · split
    · rename_i h1 h2
      have : n = 1 := by
        rcases Bool.or_eq_true_iff.mp h2 with z | z
        · exact eq_of_beq z
        · exact absurd z (by simp [Str.length])
      subst this
      rfl
    · rw [foldl_rep]; rfl
theorem Low.mul {c : Nat} (hc : c < 128) {n : Int} (h : 0 ≤ n) : Low (Txt.mul ⟨#[c]⟩ n) := fun d hd => by
  rw [mul_list h] at hd
  rw [List.eq_of_mem_replicate hd]; exact hc
theorem mul_len {c : Nat} {n : Int} (h : 0 ≤ n) : (Txt.mul ⟨#[c]⟩ n).length = n.toNat := by
  have := congrArg List.length (mul_list (c := c) h)
  rw [List.length_replicate] at this
  simpa [Str.length] using this
/-- the k-th name -/
def nameK (md o st : Int) (stem : Str) (at_ : Int) (k : Nat) : Str :=
  if md = 0 then Txt.slice stem none (some at_) ++ ltr ((o + st * k) % 26) ++ Txt.slice stem (some at_) none
  else if md = 1 then Txt.slice stem none (some (k * st % (stem.length + 1))) ++ ltr ((o + st * k) % 26)
  else Txt.mul (ltr ((o + k / 8) % 26)) (1 + k * st % 8)
theorem ltr_inj {i j : Int} (h0 : 0 ≤ i) (h1 : 0 ≤ j) (h : ltr i = ltr j) : i = j := by
  unfold ltr at h
  have : #[97 + i.toNat] = #[97 + j.toNat] := by injection h
  have : 97 + i.toNat = 97 + j.toNat := by simpa using this
  omega
theorem step_inj {o st : Int} (hs : st ∈ ([1, 3, 5, 7, 9, 11, 15, 17] : List Int)) {a b : Nat} (ha : a < 16) (hb : b < 16) (h : (o + st * a) % 26 = (o + st * b) % 26) : a = b := by
  simp only [List.mem_cons, List.mem_nil_iff, or_false] at hs
  rcases hs with rfl | rfl | rfl | rfl | rfl | rfl | rfl | rfl <;> omega
theorem tab8 : ∀ st ∈ ([1, 3, 5, 7, 9, 11, 15, 17] : List Nat), ∀ a < 16, ∀ b < 16, a / 8 = b / 8 → a * st % 8 = b * st % 8 → a = b := by decide +kernel
theorem step_inj8 {o st : Int} (hs : st ∈ ([1, 3, 5, 7, 9, 11, 15, 17] : List Int)) {a b : Nat} (ha : a < 16) (hb : b < 16) (h : (o + (a : Int) / 8) % 26 = (o + (b : Int) / 8) % 26) (h2 : (a : Int) * st % 8 = b * st % 8) : a = b := by
  have q1 : a / 8 = b / 8 := by omega
  simp only [List.mem_cons, List.mem_nil_iff, or_false] at hs
  rcases hs with rfl | rfl | rfl | rfl | rfl | rfl | rfl | rfl
  · exact tab8 1 (by decide) a ha b hb q1 (by omega)
  · exact tab8 3 (by decide) a ha b hb q1 (by omega)
  · exact tab8 5 (by decide) a ha b hb q1 (by omega)
  · exact tab8 7 (by decide) a ha b hb q1 (by omega)
  · exact tab8 9 (by decide) a ha b hb q1 (by omega)
  · exact tab8 11 (by decide) a ha b hb q1 (by omega)
  · exact tab8 15 (by decide) a ha b hb q1 (by omega)
  · exact tab8 17 (by decide) a ha b hb q1 (by omega)
theorem nameK_inj {md o st at_ : Int} {stem : Str} (hs : st ∈ ([1, 3, 5, 7, 9, 11, 15, 17] : List Int)) (ho : 0 ≤ o) {a b : Nat} (ha : a < 16) (hb : b < 16) (h : nameK md o st stem at_ a = nameK md o st stem at_ b) : a = b := by
  have st0 : 0 ≤ st := by
    simp only [List.mem_cons, List.mem_nil_iff, or_false] at hs
    rcases hs with rfl | rfl | rfl | rfl | rfl | rfl | rfl | rfl <;> decide
  have n26 : ∀ z : Int, 0 ≤ z % 26 := fun z => Int.emod_nonneg z (by decide)
  unfold nameK at h
  by_cases h0 : md = 0
  · rw [if_pos h0, if_pos h0] at h
    have q := congrArg (fun x : Str => x.cps.toList) h
    simp only [app_list] at q
    have q2 := List.append_cancel_right q
    have q3 := List.append_cancel_left q2
    have q4 : ltr ((o + st * a) % 26) = ltr ((o + st * b) % 26) := by
      unfold ltr at q3 ⊢
      congr 1
      exact Array.toList_inj.mp q3
    exact step_inj hs ha hb (ltr_inj (n26 _) (n26 _) q4)
  · rw [if_neg h0, if_neg h0] at h
    by_cases h1 : md = 1
    · rw [if_pos h1, if_pos h1] at h
      have q := congrArg (fun x : Str => x.cps.toList) h
      simp only [app_list] at q
      have q3 := (List.append_inj' q (by simp [ltr])).2
      have q4 : ltr ((o + st * a) % 26) = ltr ((o + st * b) % 26) := by
        unfold ltr at q3 ⊢
        congr 1
        exact Array.toList_inj.mp q3
      exact step_inj hs ha hb (ltr_inj (n26 _) (n26 _) q4)
    · rw [if_neg h1, if_neg h1] at h
      have m8 : ∀ z : Int, 0 ≤ z % 8 := fun z => Int.emod_nonneg z (by decide)
      have q : (Txt.mul (ltr ((o + (a : Int) / 8) % 26)) (1 + a * st % 8)).cps.toList = (Txt.mul (ltr ((o + (b : Int) / 8) % 26)) (1 + b * st % 8)).cps.toList := by rw [h]
      have ea : ∀ k : Nat, (Txt.mul (ltr ((o + (k : Int) / 8) % 26)) (1 + k * st % 8)).cps.toList = List.replicate (1 + (k : Int) * st % 8).toNat (97 + ((o + (k : Int) / 8) % 26).toNat) := fun k => mul_list (by have := m8 (k * st); omega)
      rw [ea a, ea b] at q
      have ql := congrArg List.length q
      rw [List.length_replicate, List.length_replicate] at ql
      have w1 := m8 (a * st)
      have w2 := m8 (b * st)
      have hh : (97 + ((o + (a : Int) / 8) % 26).toNat) = (97 + ((o + (b : Int) / 8) % 26).toNat) := by
        have c1 : (1 + (a : Int) * st % 8).toNat = ((a : Int) * st % 8).toNat + 1 := by omega
        have c2 : (1 + (b : Int) * st % 8).toNat = ((b : Int) * st % 8).toNat + 1 := by omega
        rw [c1, c2, List.replicate_succ, List.replicate_succ] at q
        exact (List.cons.inj q).1
      have z1 := n26 (o + (a : Int) / 8)
      have z2 := n26 (o + (b : Int) / 8)
      exact step_inj8 (o := o) hs ha hb (by omega) (by omega)
theorem nodup_map_range {α : Type} {f : Nat → α} {n : Nat} (h : ∀ a b, a < n → b < n → f a = f b → a = b) : ((List.range n).map f).Nodup := by
  rw [List.nodup_iff_pairwise_ne, List.pairwise_map]
  refine List.Pairwise.imp_of_mem ?_ (List.pairwise_lt_range (n := n))
  intro a b ha hb hab e
  have := h a b (List.mem_range.mp ha) (List.mem_range.mp hb) e
  omega
theorem nameK_low {md o st at_ : Int} {stem : Str} (hl : Low stem) (ho : 0 ≤ o) (hst : 0 ≤ st) (k : Nat) : Low (nameK md o st stem at_ k) := by
  have n26 : ∀ z : Int, 0 ≤ z % 26 ∧ z % 26 < 26 := fun z => ⟨Int.emod_nonneg z (by decide), Int.emod_lt_of_pos z (by decide)⟩
  unfold nameK
  split
  · exact ((hl.slice _ _).app (Low.ltr (n26 _).1 (n26 _).2)).app (hl.slice _ _)
  · split
    · exact (hl.slice _ _).app (Low.ltr (n26 _).1 (n26 _).2)
    · have := Int.emod_nonneg ((k : Int) * st) (show (8 : Int) ≠ 0 by decide)
      exact Low.mul (by have := n26 (o + (k : Int) / 8); omega) (by omega)
end Bc

namespace Bc
open PySem L2
/-! ### expressions of ints and texts -/
abbrev vi (i : Int) : Val := ⟨.int i, false, []⟩
abbrev vs (x : Str) : Val := ⟨.str x, false, []⟩
abbrev vb (b : Bool) : Val := ⟨.bool b, false, []⟩
section
variable {a b : EF} {env : DEnv} {i j : Int}
theorem e_mod (ha : a env = some (vi i)) (hb : b env = some (vi j)) (h : 0 < j) : eOp modD a b env = some (vi (i % j)) := by
  unfold eOp; rw [ha, hb]; simp [modD, intD, h, bsOf, flatD]
theorem e_fdiv (ha : a env = some (vi i)) (hb : b env = some (vi j)) (h : 0 < j) (h2 : j < 1073741824) : eOp fdivD a b env = some (vi (i / j)) := by
  unfold eOp; rw [ha, hb]; simp [fdivD, intD, h, h2, bsOf, flatD]
theorem e_add (ha : a env = some (vi i)) (hb : b env = some (vi j)) : eOp addD a b env = some (vi (i + j)) := by
  unfold eOp; rw [ha, hb]; simp [addD, bsOf, flatD]
theorem e_sub (ha : a env = some (vi i)) (hb : b env = some (vi j)) : eOp subD a b env = some (vi (i - j)) := by
  unfold eOp; rw [ha, hb]; simp [subD, intD, bsOf, flatD]
theorem e_mul (ha : a env = some (vi i)) (hb : b env = some (vi j)) (h : (-(2 ^ 64) < i ∧ i < 2 ^ 64) ∨ (-(2 ^ 64) < j ∧ j < 2 ^ 64)) : eOp mulD a b env = some (vi (i * j)) := by
  unfold eOp; rw [ha, hb]
  simp only [Option.bind_some, mulD]
  rw [if_pos h]; simp [bsOf, flatD]
theorem e_eqi (ha : a env = some (vi i)) (hb : b env = some (vi j)) : eOp eqD a b env = some (vb (i == j)) := by
  unfold eOp; rw [ha, hb]; simp [eqD, eqOk, scalD, bsOf, flatD, PyData.eqv]
theorem e_addS {x y : Str} (ha : a env = some (vs x)) (hb : b env = some (vs y)) (h : x.length + y.length ≤ 100000) : eOp addD a b env = some (vs (x ++ y)) := by
  unfold eOp; rw [ha, hb]
  simp only [Option.bind_some, addD]
  rw [if_pos h]; simp [bsOf, flatD]
theorem e_mulS {x : Str} (ha : a env = some (vs x)) (hb : b env = some (vi j)) (h : x.length ≤ 1000 ∧ -1000 ≤ j ∧ j ≤ 1000) : eOp mulD a b env = some (vs (Txt.mul x j)) := by
  unfold eOp; rw [ha, hb]
  simp only [Option.bind_some, mulD]
  rw [if_pos h]; simp [bsOf, flatD]
theorem e_slS {x : Str} {l h : PF'} {lo hi : Option Int} (ha : a env = some (vs x)) (hl : l env = some lo) (hh : h env = some hi) (hz : x.length ≤ 100000) : eSl a l h env = some (vs (Txt.slice x lo hi)) := by
  unfold eSl; rw [ha, hl, hh]
  simp only [Option.bind_some, slD]
  rw [if_pos hz]; simp [bsOf, flatD]
theorem p_some (ha : a env = some (vi i)) : pSome a env = some (some i) := by unfold pSome; rw [ha]; rfl
theorem t_bool {c : Bool} (ha : a env = some (vb c)) : tBool a env = some c := by unfold tBool; rw [ha]; rfl
theorem args1 {r : Val} (ha : a env = some r) : aCons a aNil env = some [r] := by unfold aCons aNil; rw [ha]; rfl
theorem e_lenS {x : Str} (ha : a env = some (vs x)) (hz : x.length ≤ 100000) : eCB lenD (aCons a aNil) env = some (vi x.length) := by
  unfold eCB
  rw [args1 ha]
  simp [datas, lenD, hz, bsOf, flatD]
theorem e_lenL {ds : List PyData} {fr : Bool} {bs : List Nat} (ha : a env = some ⟨.list ds, fr, bs⟩) : eCB lenD (aCons a aNil) env = some (vi ds.length) := by
  unfold eCB
  rw [args1 ha]
  simp [datas, lenD, bsOf, flatD]
theorem e_ixV {k n : Nat} {b : EF} {ds : List PyData} {d : PyData} (he : env[k]? = some (.pl (.list ds))) (hb : b env = some (vi (n : Int))) (hd : ds[n]? = some d) : eIxV k b env = some ⟨d, false, []⟩ := by
  unfold eIxV
  rw [he]
  unfold eOp eVar
  rw [he, hb]
  simp only [Option.bind_some, ixD]
  rw [atI_nat hd]
  simp [bsOf]
theorem e_ixA {k n : Nat} {b : EF} {ds : List PyData} {d : PyData} (he : env[k]? = some (.ac (.list ds))) (hb : b env = some (vi (n : Int))) (hd : ds[n]? = some d) : eIxV k b env = some ⟨d, false, []⟩ := by
  unfold eIxV
  rw [he]
  simp only
  rw [hb]
  simp only [Option.bind_some]
  rw [atI_nat hd]; rfl
end
/-! ### the law's names -/
def abc : Str := "abcdefghijklmnopqrstuvwxyz"
theorem abc_all : (List.range 26).all (fun i => abc.cps.toList[i]? == some (97 + i)) = true := by decide +kernel
theorem abc_len : abc.length = 26 := by decide +kernel
theorem abc_at {i : Int} (h0 : 0 ≤ i) (h1 : i < 26) : atI abc.cps.toList i = some (97 + i.toNat) := by
  have q := List.all_eq_true.mp abc_all i.toNat (List.mem_range.mpr (by omega))
  have e : ((i.toNat : Nat) : Int) = i := by omega
  rw [← e]
  have z := atI_nat (eq_of_beq q)
  rw [e] at z ⊢
  exact z
theorem e_abc {k : Nat} {b : EF} {env : DEnv} {i : Int} (he : env[k]? = some (.pl (.str abc))) (hb : b env = some (vi i)) (h0 : 0 ≤ i) (h1 : i < 26) : eIxV k b env = some (vs (ltr i)) := by
  unfold eIxV
  rw [he]
  unfold eOp eVar
  rw [he, hb]
  simp only [Option.bind_some, ixD]
  rw [if_pos (by rw [abc_len]; decide), abc_at h0 h1]
  simp [bsOf, flatD, ltr]
theorem step_at {i : Int} (h0 : 0 ≤ i) (h1 : i < 8) : ∃ st : Int, atI [PyData.int 1, .int 3, .int 5, .int 7, .int 9, .int 11, .int 15, .int 17] i = some (.int st) ∧ st ∈ ([1, 3, 5, 7, 9, 11, 15, 17] : List Int) := by
  rcases (show i = 0 ∨ i = 1 ∨ i = 2 ∨ i = 3 ∨ i = 4 ∨ i = 5 ∨ i = 6 ∨ i = 7 by omega) with rfl | rfl | rfl | rfl | rfl | rfl | rfl | rfl
  all_goals exact ⟨_, rfl, by decide⟩
theorem app_is {i : Nat} {f : EF} {env : DEnv} {ds : List PyData} {d : PyData} {fr : Bool} (he : env[i]? = some (.ac (.list ds))) (hf : f env = some ⟨d, fr, []⟩) (hl : ds.length < 100000) : sApp i f env = some (.nx (env.set i (.ac (.list (ds ++ [d]))))) := by
  unfold sApp
  rw [he]
  simp only
  rw [hf]
  simp only [Option.bind_some]
  rw [if_pos ⟨hl, by simp⟩]; rfl
theorem range_map (n : Nat) : rangeD 0 n = (List.range n).map (fun (k : Nat) => PyData.int (k : Int)) := by
  unfold rangeD
  refine List.map_congr_left fun k _ => ?_
  show PyData.int (0 + (k : Int)) = _
  rw [Int.zero_add]
theorem app_len (a b : Str) : (a ++ b).length = a.length + b.length := by
  have := congrArg List.length (app_list a b)
  rw [List.length_append] at this
  simpa [Str.length] using this
theorem g_law_namesL {m c : Int} (m0 : 0 ≤ m) (m16 : m ≤ 16) (c0 : 0 ≤ c) : ∃ xs : List Str, G_law_names [.int m, .int c] = some (strsD xs, true) ∧ xs.length = m.toNat ∧ xs.Nodup ∧ (∀ x ∈ xs, Low x) ∧ ∀ x ∈ xs, x.length ≤ 30 := by
  have md : ∀ (z j : Int), 0 < j → 0 ≤ z % j ∧ z % j < j := fun z j hj => ⟨Int.emod_nonneg z (by omega), Int.emod_lt_of_pos z hj⟩
  have i8 := md (c / 3) 8 (by decide)
  obtain ⟨st, hst, hmem⟩ := step_at i8.1 i8.2
  have st0 : 0 ≤ st ∧ st < 100 := by
    simp only [List.mem_cons, List.mem_nil_iff, or_false] at hmem
    rcases hmem with rfl | rfl | rfl | rfl | rfl | rfl | rfl | rfl <;> decide
  have o26 := md (c / 24) 26 (by decide)
  have j26 := md (c / 624) 26 (by decide)
  have n8 := md (c / 16224) 8 (by decide)
  have lowS : Low (Txt.mul (ltr (c / 624 % 26)) (c / 16224 % 8)) := Low.mul (by omega) n8.1
  have lenS : (Txt.mul (ltr (c / 624 % 26)) (c / 16224 % 8)).length ≤ 7 := by unfold ltr; rw [mul_len n8.1]; omega
  have s3 : sSet 3 (eOp ixD (eTup (aCons (eC (.int 1)) (aCons (eC (.int 3)) (aCons (eC (.int 5)) (aCons (eC (.int 7)) (aCons (eC (.int 9)) (aCons (eC (.int 11)) (aCons (eC (.int 15)) (aCons (eC (.int 17)) aNil))))))))) (eOp modD (eOp fdivD (eVar 1) (eC (.int 3))) (eC (.int 8)))) [.pl (.int m), .pl (.int c), .pl (.str abc), .no, .no, .no, .no, .no, .no, .no] = some (.nx [.pl (.int m), .pl (.int c), .pl (.str abc), .pl (.int st), .no, .no, .no, .no, .no, .no]) := by
    refine set_is (r := vi st) ?_
    unfold eOp
    show ((some (⟨.tuple [PyData.int 1, .int 3, .int 5, .int 7, .int 9, .int 11, .int 15, .int 17], false, []⟩ : Val)).bind fun x => ((some (vi (c / 3 % 8))).bind fun y => (ixD x.d y.d).bind fun z => some (⟨z.1, z.2, bsOf z.1 (x.bs ++ y.bs)⟩ : Val))) = _
    simp only [Option.bind_some, ixD]
    rw [hst]; rfl
  have s5 : sSet 5 (eOp mulD (eIxV 2 (eOp modD (eOp fdivD (eVar 1) (eC (.int 624))) (eC (.int 26)))) (eOp modD (eOp fdivD (eVar 1) (eC (.int 16224))) (eC (.int 8)))) [.pl (.int m), .pl (.int c), .pl (.str abc), .pl (.int st), .pl (.int (c / 24 % 26)), .no, .no, .no, .no, .no] =
      some (.nx [.pl (.int m), .pl (.int c), .pl (.str abc), .pl (.int st), .pl (.int (c / 24 % 26)), .pl (.str (Txt.mul (ltr (c / 624 % 26)) (c / 16224 % 8))), .no, .no, .no, .no]) :=
    set_is (r := vs _) (e_mulS (e_abc rfl rfl j26.1 j26.2) rfl ⟨by show 1 ≤ 1000; decide, by omega, by omega⟩)
  generalize hO : c / 24 % 26 = o at o26 s5
  generalize Txt.mul (ltr (c / 624 % 26)) (c / 16224 % 8) = stem at lowS lenS s5
  have s6 : ∃ at_ : Int, sSet 6 (eOp modD (eOp fdivD (eVar 1) (eC (.int 129792))) (eOp addD (eCB lenD (aCons (eVar 5) aNil)) (eC (.int 1)))) [.pl (.int m), .pl (.int c), .pl (.str abc), .pl (.int st), .pl (.int o), .pl (.str stem), .no, .no, .no, .no] = some (.nx [.pl (.int m), .pl (.int c), .pl (.str abc), .pl (.int st), .pl (.int o), .pl (.str stem), .pl (.int at_), .no, .no, .no]) :=
    ⟨_, set_is (r := vi _) (e_mod rfl (e_add (e_lenS rfl (by omega)) rfl) (by omega))⟩
  obtain ⟨at_, s6⟩ := s6
  have loop : ∃ env', forL (gN 8) (sSeq (sSet 9 (eIxV 2 (eOp modD (eOp addD (eVar 4) (eOp mulD (eVar 3) (eVar 8))) (eC (.int 26)))))
    (sIf (tBool (eOp eqD (eOp modD (eVar 1) (eC (.int 3))) (eC (.int 0)))) (sApp 7 (eOp addD (eOp addD (eSl (eVar 5) pNone (pSome (eVar 6))) (eVar 9)) (eSl (eVar 5) (pSome (eVar 6)) pNone))) (sIf (tBool (eOp eqD (eOp modD (eVar 1) (eC (.int 3))) (eC (.int 1)))) (sApp 7 (eOp addD (eSl (eVar 5) pNone (pSome (eOp modD (eOp mulD (eVar 8) (eVar 3)) (eOp addD (eCB lenD (aCons (eVar 5) aNil)) (eC (.int 1)))))) (eVar 9))) (sApp 7 (eOp mulD (eIxV 2 (eOp modD (eOp addD (eVar 4) (eOp fdivD (eVar 8) (eC (.int 8)))) (eC (.int 26)))) (eOp addD (eC (.int 1)) (eOp modD (eOp mulD (eVar 8) (eVar 3)) (eC (.int 8)))))))))
      ((List.range m.toNat).map fun (k : Nat) => PyData.int (k : Int)) [.pl (.int m), .pl (.int c), .pl (.str abc), .pl (.int st), .pl (.int o), .pl (.str stem), .pl (.int at_), .ac (.list []), .no, .no] = some (.nx env') ∧
      ∃ s8 s9, env' = [.pl (.int m), .pl (.int c), .pl (.str abc), .pl (.int st), .pl (.int o), .pl (.str stem), .pl (.int at_), .ac (strsD ((List.range m.toNat).map (nameK (c % 3) o st stem at_))), s8, s9] := by
    refine forL_runs (fun pre env => ∃ s8 s9, env = [.pl (.int m), .pl (.int c), .pl (.str abc), .pl (.int st), .pl (.int o), .pl (.str stem), .pl (.int at_), .ac (strsD (pre.map (nameK (c % 3) o st stem at_))), s8, s9]) ⟨_, _, rfl⟩ ?_
    rintro pre k post env hk ⟨s8, s9, rfl⟩
    have hkm : k < m.toNat := List.mem_range.mp (by rw [← hk]; simp)
    have hpl : pre.length < 100 := by
      have := congrArg List.length hk
      simp at this
      omega
    have b1 : 0 ≤ st * (k : Int) := Int.mul_nonneg st0.1 (by omega)
    have s26 := md (o + st * (k : Int)) 26 (by decide)
    have sl : ∀ a b, (Txt.slice stem a b).length ≤ 7 := fun a b => Nat.le_trans (Txt.slice_le stem a b) lenS
    have lz : stem.length ≤ 100000 := by omega
    have l1 : (ltr ((o + st * (k : Int)) % 26)).length = 1 := rfl
    refine ⟨_, [.pl (.int m), .pl (.int c), .pl (.str abc), .pl (.int st), .pl (.int o), .pl (.str stem), .pl (.int at_), .ac (strsD ((pre ++ [k]).map (nameK (c % 3) o st stem at_))), .pl (.int (k : Int)), .pl (.str (ltr ((o + st * (k : Int)) % 26)))], rfl, .inl ?_, _, _, rfl⟩
    refine seq_nx (set_is (r := vs _) (e_abc rfl (e_mod (e_add rfl (e_mul rfl rfl (.inl ⟨by omega, by omega⟩))) rfl (by decide)) s26.1 s26.2)) ?_
    have fin : ∀ x : Str, x = nameK (c % 3) o st stem at_ k → (PyData.list ((pre.map (nameK (c % 3) o st stem at_)).map PyData.str ++ [.str x])) = strsD ((pre ++ [k]).map (nameK (c % 3) o st stem at_)) := fun x e => by
      unfold strsD
      rw [List.map_append, List.map_append, e]; rfl
    have lp : ((pre.map (nameK (c % 3) o st stem at_)).map PyData.str).length < 100000 := by rw [List.length_map, List.length_map]; omega
    by_cases h0 : c % 3 = 0
    · refine if_t (t_bool (by rw [e_eqi (e_mod rfl rfl (by decide)) rfl]; rw [h0]; rfl)) ?_
      have z1 := sl none (some at_)
      have z2 := sl (some at_) none
      refine (app_is rfl (e_addS (e_addS (e_slS rfl rfl (p_some rfl) lz) rfl (by omega)) (e_slS rfl (p_some rfl) rfl lz) (by rw [app_len]; omega)) lp).trans ?_
      rw [fin _ (by unfold nameK; rw [if_pos h0])]; rfl
    · refine if_f (t_bool (by rw [e_eqi (e_mod rfl rfl (by decide)) rfl]; rw [beq_eq_false_iff_ne.mpr h0])) ?_
      by_cases h1 : c % 3 = 1
      · refine if_t (t_bool (by rw [e_eqi (e_mod rfl rfl (by decide)) rfl]; rw [h1]; rfl)) ?_
        have z1 := sl none (some ((k : Int) * st % ((stem.length : Int) + 1)))
        refine (app_is rfl (e_addS (e_slS rfl rfl (p_some (e_mod (e_mul rfl rfl (.inr ⟨by omega, by omega⟩)) (e_add (e_lenS rfl lz) rfl) (by omega))) lz) rfl (by omega)) lp).trans ?_
        rw [fin _ (by unfold nameK; rw [if_neg h0, if_pos h1])]; rfl
      · refine if_f (t_bool (by rw [e_eqi (e_mod rfl rfl (by decide)) rfl]; rw [beq_eq_false_iff_ne.mpr h1])) ?_
        have t26 := md (o + (k : Int) / 8) 26 (by decide)
        have u8 := md ((k : Int) * st) 8 (by decide)
        refine (app_is rfl (e_mulS (e_abc rfl (e_mod (e_add rfl (e_fdiv rfl rfl (by decide) (by decide))) rfl (by decide)) t26.1 t26.2) (e_add rfl (e_mod (e_mul rfl rfl (.inr ⟨by omega, by omega⟩)) rfl (by decide))) ⟨by show 1 ≤ 1000; decide, by omega, by omega⟩) lp).trans ?_
        rw [fin _ (by unfold nameK; rw [if_neg h0, if_neg h1])]; rfl
  obtain ⟨env', hl, s8, s9, rfl⟩ := loop
  refine ⟨(List.range m.toNat).map (nameK (c % 3) o st stem at_), ?_, by simp, nodup_map_range fun a b ha hb e => nameK_inj hmem o26.1 (by omega) (by omega) e, fun x hx => ?_, fun x hx => ?_⟩
  · refine fn_rt (env := [.pl (.int m), .pl (.int c), .no, .no, .no, .no, .no, .no, .no, .no]) rfl (seq_nx rfl (seq_nx s3 (seq_nx (e1 := [.pl (.int m), .pl (.int c), .pl (.str abc), .pl (.int st), .pl (.int o), .no, .no, .no, .no, .no]) (by rw [← hO]; rfl) (seq_nx s5 (seq_nx s6 (seq_nx rfl (seq_nx (for_is (ds := (List.range m.toNat).map fun (k : Nat) => PyData.int (k : Int)) (bs := []) ?_ hl) rfl)))))))
    unfold iRange1
    rw [args1 (r := vi m) rfl]
    simp only [Option.bind_some]
    rw [if_pos ⟨by omega, by omega⟩, range_map]
  · obtain ⟨j, _, rfl⟩ := List.mem_map.mp hx
    exact nameK_low lowS o26.1 st0.1 j
  · obtain ⟨j, _, rfl⟩ := List.mem_map.mp hx
    have sl : ∀ a b, (Txt.slice stem a b).length ≤ 7 := fun a b => Nat.le_trans (Txt.slice_le stem a b) lenS
    have l1 : ∀ i, (ltr i).length = 1 := fun _ => rfl
    unfold nameK
    split
    · rw [app_len, app_len, l1]
      have h1 := sl none (some at_); have h2 := sl (some at_) none
      omega
    · split
      · rw [app_len, l1]
        have h1 := sl none (some ((j : Int) * st % ((stem.length : Int) + 1)))
        omega
      · have u8 := md ((j : Int) * st) 8 (by decide)
        unfold ltr
        rw [mul_len (by omega)]
        omega
end Bc

namespace Bc
open PySem L2
/-! ### the law's web -/
theorem webOk_nil : WebOk [] := ⟨List.nodup_nil, fun i n es e => by simp at e, fun p hp => by simp at hp, by simp⟩
theorem webOk_add {W : Web} {p : Str × List Str} (h : WebOk W) (hn : p.1 ∉ nm W) (he : ∀ e ∈ p.2, e ∈ nm W) (hf : p.2.length ≤ 4) (hl : W.length < 12) : WebOk (W ++ [p]) := by
  refine ⟨by rw [nm_snoc]; exact nd_snoc h.nd hn, fun i n es e => ?_, fun q hq => ?_, by simp; omega⟩
  · by_cases hi : i < W.length
    · rw [List.getElem?_append_left hi] at e
      rw [List.take_append_of_le_length (by omega)]
      exact h.el i n es e
    · rw [List.getElem?_append_right (by omega)] at e
      have hi2 : i - W.length = 0 := by
        have := (List.getElem?_eq_some_iff.mp e).1
        simp at this; omega
      rw [hi2] at e
      cases e
      have : i = W.length := by omega
      subst this
      rw [List.take_append_of_le_length (Nat.le_refl _), List.take_length]
      exact he
  · rcases List.mem_append.mp hq with hq | hq
    · exact h.few q hq
    · rw [List.mem_singleton.mp hq]; exact hf
theorem cut_pre (ds : List PyData) (k : Nat) (h : k ≤ ds.length) : cutD ds none (some (k : Int)) = ds.take k := by
  unfold cutD
  have e1 : HT.sIx ds.length 0 none = 0 := rfl
  rw [e1, HT.sIx_nat]
  simp
theorem enum_map {α : Type} (enc : α → PyData) (l : List α) : enumD (l.map enc) = (l.zipIdx).map fun (p : α × Nat) => PyData.tuple [.int (p.2 : Int), enc p.1] := by
  unfold enumD
  rw [List.zipIdx_map, List.map_map]; rfl
theorem nd_inj {α : Type} {l : List α} (nd : l.Nodup) {i j : Nat} {hi : i < l.length} {hj : j < l.length} (e : l[i] = l[j]) : i = j := by
  rcases Nat.lt_trichotomy i j with h | h | h
  · exact absurd e (List.pairwise_iff_getElem.mp nd i j hi hj h)
  · exact h
  · exact absurd e.symm (List.pairwise_iff_getElem.mp nd j i hj hi h)
theorem erase_perm {α : Type} : ∀ (l : List α) (i : Nat) (h : i < l.length), (l[i] :: l.eraseIdx i).Perm l
  | [], _, h => by simp at h
  | a :: l, 0, _ => List.Perm.refl _
  | a :: l, i + 1, h => by
    have hi : i < l.length := by simpa using h
    have ih := erase_perm l i hi
    show (l[i] :: a :: l.eraseIdx i).Perm (a :: l)
    exact (List.Perm.swap a l[i] _).trans (List.Perm.cons a ih)
theorem map_erase {α β : Type} (f : α → β) : ∀ (l : List α) (i : Nat), (l.map f).eraseIdx i = (l.eraseIdx i).map f
  | [], _ => rfl
  | _ :: _, 0 => rfl
  | a :: l, i + 1 => by
    show f a :: (l.map f).eraseIdx i = f a :: (l.eraseIdx i).map f
    rw [map_erase f l i]
theorem net_inner {A B C : Sl} {kk : Nat} {nn : Sl} {xs : List Str} (hx : xs.length ≤ 12) : ∀ (t : Nat) (ls es : List Str) (rs : Int) (s8 s9 : Sl), (es ++ ls).Perm xs → t + es.length ≤ 4 → t ≤ ls.length →
    ∃ es' s5 s6 s8' s9', forL (gN 8) (sSeq (sSet 9 (eOp modD (eVar 6) (eCB lenD (aCons (eVar 5) aNil)))) (sSeq (sSet 6 (eOp fdivD (eVar 6) (eCB lenD (aCons (eVar 5) aNil)))) (sAppPop 7 5 (eVar 9)))) ((List.range' es.length t).map fun (k : Nat) => PyData.int (k : Int)) [A, B, C, .pl (.int (kk : Int)), nn, .ac (strsD ls), .pl (.int rs), .ac (strsD es), s8, s9] =
      some (.nx [A, B, C, .pl (.int (kk : Int)), nn, s5, s6, .ac (strsD es'), s8', s9']) ∧ es'.Nodup = es'.Nodup ∧ (∃ ls', (es' ++ ls').Perm xs) ∧ es'.length = t + es.length
  | 0, ls, es, rs, s8, s9, pm, _, _ => ⟨es, _, _, s8, s9, rfl, rfl, ⟨ls, pm⟩, by simp⟩
  | t + 1, ls, es, rs, s8, s9, pm, h4, hl => by
    have hls : 0 < ls.length := by omega
    have pl := pm.length_eq
    rw [List.length_append] at pl
    have a0 := Int.emod_nonneg rs (show ((ls.length : Nat) : Int) ≠ 0 by omega)
    have a1 := Int.emod_lt_of_pos rs (show (0 : Int) < ((ls.length : Nat) : Int) by omega)
    have hk : (rs % ((ls.length : Nat) : Int)).toNat < ls.length := by omega
    have e9 : ((rs % ((ls.length : Nat) : Int)).toNat : Int) = rs % ((ls.length : Nat) : Int) := by omega
    generalize eA : (rs % ((ls.length : Nat) : Int)).toNat = at_ at hk e9
    have pm2 : ((es ++ [ls[at_]]) ++ ls.eraseIdx at_).Perm xs := by
      refine List.Perm.trans ?_ pm
      rw [List.append_assoc]
      exact List.Perm.append_left es (erase_perm ls at_ hk)
    obtain ⟨es', s5, s6, s8', s9', q, _, hp, hlen⟩ := net_inner (A := A) (B := B) (C := C) (kk := kk) (nn := nn) hx t (ls.eraseIdx at_) (es ++ [ls[at_]]) (rs / ((ls.length : Nat) : Int)) (.pl (.int (es.length : Int))) (.pl (.int (at_ : Int))) pm2 (by simp; omega) (by rw [List.length_eraseIdx_of_lt hk]; omega)
    refine ⟨es', s5, s6, s8', s9', ?_, rfl, hp, by rw [hlen]; simp; omega⟩
    rw [List.range'_succ, List.map_cons]
    unfold forL
    simp only [gN, Option.bind_some, List.set_cons_succ, List.set_cons_zero]
    have st1 : sSet 9 (eOp modD (eVar 6) (eCB lenD (aCons (eVar 5) aNil))) [A, B, C, .pl (.int (kk : Int)), nn, .ac (strsD ls), .pl (.int rs), .ac (strsD es), .pl (.int (es.length : Int)), s9] = some (.nx [A, B, C, .pl (.int (kk : Int)), nn, .ac (strsD ls), .pl (.int rs), .ac (strsD es), .pl (.int (es.length : Int)), .pl (.int (at_ : Int))]) := by
      have := set_is (i := 9) (e_mod (a := eVar 6) (env := [A, B, C, .pl (.int (kk : Int)), nn, .ac (strsD ls), .pl (.int rs), .ac (strsD es), .pl (.int (es.length : Int)), s9]) rfl (e_lenL (a := eVar 5) rfl) (by rw [List.length_map]; omega))
      rw [this, List.length_map, ← e9]; rfl
    have st2 : sSet 6 (eOp fdivD (eVar 6) (eCB lenD (aCons (eVar 5) aNil))) [A, B, C, .pl (.int (kk : Int)), nn, .ac (strsD ls), .pl (.int rs), .ac (strsD es), .pl (.int (es.length : Int)), .pl (.int (at_ : Int))] = some (.nx [A, B, C, .pl (.int (kk : Int)), nn, .ac (strsD ls), .pl (.int (rs / ((ls.length : Nat) : Int))), .ac (strsD es), .pl (.int (es.length : Int)), .pl (.int (at_ : Int))]) := by
      have := set_is (i := 6) (e_fdiv (a := eVar 6) (env := [A, B, C, .pl (.int (kk : Int)), nn, .ac (strsD ls), .pl (.int rs), .ac (strsD es), .pl (.int (es.length : Int)), .pl (.int (at_ : Int))]) rfl (e_lenL (a := eVar 5) rfl) (by rw [List.length_map]; omega) (by rw [List.length_map]; omega))
      rw [this, List.length_map]; rfl
    have st3 : sAppPop 7 5 (eVar 9) [A, B, C, .pl (.int (kk : Int)), nn, .ac (strsD ls), .pl (.int (rs / ((ls.length : Nat) : Int))), .ac (strsD es), .pl (.int (es.length : Int)), .pl (.int (at_ : Int))] = some (.nx [A, B, C, .pl (.int (kk : Int)), nn, .ac (strsD (ls.eraseIdx at_)), .pl (.int (rs / ((ls.length : Nat) : Int))), .ac (strsD (es ++ [ls[at_]])), .pl (.int (es.length : Int)), .pl (.int (at_ : Int))]) := by
      simp only [sAppPop, strsD, eVar, List.getElem?_cons_succ, List.getElem?_cons_zero, Option.bind_some]
      rw [if_pos ⟨by omega, by omega, by rw [List.length_map]; omega, by decide⟩, Int.toNat_natCast, List.getElem?_map, List.getElem?_eq_getElem hk]
      simp [map_erase]
    rw [seq_nx st1 (seq_nx st2 st3), Option.bind_some]
    rw [show (es ++ [ls[at_]]).length = es.length + 1 by simp] at q
    exact q
theorem g_law_net {cs : List Int} {xs : List Str} (hle : xs.length ≤ cs.length) (h12 : xs.length ≤ 12) (nd : xs.Nodup) : ∃ W, G_law_net [intsD cs, strsD xs] = some (webD W, true) ∧ nm W = xs ∧ WebOk W := by
  have loop : ∃ env', forL (gT 2 (gsCons 3 (gsCons 4 gsNil))) (sSeq (sSet 5 (eSl (eVar 1) pNone (pSome (eVar 3))))
    (sSeq (sSet 6 (eOp fdivD (eIxV 0 (eVar 3)) (eC (.int 5))))
    (sSeq (sSet 7 (eLst aNil))
    (sSeq (sFor (iRange1 (aCons (eCB minD (aCons (eOp modD (eIxV 0 (eVar 3)) (eC (.int 5))) (aCons (eVar 3) aNil))) aNil)) (gN 8)
    (sSeq (sSet 9 (eOp modD (eVar 6) (eCB lenD (aCons (eVar 5) aNil))))
    (sSeq (sSet 6 (eOp fdivD (eVar 6) (eCB lenD (aCons (eVar 5) aNil))))
    (sAppPop 7 5 (eVar 9)))))
    (sApp 2 (eTup (aCons (eVar 4) (aCons (eVar 7) aNil)))))))) ((xs.zipIdx).map fun (p : Str × Nat) => PyData.tuple [.int (p.2 : Int), .str p.1]) [.pl (intsD cs), .pl (strsD xs), .ac (webD []), .no, .no, .no, .no, .no, .no, .no] = some (.nx env') ∧
      ∃ W s3 s4 s5 s6 s7 s8 s9, env' = [.pl (intsD cs), .pl (strsD xs), .ac (webD W), s3, s4, s5, s6, s7, s8, s9] ∧ nm W = (xs.zipIdx).map (fun p : Str × Nat => p.1) ∧ WebOk W := by
    refine forL_runs (fun pre env => ∃ W s3 s4 s5 s6 s7 s8 s9, env = [.pl (intsD cs), .pl (strsD xs), .ac (webD W), s3, s4, s5, s6, s7, s8, s9] ∧ nm W = pre.map (fun p : Str × Nat => p.1) ∧ WebOk W) ⟨[], _, _, _, _, _, _, _, rfl, rfl, webOk_nil⟩ ?_
    rintro pre ⟨n, i⟩ post env hp ⟨W, s3, s4, s5, s6, s7, s8, s9, rfl, hnm, ok⟩
    -- the place
    have hz : (xs.zipIdx)[pre.length]? = some (n, i) := by rw [← hp]; simp
    rw [List.getElem?_zipIdx] at hz
    have hi : i = pre.length ∧ xs[pre.length]? = some n := by
      cases e : xs[pre.length]? with
      | none => rw [e] at hz; cases hz
      | some y => rw [e] at hz; simp at hz; exact ⟨by omega, by rw [hz.1]⟩
    obtain ⟨rfl, hn⟩ := hi
    have hix : pre.length < xs.length := (List.getElem?_eq_some_iff.mp hn).1
    have hic : pre.length < cs.length := by omega
    have hpre : pre.map (fun p : Str × Nat => p.1) = xs.take pre.length := by
      have e1 : (xs.zipIdx).map (fun p : Str × Nat => p.1) = xs := List.zipIdx_map_fst 0 xs
      have e2 := congrArg (fun l : List (Str × Nat) => (l.map (fun p : Str × Nat => p.1)).take pre.length) hp
      simp only [e1] at e2
      rw [← e2, List.map_append, List.take_append_of_le_length (by simp), ← List.map_take, List.take_length]
    have hWl : W.length = pre.length := by
      have := congrArg List.length hnm
      unfold nm at this
      simpa using this
    have gc : ∀ {env : DEnv}, env[0]? = some (.pl (intsD cs)) → env[3]? = some (.pl (.int (pre.length : Int))) → eIxV 0 (eVar 3) env = some (vi cs[pre.length]) := fun {env} h0 h3 =>
      e_ixV (ds := cs.map .int) h0 (by unfold eVar; rw [h3]) (by rw [List.getElem?_map, List.getElem?_eq_getElem hic]; rfl)
    have m5 := Int.emod_nonneg cs[pre.length] (show (5 : Int) ≠ 0 by decide)
    have m5' := Int.emod_lt_of_pos cs[pre.length] (show (0 : Int) < 5 by decide)
    generalize eN : (if ((pre.length : Nat) : Int) < cs[pre.length] % 5 then ((pre.length : Nat) : Int) else cs[pre.length] % 5) = N
    have hN : 0 ≤ N ∧ N ≤ pre.length ∧ N ≤ 4 := by rw [← eN]; split <;> omega
    have tl : (xs.take pre.length).length = pre.length := by rw [List.length_take]; omega
    obtain ⟨es, s5', s6', s8', s9', q, _, ⟨ls, pm⟩, hes⟩ := net_inner (A := .pl (intsD cs)) (B := .pl (strsD xs)) (C := .ac (webD W)) (kk := pre.length) (nn := .pl (.str n)) (xs := xs.take pre.length) (by omega) N.toNat (xs.take pre.length) [] (cs[pre.length] / 5) s8 s9 (List.Perm.refl _) (by simp; omega) (by omega)
    have ndT : (xs.take pre.length).Nodup := nd.sublist (List.take_sublist _ _)
    have ndE : es.Nodup := (List.nodup_append.mp (pm.nodup_iff.mpr ndT)).1
    have subE : ∀ e ∈ es, e ∈ nm W := fun e he => by rw [hnm, hpre]; exact pm.mem_iff.mp (List.mem_append_left _ he)
    have nW : n ∉ nm W := by
      rw [hnm, hpre]
      intro hm
      obtain ⟨j, hj, ej⟩ := List.getElem_of_mem hm
      rw [List.getElem_take] at ej
      obtain ⟨hh, en⟩ := List.getElem?_eq_some_iff.mp hn
      have := nd_inj nd (ej.trans en.symm)
      rw [tl] at hj
      omega
    refine ⟨_, [.pl (intsD cs), .pl (strsD xs), .ac (webD (W ++ [(n, es)])), .pl (.int (pre.length : Int)), .pl (.str n), s5', s6', .pl (strsD es), s8', s9'], rfl, .inl ?_, W ++ [(n, es)], _, _, _, _, _, _, _, rfl, by rw [nm_snoc, hnm]; simp, webOk_add ok nW subE (by rw [hes]; simp; omega) (by omega)⟩
    have st5 : sSet 5 (eSl (eVar 1) pNone (pSome (eVar 3))) [.pl (intsD cs), .pl (strsD xs), .ac (webD W), .pl (.int (pre.length : Int)), .pl (.str n), s5, s6, s7, s8, s9] = some (.nx [.pl (intsD cs), .pl (strsD xs), .ac (webD W), .pl (.int (pre.length : Int)), .pl (.str n), .ac (strsD (xs.take pre.length)), s6, s7, s8, s9]) := by
      have : eSl (eVar 1) pNone (pSome (eVar 3)) [.pl (intsD cs), .pl (strsD xs), .ac (webD W), .pl (.int (pre.length : Int)), .pl (.str n), s5, s6, s7, s8, s9] = some ⟨strsD (xs.take pre.length), true, []⟩ := by
        simp only [eSl, eVar, pNone, pSome, List.getElem?_cons_succ, List.getElem?_cons_zero, Option.bind_some, strsD, slD]
        rw [cut_pre _ _ (by rw [List.length_map]; omega), ← List.map_take]
        simp [bsOf, flatD]
      exact set_is this
    refine seq_nx st5 (seq_nx (set_is (r := vi _) (e_fdiv (gc rfl rfl) rfl (by decide) (by decide))) (seq_nx rfl (seq_nx (for_is (ds := (List.range' ([] : List Str).length N.toNat).map fun (k : Nat) => PyData.int (k : Int)) (bs := []) ?_ q) ?_)))
    · have : eCB minD (aCons (eOp modD (eIxV 0 (eVar 3)) (eC (.int 5))) (aCons (eVar 3) aNil)) [.pl (intsD cs), .pl (strsD xs), .ac (webD W), .pl (.int (pre.length : Int)), .pl (.str n), .ac (strsD (xs.take pre.length)), .pl (.int (cs[pre.length] / 5)), .ac (.list []), s8, s9] = some (vi N) := by
        unfold eCB aCons
        rw [e_mod (gc rfl rfl) (j := 5) rfl (by decide)]
        show ((minD [.int (cs[pre.length] % 5), .int ((pre.length : Nat) : Int)]).bind fun z => some (⟨z.1, z.2, bsOf z.1 _⟩ : Val)) = _
        unfold minD
        simp only [Option.bind_some]
        rw [eN]; rfl
      show iRange1 _ [.pl (intsD cs), .pl (strsD xs), .ac (webD W), .pl (.int (pre.length : Int)), .pl (.str n), .ac (strsD (xs.take pre.length)), .pl (.int (cs[pre.length] / 5)), .ac (.list []), s8, s9] = _
      unfold iRange1
      rw [args1 this]
      simp only [Option.bind_some]
      rw [if_pos ⟨by omega, by omega⟩, range_map, List.range_eq_range']
      rfl
    · have lz : (W.map rowD).length < 100000 := by rw [List.length_map]; omega
      simp only [sApp, webD, eTup, aCons, aNil, eVar, List.getElem?_cons_succ, List.getElem?_cons_zero, Option.bind_some, Option.map_some, datas, bss]
      rw [if_pos (by simp)]
      simp only [Option.bind_some]
      rw [if_pos ⟨lz, by simp⟩]
      simp [frzs, frz1, rowD, strsD]
  obtain ⟨env', hl, W, s3, s4, s5, s6, s7, s8, s9, rfl, hnm, ok⟩ := loop
  refine ⟨W, fn_rt (env := [.pl (intsD cs), .pl (strsD xs), .no, .no, .no, .no, .no, .no, .no, .no]) rfl (seq_nx rfl (seq_nx (for_is (ds := (xs.zipIdx).map fun (p : Str × Nat) => PyData.tuple [.int (p.2 : Int), .str p.1]) (bs := []) ?_ hl) rfl)), hnm.trans (List.zipIdx_map_fst 0 xs), ok⟩
  unfold iEnumF
  rw [args1 (r := ⟨strsD xs, false, []⟩) rfl]
  simp only [Option.bind_some, strsD]
  rw [enum_map]
end Bc

namespace Bc
open PySem L2
section
variable {a b : EF} {env : DEnv} {x y : Str}
theorem e_in {neg : Bool} {xs : List Str} {fr : Bool} {bs : List Nat} (ha : a env = some (vs x)) (hb : b env = some ⟨strsD xs, fr, bs⟩) : eOp (inD neg) a b env = some (vb (if neg then !decide (x ∈ xs) else decide (x ∈ xs))) := by
  unfold eOp; rw [ha, hb]; simp [in_strs, bsOf, flatD]
theorem e_getV {k : Nat} {kvs : List (PyData × PyData)} {d : PyData} (he : env[k]? = some (.pl (.dict kvs)) ∨ env[k]? = some (.ac (.dict kvs))) (hb : b env = some (vs y)) (hd : dgetD kvs (Sum.inr y) = some d) : eDGetV k b env = some ⟨d, false, []⟩ := by
  unfold eDGetV
  rcases he with he | he <;> rw [he] <;> simp only <;> rw [hb] <;> simp [keyD, hd]
theorem at_last {α : Type} {l : List α} (h : l ≠ []) : atI l (-1) = some (l.getLast h) := by
  have := atI_last l.dropLast (l.getLast h)
  rwa [List.dropLast_concat_getLast h] at this
theorem e_lastP {k : Nat} {ds : List PyData} (he : env[k]? = some (.pl (.list ds))) (h : ds ≠ []) : eIxV k (eNeg (eC (.int 1))) env = some ⟨ds.getLast h, false, []⟩ := by
  unfold eIxV
  rw [he]
  unfold eOp eVar eNeg eC
  rw [he]
  simp only [Option.bind_some, ixD]
  rw [at_last h]
  simp [bsOf]
theorem e_lastA {k : Nat} {ds : List PyData} (he : env[k]? = some (.ac (.list ds))) (h : ds ≠ []) : eIxV k (eNeg (eC (.int 1))) env = some ⟨ds.getLast h, false, []⟩ := by
  unfold eIxV eNeg eC
  rw [he]
  simp only [Option.bind_some]
  rw [at_last h]; rfl
end
theorem dict_fold : ∀ (W : Web), (nm W).Nodup → dmergeD [] (dS strsD W) = dS strsD W := by
  refine snocInd (fun _ => rfl) fun W p ih h => ?_
  rw [nm_snoc] at h
  have e : dS strsD (W ++ [p]) = dS strsD W ++ [(.str p.1, strsD p.2)] := by unfold dS; rw [List.map_append]; rfl
  rw [e]
  unfold dmergeD at ih ⊢
  rw [List.foldl_append, ih (List.nodup_append.mp h).1, ← e]
  exact dput_dS strsD fun hm => (List.nodup_append.mp h).2.2 p.1 hm p.1 (by simp) rfl
theorem pairs_web : ∀ (W : Web), pairsD (W.map rowD) = some (dS strsD W)
  | [] => rfl
  | p :: W => by
    rw [List.map_cons]
    unfold rowD pairsD
    simp only [keyD, Option.bind_some]
    rw [show W.map (fun p => PyData.tuple [.str p.1, strsD p.2]) = W.map rowD from rfl, pairs_web W]
    rfl
theorem dict_web {W : Web} (h : (nm W).Nodup) : dictD [webD W] = some (.dict (dS strsD W), true) := by
  unfold dictD webD
  simp only
  rw [pairs_web, Option.map_some, dict_fold W h]
/-! ### elders stand ahead -/
theorem lookup_at {n : Str} {es : List Str} : ∀ {W : Web}, W.lookup n = some es → W[(nm W).idxOf n]? = some (n, es)
  | [], h => by cases h
  | (a, b) :: W, h => by
    rw [List.lookup_cons] at h
    show ((a, b) :: W)[(a :: nm W).idxOf n]? = _
    rw [List.idxOf_cons]
    cases e : n == a with
    | true =>
      rw [e] at h
      cases h
      rw [← eq_of_beq e]
      simp
    | false =>
      rw [e] at h
      have hne : (a == n) = false := by
        have := beq_eq_false_iff_ne.mp e
        exact beq_eq_false_iff_ne.mpr (Ne.symm this)
      rw [hne]
      simpa using lookup_at (W := W) h
theorem idx_take {l : List Str} {n : Nat} {x : Str} (h : x ∈ l.take n) : l.idxOf x < n := by
  have : l.idxOf x = (l.take n).idxOf x := by
    conv => lhs; rw [← List.take_append_drop n l]
    rw [List.idxOf_append, if_pos h]
  rw [this]
  have h2 := List.idxOf_lt_length_of_mem h
  rw [List.length_take] at h2
  omega
theorem eld_lt {W : Web} (h : WebOk W) {n e : Str} (he : e ∈ upL W n) : e ∈ nm W ∧ (nm W).idxOf e < (nm W).idxOf n := by
  unfold upL at he
  cases hl : W.lookup n with
  | none => rw [hl] at he; simp at he
  | some es =>
    rw [hl] at he
    have hi := lookup_at hl
    have q := h.el _ _ _ hi e he
    have : nm (W.take ((nm W).idxOf n)) = (nm W).take ((nm W).idxOf n) := by unfold nm; rw [List.map_take]
    rw [this] at q
    exact ⟨List.mem_of_mem_take q, idx_take q⟩
theorem lookup_nm {W : Web} {n : Str} (h : n ∈ nm W) : ∃ es, W.lookup n = some es ∧ (n, es) ∈ W := lookup_some (l := W) (n := n) h
theorem up_eld {W : Web} (h : WebOk W) {n x : Str} (hn : n ∈ nm W) : x ∈ up W n ↔ x = n ∨ ∃ e ∈ upL W n, x ∈ up W e := by
  obtain ⟨es, hl, hm⟩ := lookup_nm hn
  rw [up_mem h hm]
  unfold upL
  rw [hl]; rfl
/-- a road -/
def Walk (W : Web) : Str → List Str → Str → Prop
  | c, [], o => c = o
  | c, d :: q, o => d ∈ upL W c ∧ Walk W d q o
theorem walk_last {W : Web} : ∀ {q : List Str} {c o : Str}, Walk W c q o → (c :: q).getLast (by simp) = o
  | [], _, _, w => w
  | d :: q, c, o, w => by rw [List.getLast_cons (by simp)]; exact walk_last w.2
theorem walk_up {W : Web} (h : WebOk W) : ∀ {q : List Str} {c o : Str}, c ∈ nm W → Walk W c q o → o ∈ up W c
  | [], c, _, hc, w => by rw [← (show c = _ from w)]; exact up_self h hc
  | d :: q, c, o, hc, w => (up_eld h hc).mpr (.inr ⟨d, w.1, walk_up h (eld_lt h w.1).1 w.2⟩)
theorem strs_last {l : List Str} (h : l ≠ []) : (l.map PyData.str).getLast (by simpa using h) = .str (l.getLast h) := by rw [List.getLast_map]
/-! ### road -/
theorem ups_lookup {W : Web} {n : Str} (h : n ∈ nm W) : (ups W).lookup n = some (up W n) := by
  obtain ⟨ks, e, _⟩ := lookup_some (l := ups W) (n := n) (by rw [keys_ups]; exact h)
  unfold up upL
  rw [e]; rfl
theorem chk2 {W : Web} (h : WebOk W) {k o : Str} (hk : k ∈ nm W) (ho : o ∈ nm W) {env : DEnv} (h0 : env[0]? = some (.pl (webD W))) (h1 : env[1]? = some (.pl (.str k))) (h2 : env[2]? = some (.pl (.str o))) :
    sExpr (eCall 2 G_check_kinds (aCons (eVar 0) (aCons (eLst (aCons (eVar 1) (aCons (eVar 2) aNil))) aNil))) env = some (.nx env) := by
  refine expr_is (r := ⟨.none, false, []⟩) ?_
  have e0 : eVar 0 env = some ⟨webD W, false, []⟩ := by unfold eVar; rw [h0]
  have e1 : eVar 1 env = some (vs k) := by unfold eVar; rw [h1]
  have e2 : eVar 2 env = some (vs o) := by unfold eVar; rw [h2]
  have ea : aCons (eVar 0) (aCons (eLst (aCons (eVar 1) (aCons (eVar 2) aNil))) aNil) env = some [⟨webD W, false, []⟩, ⟨strsD [k, o], true, []⟩] := by
    simp only [aCons, eLst, aNil]
    rw [e0, e1, e2]
    rfl
  have hw : W.length < 100000 := by have := h.len; omega
  rw [call_is (n := 2) ea rfl (g_check_kinds hw (ns := [k, o]) (by intro n hn; simp at hn; rcases hn with rfl | rfl <;> assumption))]
  rfl
end Bc

namespace Bc
open PySem L2
/-! ### is_road, law_leads -/
theorem c1 : -(2 ^ 62) ≤ (1 : Int) := by omega
theorem c2 : (1 : Int) < 2 ^ 62 := by omega
theorem c3 {n : Nat} (h : n < 100000) : -(2 ^ 62) ≤ (n : Int) := by omega
theorem c4 {n : Nat} (h : n < 100000) : (n : Int) < 2 ^ 62 := by omega
theorem range1_map (n : Nat) : rangeD 1 n = (List.range n).map (fun (k : Nat) => PyData.int ((k + 1 : Nat) : Int)) := by
  unfold rangeD
  refine List.map_congr_left fun k _ => ?_
  show PyData.int (1 + (k : Int)) = PyData.int ((k + 1 : Nat) : Int)
  congr 1
  omega
theorem args_cons {a : EF} {f : AF} {env : DEnv} {r : Val} {rs : List Val} (ha : a env = some r) (hf : f env = some rs) : aCons a f env = some (r :: rs) := by unfold aCons; rw [ha, hf]; rfl
theorem it2 {a b : EF} {env : DEnv} {i j : Int} (ha : a env = some (vi i)) (hb : b env = some (vi j)) (h : -(2 ^ 62) ≤ i ∧ i < 2 ^ 62 ∧ -(2 ^ 62) ≤ j ∧ j < 2 ^ 62) : iRange2 (aCons a (aCons b aNil)) env = some (rangeD i (j - i).toNat, []) := by
  unfold iRange2
  rw [args_cons ha (args1 hb)]
  simp only [Option.bind_some]
  exact if_pos h
/-! ### law_right -/
theorem tnot_t {f : EF} {env : DEnv} {c : Bool} (h : f env = some (vb c)) : tNotF (tTru f) env = some (!c) := by unfold tNotF tTru; rw [h]; rfl
end Bc

namespace Bc
open PySem L2
/-! ### the law k07 -/
theorem cut_ints (cs : List Int) (a b : Nat) (h : b ≤ cs.length) (hab : a ≤ b) : cutD (cs.map .int) (some (a : Int)) (some (b : Int)) = ((cs.drop a).take (b - a)).map .int := by
  unfold cutD
  have e1 : min a cs.length = a := by omega
  have e2 : min b cs.length = b := by omega
  rw [HT.sIx_nat, HT.sIx_nat, List.length_map, e1, e2, ← List.map_drop, ← List.map_take]
theorem e_cell {env : DEnv} {cs : List Int} {b : EF} {n : Nat} (h1 : env[1]? = some (.pl (intsD cs))) (hb : b env = some (vi (n : Int))) (hn : n < cs.length) : eIxV 1 b env = some (vi (cs[n]'hn)) :=
  e_ixV (ds := cs.map .int) h1 hb (by rw [List.getElem?_map, List.getElem?_eq_getElem hn]; rfl)
end Bc

namespace L2
open PySem PySem.Spec PyProof.Rows
/-! ## comprehensions of two clauses -/
def tInner (wi : TI) (g : TG) (tt : TT) (tm : TM) : TM := fun σ H Q => wi σ H fun J H1 => tWalk J g tt tm σ H1 Q
section
variable {X : Cx}
/-- a block's inner clause begins -/
theorem start_inner {M : Model} {P : Program} {w : World} {A : Around} {R : Result → Shared → Prop} {s : Shared} {elt : Expr} {g0 : Comprehension} {target iter : Expr} {ifs : List Expr} {rest : List Comprehension} {scope : Scope} {cpos : Pos} {it acc : Value} {env : Env}
    (l : codeAny (model P w) A (.compLoop (.ListComp elt (g0 :: ⟨target, iter, ifs, 0⟩ :: rest) scope cpos) 1 it acc env) R s)
    (t : ∀ (A : Around) (E : Value → Shared → Prop), wpAny (model P w) A (pyIter it) (fun u s' => u = it ∧ s' = s) E s) :
    codeAny (model P w) A (.compStart (.ListComp elt (g0 :: ⟨target, iter, ifs, 0⟩ :: rest) scope cpos) 1 it acc env) R s := by
  refine codeAny_of_tree ?_
  show wpAny _ _ ((compStart (.ListComp elt (g0 :: ⟨target, iter, ifs, 0⟩ :: rest) scope cpos) 1 it acc env).onRaise (fun x => do noteFrame x env; standAt theWindowsPlace)) _ _ s
  refine wpAny_notedAt ?_
  unfold compStart
  show wpAny _ _ (ask >>= _) _ _ s
  refine wpAny_bind (wpAny_askSetting (wpAny_ite ?_))
  split
  · first
      | exact wpAny_bind (wpAny_pure (wpAny_pure (And.intro rfl l)))
      | exact wpAny_pure (And.intro rfl l)
  · refine wpAny_bind (wpAny_rule ?_)
    first
      | exact wpAny_bind (wpAny_standAt (wpAny_bind (thn (t _ _) fun u s' z => by obtain ⟨e1, e2⟩ := z; subst e1; subst e2; exact wpAny_pure (And.intro rfl l))))
      | (show wpAny _ _ (standAt iter.pos >>= _) _ _ s; exact wpAny_bind (wpAny_standAt (wpAny_bind (thn (t _ _) fun u s' z => by obtain ⟨e1, e2⟩ := z; subst e1; subst e2; exact wpAny_pure (And.intro rfl l)))))
theorem pm_inner {elt0 : Expr} {g0 : Comprehension} {scope : Scope} {cpos : Pos} {target iter : Expr} {ifs : List Expr} {wi : TI} {g : TG} {tt : TT} {te : TE} {p : Addr}
    (hx : X.xe = fun _ _ => False) (hc : X.calm = true) (hi : PI X target iter wi) (hg : PG X target g) (ht : PF X ifs tt) (he : PE X elt0 te)
    (hs : ∀ x, foldedSetIterable iter X.env x = pure x) :
    PM X (do
      let x ← eval iter X.env
      standAt iter.pos
      let x ← foldedSetIterable iter X.env x
      let _ ← runOwn (.compStart (.ListComp elt0 [g0, ⟨target, iter, ifs, 0⟩] scope cpos) 1 (← holding [x] (pyIter x)) (.ref p) X.env) X.env) (tInner wi g tt (tEmit p te)) := by
  intro pins s σ H Q I h
  refine wpAny_bind (thn (hi pins s σ H _ I h) fun v s1 h1 => ?_)
  refine wpAny_bind (wpAny_standAt ?_)
  rw [hs]
  refine wpAny_bind (wpAny_pure (wpAny_bind (wpAny_holding (thn h1 fun itv s2 h2 => ?_))))
  obtain ⟨it, fp, tn, J, H2, e, I2, T, st2, f2, q⟩ := h2
  subst e
  refine wpAny_bind (thn (wpAny_runOwn (h := none) (Q := fun _ s' => ∃ σ' H', Inv X pins σ' H' s' ∧ Q σ' H') ?_) fun _ _ z => wpAny_pure z)
  refine start_inner (M := model X.prog X.w) ?_ fun A E => T.self A 0 s2 _ E st2 ⟨rfl, rfl⟩
  refine codeAny_mono (clause_loop (X := X) (pins := pins) hx hc (elt0 := elt0) (gens := [g0, ⟨target, iter, ifs, 0⟩]) (depth := 1) (ip := iter.pos) (emit := (do let _ ← call (.builtin "list.append") [.ref p, ← eval elt0 X.env])) rfl T hg ht (pm_emit he) I2 st2 f2 q) fun r s5 hr => ?_
  obtain ⟨rfl, z⟩ := hr
  exact z
theorem turn2 (elt target iter target2 iter2 : Expr) (ifs ifs2 : List Expr) (scope : Scope) (cpos : Pos) (it acc : Value) (env : Env) :
    compTurn (.ListComp elt [⟨target, iter, ifs, 0⟩, ⟨target2, iter2, ifs2, 0⟩] scope cpos) 0 it acc env = (do
      standAt iter.pos
      match ← pyNext it with
      | none => pure (.done .next)
      | some v =>
        letOwnedTupleGo target it v
        assign target env v
        let mut ok := true
        for c in ifs do
          if ok then ok ← isTrue c env (eval c env)
        if ok then do
          let x ← eval iter2 env
          standAt iter2.pos
          let x ← foldedSetIterable iter2 env x
          let i ← holding [x] (pyIter x)
          let _ ← runOwn (.compStart (.ListComp elt [⟨target, iter, ifs, 0⟩, ⟨target2, iter2, ifs2, 0⟩] scope cpos) 1 i acc env) env
          again (.compLoop (.ListComp elt [⟨target, iter, ifs, 0⟩, ⟨target2, iter2, ifs2, 0⟩] scope cpos) 0 it acc env)
        else again (.compLoop (.ListComp elt [⟨target, iter, ifs, 0⟩, ⟨target2, iter2, ifs2, 0⟩] scope cpos) 0 it acc env)) := rfl
def tComp2 (wi : TI) (g : TG) (tt : TT) (wi2 : TI) (g2 : TG) (tt2 : TT) (te : TE) (own : List Str) (fr : List Nat) : TE := tComp wi g tt (fun p => tInner wi2 g2 tt2 (tEmit p te)) own fr
theorem pe_comp2 {scope : Scope} {N' own : List Str} {fr : List Nat} {elt target iter target2 iter2 : Expr} {ifs ifs2 : List Expr} {cpos : Pos} {wi wi2 : TI} {g g2 : TG} {tt tt2 : TT} {te : TE} (c : CompOk X scope N' own fr) (hc : X.calm = true) (hi : PI X target iter wi)
    (hb : ∀ (cl : List (Str × Addr)) (C : Addr) (s : Shared) (H : Hp) (fp : List Addr), PG (cxComp X scope N' own cl C s H fp) target g ∧ PF (cxComp X scope N' own cl C s H fp) ifs tt ∧ PI (cxComp X scope N' own cl C s H fp) target2 iter2 wi2 ∧ PG (cxComp X scope N' own cl C s H fp) target2 g2 ∧ PF (cxComp X scope N' own cl C s H fp) ifs2 tt2 ∧ PE (cxComp X scope N' own cl C s H fp) elt te)
    (hs : ∀ x, foldedSetIterable iter X.env x = pure x := by intro _; rfl) (hs2 : ∀ env x, foldedSetIterable iter2 env x = pure x := by intro _ _; rfl) :
    PE X (.ListComp elt [⟨target, iter, ifs, 0⟩, ⟨target2, iter2, ifs2, 0⟩] scope cpos) (tComp2 wi g tt wi2 g2 tt2 te own fr) :=
  pe_comp0 (emit := fun acc env => do
      let x ← eval iter2 env
      standAt iter2.pos
      let x ← foldedSetIterable iter2 env x
      let _ ← runOwn (.compStart (.ListComp elt [⟨target, iter, ifs, 0⟩, ⟨target2, iter2, ifs2, 0⟩] scope cpos) 1 (← holding [x] (pyIter x)) acc env) env) c hc (fun it acc env => by
      rw [turn2]
      refine bind_congr fun _ => bind_congr fun r => ?_
      cases r with
      | none => rfl
      | some v =>
        refine bind_congr fun _ => bind_congr fun _ => bind_congr fun ok => ?_
        cases ok with
        | false => rfl
        | true => simp only [if_true, bind_assoc, pure_bind]) hi
    (fun cl C s H fp p => let ⟨h1, h2, h3, h4, h5, h6⟩ := hb cl C s H fp; ⟨h1, h2, pm_inner (X := cxComp X scope N' own cl C s H fp) rfl hc h3 h4 h5 h6 (fun x => hs2 _ x)⟩) hs
end
/-! ### its meaning -/
def NoAc (env : DEnv) : Prop := ∀ (i : Nat) (d : PyData), env[i]? ≠ some (.ac d)
def GZ (lo hi : Nat) (g : GT) : Prop := ∀ d env e1, g d env = some e1 → e1.length = env.length ∧ (∀ i, (i < lo ∨ hi ≤ i) → e1[i]? = env[i]?) ∧ (NoAc env → NoAc e1)
theorem noAc_set {env : DEnv} {i : Nat} {d : PyData} (h : NoAc env) : NoAc (env.set i (.pl d)) := by
  intro j d' e
  by_cases q : i = j
  · subst q
    by_cases l : i < env.length
    · rw [List.getElem?_set_self l] at e; cases e
    · rw [List.getElem?_eq_none (by simp; omega)] at e; cases e
  · rw [List.getElem?_set_ne q] at e; exact h j d' e
theorem gz_name {lo hi i : Nat} (h : lo ≤ i) (h' : i < hi) : GZ lo hi (gN i) := by
  intro d env e1 e
  cases e
  exact ⟨List.length_set, fun j hj => List.getElem?_set_ne (by omega), noAc_set⟩
theorem compL_len {g : GT} {t : TF} {e : EF} {env : DEnv} : ∀ {ds rs : List PyData}, compL g t e env ds = some rs → rs.length ≤ ds.length
  | [], rs, h => by cases h; exact Nat.le_refl _
  | d :: ds, rs, h => by
    unfold compL at h
    obtain ⟨e1, _, h⟩ := Option.bind_eq_some_iff.mp h
    obtain ⟨b, _, h⟩ := Option.bind_eq_some_iff.mp h
    split at h
    · obtain ⟨r, _, h⟩ := Option.bind_eq_some_iff.mp h
      obtain ⟨rs', h', rfl⟩ := Option.map_eq_some_iff.mp h
      have := compL_len h'
      simp; omega
    · have := compL_len h
      simp; omega
def innL (f2 : IF') (g2 : GT) (t2 : TF) (e : EF) (e1 : DEnv) : Option (List PyData) := (f2 e1).bind fun z => if z.1.length < 300 then compL g2 t2 e e1 z.1 else none
def compL2 (g : GT) (t : TF) (f2 : IF') (g2 : GT) (t2 : TF) (e : EF) (env : DEnv) : List PyData → Option (List PyData)
  | [] => some []
  | d :: ds => (g d env).bind fun e1 => (t e1).bind fun b => if b = true then (innL f2 g2 t2 e e1).bind fun r1 => (compL2 g t f2 g2 t2 e env ds).map fun rs => r1 ++ rs else compL2 g t f2 g2 t2 e env ds
def eComp2 (own : List Str) (fr : List Nat) (fi : IF') (g : GT) (t : TF) (f2 : IF') (g2 : GT) (t2 : TF) (e : EF) : EF := fun env => (fi env).bind fun z => if z.1.length < 300 then
  (compL2 g t f2 g2 t2 e (envB own fr env) z.1).map fun rs => ⟨.list rs, true, if flatsD rs = true then [] else z.2 ++ capA fr env⟩ else none
theorem inner_ok {wi2 : TI} {g2 : TG} {tt2 : TT} {te : TE} {f2 : IF'} {gf2 : GT} {t2 : TF} {e : EF} {B : Addr → Prop} {H1 : Hp} {e1 : DEnv} {σ : St} {H : Hp} {p : Addr} {vs : List V} {done rest ds : List PyData} {bs : List Nat} {Q : St → Hp → Prop} {k n : Nat}
    (h5 : SI wi2 f2) (h6 : SG g2 gf2) (hy : GZ k n gf2) (h7 : ST tt2 t2) (h4 : SE te e) (na : NoAc e1) (no : ∀ (i : Nat) (d : PyData), k ≤ i → i < n → e1[i]? ≠ some (.pl d))
    (hB : B p) (hp : H1 p = none) (hE : EnvOk B H1 e1 σ H) (ep : H p = some (.lst vs)) (rd : Rps (Offs B H) done vs) (ei : f2 e1 = some (ds, bs)) (dl : done.length + ds.length < 100000) (ec : compL gf2 t2 e e1 ds = some rest)
    (q : ∀ σ' H' vs', H' p = some (.lst vs') → Rps (Offs B H') (done ++ rest) vs' → EnvOk B H1 e1 σ' H' → Q σ' H') : tInner wi2 g2 tt2 (tEmit p te) σ H Q := by
  refine h5 B H1 e1 σ H hE ds bs ei _ fun J H4 s4 yl => ?_
  have hE4 := hE.up s4
  have n4 : Offs (fun b => b = p) H4 p = none := Offs.out rfl
  refine ⟨fun i m σ' H' => m = ds.length - i ∧ i ≤ ds.length ∧ ∃ vs done' rest', H' p = some (.lst vs) ∧ Rps (Offs B H') done' vs ∧ done'.length ≤ done.length + i ∧ compL gf2 t2 e e1 (ds.drop i) = some rest' ∧ done' ++ rest' = done ++ rest ∧ EnvOk B (Offs (fun b => b = p) H4) e1 σ' H',
    ⟨ds.length, rfl, Nat.zero_le _, vs, done, rest, s4 _ _ ep, Rps.same (Offs.grow s4) _ rd, Nat.le_refl _, ec, rfl, ⟨hE4.len, hE4.pl, fun i d z => absurd z (na i d), hE4.inj, Offs.same _ _, hE4.fxs⟩⟩, ?_⟩
  rintro i m σ' H' ⟨rfl, hi, vs, done', rest', ep', rd', dl', ec', edr, hE'⟩
  obtain ⟨yi, ys⟩ := yl B H' hE'.fxs fun b o z => by
    obtain ⟨z1, z2⟩ := Offs.of z
    have hb : ¬ B b := fun y => z1 (.inl y)
    rw [Offs.get hb]
    exact hE'.base b o (by rw [Offs.get fun y => hb (by rw [y]; exact hB)]; exact z2)
  by_cases hlt : i < ds.length
  · obtain ⟨yg, yy⟩ := yi i ds[i] (List.getElem?_eq_getElem hlt)
    refine .inr ⟨yg, fun σ'' H'' => i + 1 ≤ ds.length ∧ ∃ vs done' rest', H'' p = some (.lst vs) ∧ Rps (Offs B H'') done' vs ∧ done'.length ≤ done.length + (i + 1) ∧ compL gf2 t2 e e1 (ds.drop (i + 1)) = some rest' ∧ done' ++ rest' = done ++ rest ∧ EnvOk B (Offs (fun b => b = p) H4) e1 σ'' H'', ?_, ?_⟩
    · rintro σ'' H'' ⟨hle, hh⟩
      exact ⟨ds.length - (i + 1), by omega, rfl, hle, hh⟩
    · intro x H'' hyx
      obtain ⟨sy, ry⟩ := yy x H'' hyx
      rw [List.drop_eq_getElem_cons hlt] at ec'
      obtain ⟨e2, ee2, ec'⟩ := Option.bind_eq_some_iff.mp ec'
      obtain ⟨b, eb, ec'⟩ := Option.bind_eq_some_iff.mp ec'
      have ry' : Rp (Offs (fun a => B a ∨ L2.own e1 σ' a) H'') ds[i] x := Rp.same (Offs.sub fun b z => z.elim (fun y => y) fun ⟨j, d', z, _⟩ => absurd z (na _ _)) _ ry
      refine h6 _ _ e1 σ' H'' _ x (hE'.up sy) ry' e2 ee2 _ fun σ2 hE2 => ?_
      refine h7 _ _ e2 σ2 H'' hE2 b eb _ fun H3 s3 => ?_
      have hE3 := hE2.up s3
      obtain ⟨gl, gk, _⟩ := hy _ _ _ ee2
      have back : ∀ {H4' : Hp}, EnvOk B (Offs (fun b => b = p) H4) e2 σ2 H4' → EnvOk B (Offs (fun b => b = p) H4) e1 σ2 H4' := fun {H4'} hh => hh.weaken gl.symm (fun j d' ej => by
        by_cases hj : j < k ∨ n ≤ j
        · rw [gk j hj]; exact ej
        · exact absurd ej (no j d' (by omega) (by omega))) na
      cases b with
      | false =>
        have ec' : compL gf2 t2 e e1 (ds.drop (i + 1)) = some rest' := ec'
        exact iteF ⟨hlt, vs, done', rest', s3 _ _ (sy _ _ ep'), Rps.same (Offs.grow (sy.trans s3)) _ rd', Nat.le_succ_of_le dl', ec', edr, back hE3⟩
      | true =>
        have ec' : ((e e2).bind fun r => (compL gf2 t2 e e1 (ds.drop (i + 1))).map fun rs => r.d :: rs) = some rest' := ec'
        obtain ⟨r, er, ec'⟩ := Option.bind_eq_some_iff.mp ec'
        obtain ⟨rest2, er', rfl⟩ := Option.map_eq_some_iff.mp ec'
        refine iteT (h4 _ _ e2 σ2 H3 hE3 r er _ fun v H5 s5 hv => ?_)
        have t5 := (sy.trans s3).trans s5
        refine ⟨vs, t5 _ _ ep', size_lt (by rw [← rd'.length]; omega), hlt, vs ++ [v], done' ++ [r.d], rest2, upd_same, ?_, by rw [List.length_append]; simp; omega, er', by rw [← edr]; simp, (back (hE3.up s5)).updFx hB n4⟩
        rw [Offs.upd hB]
        refine (Rps.same (Offs.grow t5) _ rd').append (rps_cons (Rp.same (Offs.sub fun b z => .inl z) _ hv.rp) rps_nil)
  · have hi' : i = ds.length := by omega
    subst hi'
    rw [List.drop_length] at ec'
    cases ec'
    rw [List.append_nil] at edr
    subst edr
    exact .inl ⟨ys, q σ' H' vs ep' rd' ⟨hE'.len, hE'.pl, fun i d z => absurd z (na i d), hE'.inj, fun b o z => hE'.base b o (by rw [Offs.get fun y => by rw [y, hp] at z; cases z]; exact s4 b o (hE.base b o z)), hE'.fxs⟩⟩
end L2

namespace L2
open PySem PySem.Spec PyProof.Rows
theorem envB_own {own : List Str} {fr : List Nat} {env : DEnv} {i : Nat} (h : i < own.length) : (envB own fr env)[i]? = some .no := by
  unfold envB
  rw [List.getElem?_append_left (by simpa using h), List.getElem?_map, List.getElem?_eq_getElem h]; rfl
theorem se_comp2 {own : List Str} {fr : List Nat} {wi wi2 : TI} {g g2 : TG} {tt tt2 : TT} {te : TE} {fi f2 : IF'} {gf gf2 : GT} {t t2 : TF} {e : EF} {k : Nat} (h1 : SI wi fi) (h2 : SG g gf) (hx : GZ 0 k gf) (hk : k ≤ own.length) (h3 : ST tt t)
    (h5 : SI wi2 f2) (h6 : SG g2 gf2) (hy : GZ k own.length gf2) (h7 : ST tt2 t2) (h4 : SE te e) :
    SE (tComp2 wi g tt wi2 g2 tt2 te own fr) (eComp2 own fr fi gf t f2 gf2 t2 e) := by
  intro fx H0 env σ H h rr hr Q q
  unfold eComp2 at hr
  obtain ⟨⟨ds, bs⟩, ei, hr⟩ := Option.bind_eq_some_iff.mp hr
  split at hr
  · rename_i hlen
    have hlen : ds.length < 300 := hlen
    obtain ⟨rs, ers, rfl⟩ := Option.map_eq_some_iff.mp hr
    refine h1 fx H0 env σ H h ds bs ei _ fun J H1 s yl => fun p hp => ?_
    have hB := env_block h s hp own fr bs
    generalize hA : (fun b => lim fx env σ (bs ++ capA fr env) b) = A
    have hA' : ∀ b, lim fx env σ (bs ++ capA fr env) b ↔ A b := fun b => by rw [← hA]
    have eA : (fun b => lim fx env σ (bs ++ capA fr env) b ∨ b = p) = fun b => A b ∨ b = p := by rw [← hA]
    rw [eA] at hB
    have seen : ∀ {σ' : St} {H' : Hp}, EnvOk (fun b => A b ∨ b = p) H1 (envB own fr env) σ' H' → Same (Offs (fun b => fx b ∨ L2.own (frzs env bs) σ b) H1) (Offs (fun b => A b ∨ b = p) H') := fun {σ' H'} hE => Offs.mono hE.base fun b o eo n z => by
      rcases z with z | z
      · rcases (hA' b).mpr z with z | ⟨i, d, z1, z2, z3⟩
        · exact n (.inl z)
        · exact n (.inr ⟨i, d, frzs_get (fun y => z1 (List.mem_append_left _ y)) z2, z3⟩)
      · rw [z, hp] at eo; cases eo
    refine ⟨fun i m σ' H' => m = ds.length - i ∧ i ≤ ds.length ∧ ∃ vs done rest, H' p = some (.lst vs) ∧ Rps (Offs (fun b => A b ∨ b = p) H') done vs ∧ done.length ≤ i * 300 ∧ compL2 gf t f2 gf2 t2 e (envB own fr env) (ds.drop i) = some rest ∧ done ++ rest = rs ∧ EnvOk (fun b => A b ∨ b = p) H1 (envB own fr env) σ' H',
      ⟨ds.length, rfl, Nat.zero_le _, [], [], rs, upd_same, rps_nil, Nat.zero_le _, ers, rfl, hB⟩, ?_⟩
    rintro i m σ' H' ⟨rfl, hi, vs, done, rest, ep, rd, dl, ec, edr, hE⟩
    obtain ⟨yi, ys⟩ := yl _ H' hE.fxs (seen hE)
    by_cases hlt : i < ds.length
    · obtain ⟨yg, yy⟩ := yi i ds[i] (List.getElem?_eq_getElem hlt)
      refine .inr ⟨yg, fun σ'' H'' => i + 1 ≤ ds.length ∧ ∃ vs done rest, H'' p = some (.lst vs) ∧ Rps (Offs (fun b => A b ∨ b = p) H'') done vs ∧ done.length ≤ (i + 1) * 300 ∧ compL2 gf t f2 gf2 t2 e (envB own fr env) (ds.drop (i + 1)) = some rest ∧ done ++ rest = rs ∧ EnvOk (fun b => A b ∨ b = p) H1 (envB own fr env) σ'' H'', ?_, ?_⟩
      · rintro σ'' H'' ⟨hle, hh⟩
        exact ⟨ds.length - (i + 1), by omega, rfl, hle, hh⟩
      · intro x H'' hyx
        obtain ⟨sy, ry⟩ := yy x H'' hyx
        rw [List.drop_eq_getElem_cons hlt] at ec
        obtain ⟨e1, ee1, ec⟩ := Option.bind_eq_some_iff.mp ec
        obtain ⟨b, eb, ec⟩ := Option.bind_eq_some_iff.mp ec
        have ry' : Rp (Offs (fun a => (A a ∨ a = p) ∨ L2.own (envB own fr env) σ' a) H'') ds[i] x := Rp.same (Offs.sub fun b z => z.elim (fun y => y) fun ⟨j, d', z, _⟩ => absurd z envB_ac) _ ry
        refine h2 _ H1 (envB own fr env) σ' H'' _ x (hE.up sy) ry' e1 ee1 _ fun σ2 hE2 => ?_
        refine h3 _ H1 e1 σ2 H'' hE2 b eb _ fun H3 s3 => ?_
        have hE3 := hE2.up s3
        obtain ⟨gl, gk, gn⟩ := hx _ _ _ ee1
        have na : NoAc e1 := gn fun _ _ => envB_ac
        have back : ∀ {σ4 : St} {H4 : Hp}, EnvOk (fun b => A b ∨ b = p) H1 e1 σ4 H4 → EnvOk (fun b => A b ∨ b = p) H1 (envB own fr env) σ4 H4 := fun {σ4 H4} hh => hh.weaken gl.symm (fun j d' ej => by
          by_cases hj : own.length ≤ j
          · rw [gk j (.inr (by omega))]; exact ej
          · obtain ⟨_, k, rfl, _⟩ := envB_get ej; omega) fun j d' => envB_ac
        cases b with
        | false =>
          have ec : compL2 gf t f2 gf2 t2 e (envB own fr env) (ds.drop (i + 1)) = some rest := ec
          exact iteF ⟨hlt, vs, done, rest, s3 _ _ (sy _ _ ep), Rps.same (Offs.grow (sy.trans s3)) _ rd, by omega, ec, edr, back hE3⟩
        | true =>
          have ec : ((innL f2 gf2 t2 e e1).bind fun r1 => (compL2 gf t f2 gf2 t2 e (envB own fr env) (ds.drop (i + 1))).map fun rs => r1 ++ rs) = some rest := ec
          obtain ⟨r1, er, ec⟩ := Option.bind_eq_some_iff.mp ec
          obtain ⟨rest', er', rfl⟩ := Option.map_eq_some_iff.mp ec
          obtain ⟨⟨ds2, bs2⟩, e2, er⟩ := Option.bind_eq_some_iff.mp er
          split at er
          · rename_i hl2
            have hl2 : ds2.length < 300 := hl2
            have l2 := compL_len er
            refine iteT (inner_ok (B := fun b => A b ∨ b = p) (p := p) (vs := vs) (done := done) h5 h6 hy h7 h4 na (fun j d' h8 h9 ej => ?_) (.inr rfl) hp hE3 (s3 _ _ (sy _ _ ep)) (Rps.same (Offs.grow (sy.trans s3)) _ rd) e2 (by omega) er fun σ5 H5 vs5 ep5 rd5 hE5 => ?_)
            · rw [gk j (.inr h8), envB_own h9] at ej; cases ej
            · have l2' : r1.length ≤ ds2.length := l2
              exact ⟨hlt, vs5, done ++ r1, rest', ep5, rd5, by rw [List.length_append]; omega, er', by rw [← edr, List.append_assoc], back hE5⟩
          · cases er
    · have hi' : i = ds.length := by omega
      subst hi'
      rw [List.drop_length] at ec
      cases ec
      rw [List.append_nil] at edr
      subst edr
      refine .inl ⟨ys, q _ H' (s.trans hE.base) ⟨?_, fun _ => ⟨p, rfl, s.free hp, ?_⟩⟩⟩
      · show Rp (Offs (lim fx env σ (if flatsD done = true then [] else bs ++ capA fr env)) H') (.list done) (.ref p)
        have nl : ∀ cs, ¬ lim fx env σ cs p := fun cs z => by
          obtain ⟨o, eo⟩ := (h.up s).lims _ p z
          rw [hp] at eo; cases eo
        refine rp_mk_list (by rw [Offs.get (nl _)]; exact ep) ?_
        split
        · rename_i f; exact rps_flats f rd
        · exact Rps.same (Offs.sub fun b z => .inl ((hA' b).mp z)) _ rd
      · show AccAt (Offs (fun b => lim fx env σ (if flatsD done = true then [] else bs ++ capA fr env) b ∨ b = p) H') H' p (.list done)
        refine ⟨vs, ep, ?_⟩
        split
        · rename_i f; exact rps_flats f rd
        · exact Rps.same (Offs.sub fun b z => z.imp (hA' b).mp id) _ rd
  · cases hr
end L2

namespace PySem
open Sem (wp)
theorem plain_set_loop : plainId "set.update.loop" = true := by decide +kernel
theorem entry_set_loop : entryFor table "set.update.loop" = some Builtin.«set.update.loop» := entryFor_of_fast (by kernel_rfl)
theorem list_not_set : isSubtype (.type "list") (.type "set") = pure false := by rw [isSubtype_type]; kernel_rfl
theorem list_not_froz : isSubtype (.type "list") (.type "frozenset") = pure false := by rw [isSubtype_type]; kernel_rfl
theorem made_set1 (a : Value) : checkBuiltinCall "set.__new__" ⟨[.type "set", a], []⟩ = pure () := by kernel_rfl
theorem typed_set1 (a : Value) : checkTypeCall "set" ⟨[a], []⟩ = pure () := by kernel_rfl
end PySem
namespace L2
open PySem PySem.Spec PyProof.Rows
instance memKey (k : Key) (l : List Key) : Decidable (k ∈ l) := decidable_of_iff (∃ x, x ∈ l ∧ x = k) ⟨fun ⟨x, h, e⟩ => e ▸ h, fun h => ⟨k, h, rfl⟩⟩
/-- how many unlike ones -/
def unl (seen : List Key) : List Key → Nat
  | [] => 0
  | k :: ks => (if k ∈ seen then 0 else 1) + unl (k :: seen) ks
theorem set_loop {prog : Program} {w : World} {A : Around} {R : Result → Shared → Prop} {d it l : Addr} {h0 : Heap} {items : List Value} {ks : List Key} (hA : A.in1.handled = none)
    (pr : Paired (fun (v : Value) (k : Key) => keyIs k v = true ∧ v.scannable = true) items ks) (hl : h0.IsList l items.toArray) (hd : h0.get? d = none) (hi : h0.get? it = none) (hdi : d ≠ it) (hz : items.length < 4000) :
    ∀ (k i : Nat) (s : Shared) (seen : List Key) (n : Nat), items.length - i = k → i ≤ items.length → s.heap.IsListIter it l i → s.heap.SetOf (mixKind prog w) d (fun x => decide (x ∈ seen)) n → (∀ b o, h0.get? b = some o → s.heap.get? b = some o) → n ≤ i →
    (∀ h' tk' S, h'.SetOf (mixKind prog w) d S (n + unl seen (ks.drop i)) → (∀ b o, h0.get? b = some o → h'.get? b = some o) → R (.ok (.ret .none)) { s with heap := h', toks := tk' }) →
    codeAny (model prog w) A (.builtin "set.update.loop" ⟨[.ref d, .ref it], []⟩) R s := by
  have hlen := pr.length
  have keepL : ∀ {h : Heap}, (∀ b o, h0.get? b = some o → h.get? b = some o) → h.IsList l items.toArray := fun {h} kp => Heap.IsList.at hl fun o e => kp _ o e
  intro k
  induction k with
  | zero =>
    intro i s seen n hk hile hit hdo kp hn hR
    have hin : i = items.length := by omega
    subst hin
    refine codeAny_builtin entry_set_loop ?_
    rw [Around.under_plainId plain_set_loop _]
    show wpAny _ A.in1 (pyNext (.ref it) >>= _) _ _ s
    refine wpAny_bind (wpAny_pyNext_list_end hA hit (keepL kp) (by simp) fun h' eb => ?_)
    refine wpAny_pure ?_
    refine hR h' s.toks (fun x => decide (x ∈ seen)) ?_ fun b o e => eb b o (fun z => by rw [z, hi] at e; cases e) (kp b o e)
    rw [List.drop_of_length_le (by omega)]
    obtain ⟨o, es, ep, t, q1, q⟩ := hdo
    exact ⟨o, es, ep, t, eb _ _ hdi q1, q⟩
  | succ k ih =>
    intro i s seen n hk hile hit hdo kp hn hR
    have hlt : i < items.length := by omega
    obtain ⟨p, hp, hkey, hsc⟩ := paired_get2' pr (List.getElem?_eq_getElem hlt)
    refine codeAny_builtin entry_set_loop ?_
    rw [Around.under_plainId plain_set_loop _]
    show wpAny _ A.in1 (pyNext (.ref it) >>= _) _ _ s
    refine wpAny_bind (wpAny_pyNext_list_item hit (keepL kp) (x := items[i]) (by simp [hlt]) fun h1 hit1 sb1 => ?_)
    have kp1 : ∀ b o, h0.get? b = some o → h1.get? b = some o := fun b o e => (sb1.2 b (fun z => by rw [z, hi] at e; cases e)).trans (kp b o e)
    have hd1 : h1.SetOf (mixKind prog w) d (fun x => decide (x ∈ seen)) n := by
      obtain ⟨o, es, ep, t, q1, q⟩ := hdo
      exact ⟨o, es, ep, t, (sb1.2 d hdi).trans q1, q⟩
    show wpAny _ _ (holding [items[i]] (setAdd d items[i]) >>= _) _ _ _
    refine wpAny_bind (wpAny_holding ?_)
    unfold setAdd
    refine wpAny_holding (wpAny_bind ((mixKind prog w).pyHash hkey ?_))
    refine wpAny_setAddHashed_of (knd := mixKind prog w) (k := p) hkey hsc hd1 (by show n + 1 < 4096; omega) fun h2 sb2 hd2 => ?_
    have hit2 : h2.IsListIter it l (i + 1) := by obtain ⟨o, q1, q2, q3⟩ := hit1; exact ⟨o, (sb2.2 _ (Ne.symm hdi)).trans q1, q2, q3⟩
    refine wpAny_pure ⟨plainId_quiet plain_set_loop _, ?_⟩
    have kp2 : ∀ b o, h0.get? b = some o → h2.get? b = some o := fun b o e => (sb2.2 b (fun z => by rw [z, hd] at e; cases e)).trans (kp1 b o e)
    have eS : (fun k' => decide (k' ∈ seen) || decide (k' = p)) = fun x => decide (x ∈ p :: seen) := by
      funext x; by_cases h1 : x = p <;> by_cases h2 : x ∈ seen <;> simp [h1, h2]
    rw [eS] at hd2
    refine ih (i + 1) _ (p :: seen) _ (by omega) hlt hit2 hd2 kp2 (by split <;> omega) fun h' tk' S hS kp' => ?_
    refine hR h' tk' S ?_ kp'
    have e : ks.drop i = p :: ks.drop (i + 1) := by
      obtain ⟨hh, e⟩ := List.getElem?_eq_some_iff.mp hp
      rw [← e]; exact List.drop_eq_getElem_cons hh
    rw [e]
    unfold unl
    have : n + ((if p ∈ seen then 0 else 1) + unl (p :: seen) (ks.drop (i + 1))) = (if decide (p ∈ seen) = true then n else n + 1) + unl (p :: seen) (ks.drop (i + 1)) := by
      by_cases h : p ∈ seen <;> simp [h] <;> omega
    rw [this]
    exact hS
theorem code_set1 {prog : Program} {w : World} {A : Around} {E : Value → Shared → Prop} {s : Shared} (a : Value) {Q₁ : Value → Shared → Prop}
    (h : ∀ led : Bool, Q₁ (.ref s.heap.objs.size) { s with heap := s.heap.push { cls := .type "set", dict := none, data := .set #[] 0 (.fresh 0 0 led) } }) :
    codeAny (model prog w) A (.call (.builtin "set.__new__") ⟨[.type "set", a], []⟩) (wants Q₁ E) s := by
  refine codeAny_call_builtin F.plain_set_new F.entry_set_new (wpAny_of_eq (made_set1 a) ?_)
  have hsub := sub_set_self
  obtain ⟨hp, g, d, tk, os⟩ := s
  unfold Builtin.«set.__new__» Builtin.Frozenset.newClass
  dsimp only
  wp_walk
  refine wpAny_askSetting (wpAny_pure ?_)
  dsimp only
  simp only [newObj]
  refine wpAny_bind (wpAny_alloc (wpAny_pure ?_))
  exact wpAny_pure (h _)
theorem looked_set1 {M : Model} {A : Around} {E : Value → Shared → Prop} {s : Shared} {self v : Value} {Q : Unit → Shared → Prop} (hT : s.TypeIs self "set") (hQ : Q () s) :
    wpAny M A (checkBuiltinCall "set.__init__" ⟨[self, v], []⟩) Q E s := by
  simp only [checkBuiltinCall, kind_set_init, split_set_init, sig_set_init]
  refine wpAny_bind (wpAny_isInstance hT sub_set_self ?_)
  simp only [Bool.not_true, Bool.false_eq_true, if_false]
  unfold Bind.checkArgs
  dsimp only
  refine wpAny_bind (m := Bind.printed "set" true _ _) (printed_name (by decide) ?_)
  refine wpAny_bind (m := Bind.printed "*" false _ _) (printed_star (self := self) rfl hT fun short => ?_)
  have e : (Manifest.Receiver.self == Manifest.Receiver.none) = false := by decide
  have n : (if (Manifest.Receiver.self == Manifest.Receiver.none) = true then [self, v].length else [self, v].length - 1) = 1 := by simp [e]
  rw [n]
  simp only [List.map_nil]
  have c : Bind.check ⟨.positional, "set", "*", .self, [⟨"iterable", .posOnly, false⟩]⟩ "set" short 1 [] = pure () := by
    first | rfl | kernel_rfl
  rw [c]
  exact wpAny_pure hQ
theorem set_new {prog : Program} {w : World} {h : Heap} {led : Bool} : (h.push { cls := .type "set", dict := none, data := .set #[] 0 (.fresh 0 0 led) }).SetOf (mixKind prog w) h.objs.size (fun x => decide (x ∈ ([] : List Key))) 0 := by
  refine ⟨_, #[], 0, _, Heap.get?_push_size _ rfl, ⟨rfl, rfl, rfl⟩, rfl, fun e he => ?_, fun k => ?_, by decide, by cases led <;> rfl, rfl⟩
  · simp at he
  · simp
theorem call_set_list {prog : Program} {w : World} {A : Around} {E : Value → Shared → Prop} {s : Shared} {l : Addr} {items : List Value} {ks : List Key} {Q : Value → Shared → Prop} (hA : A.handled = none)
    (pr : Paired (fun (v : Value) (k : Key) => keyIs k v = true ∧ v.scannable = true) items ks) (hl : s.heap.IsList l items.toArray) (hz : items.length < 4000)
    (h : ∀ h' tk S, h'.SetOf (mixKind prog w) s.heap.objs.size S (unl [] ks) → (∀ b o, s.heap.get? b = some o → h'.get? b = some o) → Q (.ref s.heap.objs.size) { s with heap := h', toks := tk }) :
    wpAny (model prog w) A (call (.type "set") [.ref l]) Q E s := by
  obtain ⟨c, tl, hmro⟩ := F.called_set.mro
  have hmade := F.called_set.made
  have hsub := F.called_set.sub
  refine wpAny_call (codeAny_of_tree ?_)
  show wpAny _ _ (callAny (.type "set") _) _ _ _
  refine wpAny_pure ⟨Code.quiet_builtin _ (by decide +kernel), codeAny_builtin F.entry_type_call ?_⟩
  rw [Around.under_plain (weight_type_call_type "set" [.ref l] []) rfl]
  have h1 := F.called_set.notType
  have h2 := F.called_set.canCreate
  have hct := typed_set1 (.ref l)
  repeat (any_goals (first | assumption | wp_step))
  refine codeAny_mono (code_set1 (E := E) (.ref l) (Q₁ := fun obj s₁ => ∃ led : Bool, obj = .ref s.heap.objs.size ∧ s₁ = { s with heap := s.heap.push { cls := .type "set", dict := none, data := .set #[] 0 (.fresh 0 0 led) } }) fun led => ⟨led, rfl, rfl⟩) fun r s₁ hr => ?_
  cases r with
  | error e => exact hr
  | ok fl =>
    cases fl with
    | ret obj =>
      obtain ⟨led, rfl, rfl⟩ := hr
      have hS := set_new (prog := prog) (w := w) (h := s.heap) (led := led)
      have hT : Shared.TypeIs { s with heap := s.heap.push { cls := .type "set", dict := none, data := .set #[] 0 (.fresh 0 0 led) } } (.ref s.heap.objs.size) "set" := ⟨_, Heap.get?_push_size _ rfl, rfl⟩
      have hli := F.called_set.init.lookup
      have hbi := F.called_set.init.bind (.ref s.heap.objs.size)
      repeat (any_goals (first | assumption | wp_step))
      refine codeAny_mono (codeAny_call_builtin (R := wants (fun r s₂ => r = .none ∧ Q (.ref s.heap.objs.size) s₂) E) F.called_set.init.plain F.entry_set_init (looked_set1 hT ?_)) fun r₂ s₂ hr₂ => ?_
      · unfold Builtin.«set.__init__» noKeywords
        obtain ⟨ol, g1, g2, n3, g3⟩ := id hl
        have hl' : (s.heap.push { cls := .type "set", dict := none, data := .set #[] 0 (.fresh 0 0 led) }).get? l = some ol := Heap.get?_push_of_some _ g1
        have hTl : Shared.TypeIs { s with heap := s.heap.push { cls := .type "set", dict := none, data := .set #[] 0 (.fresh 0 0 led) } } (.ref l) "list" := ⟨_, hl', g2⟩
        have n1 := list_not_set
        have n2 := list_not_froz
        have hst : ∀ {P : Bool → Shared → Prop} {E' : Value → Shared → Prop} {A' : Around}, P false { s with heap := s.heap.push { cls := .type "set", dict := none, data := .set #[] 0 (.fresh 0 0 led) } } → wpAny (model prog w) A' (setUsed s.heap.objs.size) P E' { s with heap := s.heap.push { cls := .type "set", dict := none, data := .set #[] 0 (.fresh 0 0 led) } } := fun hP => by
          unfold setUsed
          refine wpAny_bind (wpAny_setState_of (Heap.get?_push_size _ rfl) rfl (by cases led <;> rfl) (wpAny_pure ?_))
          cases led <;> exact hP
        refine wpAny_bind (m := (pure () : Sem Unit)) (wpAny_pure ?_)
        refine wpAny_bind ?_
        unfold typeNameOfCut shownTypeOf
        refine wpAny_bind ?_
        refine thn (Q := fun a s' => a = .type "set" ∧ s' = { s with heap := s.heap.push { cls := .type "set", dict := none, data := .set #[] 0 (.fresh 0 0 led) } }) ?_ fun a s' ha => ?_
        · repeat (any_goals (first | assumption | wp_step))
          exact ⟨rfl, rfl⟩
        obtain ⟨rfl, rfl⟩ := ha
        refine wpAny_pure ?_
        refine wpAny_bind (wpAny_pure ?_)
        refine wpAny_bind (wpAny_pure ?_)
        refine wpAny_bind (hst ?_)
        show wpAny _ _ (Builtin.Frozenset.updateFrom "set.__init__" s.heap.objs.size (.ref l) >>= _) _ _ _
        unfold Builtin.Frozenset.updateFrom Builtin.Frozenset.isAnySet
        refine wpAny_bind (wpAny_bind (thn (Q := fun b s' => b = false ∧ s' = { s with heap := s.heap.push { cls := .type "set", dict := none, data := .set #[] 0 (.fresh 0 0 led) } }) ?_ fun b s' hb => ?_))
        · simp only [orM]
          refine wpAny_bind (wpAny_isInstance hTl n1 ?_)
          exact wpAny_isInstance hTl n2 ⟨rfl, rfl⟩
        obtain ⟨rfl, rfl⟩ := hb
        rw [if_neg (by decide)]
        refine wpAny_bind (wpAny_typeOf hTl ?_)
        rw [if_neg (by decide)]
        have g0 : ∀ b o, s.heap.get? b = some o → (s.heap.push { cls := .type "set", dict := none, data := .set #[] 0 (.fresh 0 0 led) }).get? b = some o := fun b o e => Heap.get?_push_of_some _ e
        refine wpAny_bind (wpAny_pyIter_list (items := items.toArray) ⟨ol, hl', g2, n3, g3⟩ ?_)
        have hsz : s.heap.objs.size < (s.heap.push { cls := .type "set", dict := none, data := .set #[] 0 (.fresh 0 0 led) }).objs.size := Heap.lt_size (Heap.get?_push_size _ rfl)
        refine wpAny_bind (wpAny_runValue (set_loop (h0 := s.heap) (by exact hA) pr hl (Heap.get?_none_of_le (Nat.le_refl _)) (Heap.get?_none_of_le (Nat.le_of_lt hsz)) (Nat.ne_of_lt hsz) hz items.length 0 _ [] 0 rfl (Nat.zero_le _) ⟨_, Heap.get?_push_size _ rfl, rfl, rfl⟩ ?_ (fun b o e => Heap.get?_push_of_some _ (g0 b o e)) (Nat.zero_le _) fun h' tk' S hd' kp' => ?_))
        · obtain ⟨o, es, ep, t, q1, q⟩ := hS
          exact ⟨o, es, ep, t, Heap.get?_push_of_some _ q1, q⟩
        · refine wpAny_pure ?_
          refine wpAny_pure ⟨rfl, h h' tk' S ?_ kp'⟩
          rw [Nat.zero_add] at hd'
          exact hd'
      · cases r₂ with
        | error e => exact hr₂
        | ok fl₂ =>
          cases fl₂ with
          | ret r =>
            obtain ⟨rfl, hq⟩ := hr₂
            repeat (any_goals (first | assumption | wp_step))
          | _ => exact hr₂.elim
    | _ => exact hr.elim
end L2

namespace L2
open PySem PySem.Spec PyProof.Rows
/-! ## len(set(x)), x a list of texts or ints -/
def tLenSet (te : TE) : TE := fun σ H Q => te σ H fun x H1 => ∃ p vs ks, x = .ref p ∧ H1 p = some (.lst vs) ∧ vs = ks.map kV ∧ vs.length < 4000 ∧ Q (.int (unl [] ks)) H1
theorem kV_scan {k : Key} {u : Value} (r : RelV (kV k) u) : u.scannable = true := by
  cases k with
  | inl i => obtain ⟨t, e⟩ := (show ∃ t, u = Value.int i t from r); subst e; rfl
  | inr x => obtain ⟨t, e⟩ := (show ∃ t, u = Value.str x t from r); subst e; rfl
theorem keys_paired {P : Program} {w : World} : ∀ {ks : List Key} {us : List Value}, Vals (ks.map kV) us → Paired (fun (v : Value) (k : Key) => keyIs k v = true ∧ v.scannable = true) us ks
  | [], us, h => by cases h; exact .nil
  | k :: ks, us, h => by cases h with | cons r t => exact .cons ⟨kV_is (P := P) (w := w) r, kV_scan r⟩ (keys_paired (P := P) (w := w) t)
theorem bt_len : bootBuiltins "len" = some (.builtin "len") := by decide +kernel
theorem bt_set : bootBuiltins "set" = some (.type "set") := by decide +kernel
theorem pe_lenset {X : Cx} {e : Expr} {te : TE} {p1 p2 pos1 pos2 : Pos} (hc : X.calm = true) (hgl : Gl X "len") (hml : X.mg "len" = none) (hgs : Gl X "set") (hms : X.mg "set" = none) (he : PE X e te)
    (hs : starEach [e] X.env = (false, eval e X.env) :: starEach [] X.env := by rfl) :
    PE X (.Call (.Name "len" p1) [.Call (.Name "set" p2) [e] [] pos2] [] pos1) (tLenSet te) := by
  intro pins s σ H Q I h
  refine wpAny_Call_Name_kw (ld_blt I hgl hml bt_len ?_ (by decide) (by decide))
  refine callWith_builtin1 ?_ rfl rfl
  show wpAny _ _ (spliced ((false, eval (.Call (.Name "set" p2) [e] [] pos2) X.env) :: [])) _ _ s
  refine Calls.spliced_cons ?_
  refine wpAny_Call_Name_kw (ld_blt I hgs hms bt_set ?_ (by decide) (by decide))
  refine callWith_type1 ?_ hs rfl
  rw [hs]
  show wpAny _ _ (spliced ((false, eval e X.env) :: [])) _ _ s
  refine Calls.spliced_cons (thn (he pins s σ H _ I h) fun u s1 z => ?_)
  obtain ⟨x, H1, I1, r1, p, vs, ks, rfl, hp, rfl, hz, q⟩ := z
  cases r1
  refine Calls.spliced_nil ?_
  obtain ⟨hz', its, n, rv, hg⟩ := (show ObjOk X.prog X.w H1 s1.heap p (.lst (ks.map kV)) from I1.hok p _ hp)
  have hl := rv.length
  refine call_set_list (I1.ok.hd hc) (keys_paired (P := X.prog) (w := X.w) rv) ⟨_, hg, rfl, n, rfl⟩ (by omega) fun h' tk S hS kp => ?_
  refine Calls.spliced_nil ?_
  obtain ⟨o, es, ep, t, ho, hex, hd, _, _, hb, hf, hn⟩ := hS
  refine call_len_set (s := { s1 with heap := h', toks := tk }) ho hex hd hf (by have : es.size < 4096 := hb; omega) ?_
  exact ⟨.int (unl [] ks), H1, I1.kept (t' := _) kp, ⟨tk + 1, by rw [hn]⟩, q⟩
def keysD : List PyData → Option (List Key)
  | [] => some []
  | d :: ds => (keyD d).bind fun k => (keysD ds).map fun ks => k :: ks
def eLenSet (f : EF) : EF := fun env => (f env).bind fun r => match r.d with
  | .list ds => (keysD ds).bind fun ks => if ds.length < 4000 then some ⟨.int (unl [] ks), false, []⟩ else none
  | _ => none
theorem rps_keys {H : Hp} : ∀ {ds : List PyData} {vs : List V} {ks : List Key}, Rps H ds vs → keysD ds = some ks → vs = ks.map kV
  | [], vs, ks, h, e => by unfold Rps at h; cases e; subst h; rfl
  | d :: ds, vs, ks, h, e => by
    obtain ⟨k, ek, e⟩ := Option.bind_eq_some_iff.mp e
    obtain ⟨ks', e', rfl⟩ := Option.map_eq_some_iff.mp e
    cases rps_paired.mp h with
    | cons h1 h2 =>
      rename_i v vs'
      have := rps_keys (rps_paired.mpr h2) e'
      subst this
      cases d with
      | int i => cases ek; unfold Rp at h1; subst h1; rfl
      | str x => cases ek; unfold Rp at h1; subst h1; rfl
      | _ => cases ek
theorem se_lenset {te : TE} {f : EF} (h : SE te f) : SE (tLenSet te) (eLenSet f) := by
  intro fx H0 env σ H hE rr hr Q q
  unfold eLenSet at hr
  obtain ⟨⟨d, fr, bs⟩, er, hr⟩ := Option.bind_eq_some_iff.mp hr
  cases d with
  | list ds =>
    have hr : ((keysD ds).bind fun ks => if ds.length < 4000 then some (⟨.int (unl [] ks), false, []⟩ : Val) else none) = some rr := hr
    obtain ⟨ks, ek, hr⟩ := Option.bind_eq_some_iff.mp hr
    split at hr
    · rename_i hl
      cases hr
      refine h fx H0 env σ H hE _ er _ fun v H1 s1 hv => ?_
      obtain ⟨p, xs, rfl, h1, r⟩ := rp_list hv.rp
      have e := rps_keys r ek
      refine ⟨p, xs, ks, rfl, off_at h1, e, by rw [← r.length]; exact hl, q _ H1 s1 ⟨rp_mk_int, fun z => by cases z⟩⟩
    · cases hr
  | _ => cases hr
/-! ## a new list of plain things holds nothing of others -/
end L2

namespace Bc
open PySem L2
end Bc

namespace Bc
open PySem L2
/-! ### above, hedge -/
/-! ### unlike ones -/
theorem unl_le : ∀ (ks seen : List Key), unl seen ks ≤ ks.length
  | [], _ => Nat.le_refl _
  | k :: ks, seen => by
    unfold unl
    have := unl_le ks (k :: seen)
    rw [List.length_cons]
    split <;> omega
theorem unl_eq : ∀ (ks seen : List Key), unl seen ks = ks.length ↔ ks.Nodup ∧ ∀ k ∈ ks, k ∉ seen
  | [], _ => by simp [unl]
  | k :: ks, seen => by
    have l := unl_le ks (k :: seen)
    have ih := unl_eq ks (k :: seen)
    unfold unl
    rw [List.length_cons, List.nodup_cons]
    by_cases hk : k ∈ seen
    · rw [if_pos hk]
      constructor
      · intro z; omega
      · intro z; exact absurd hk (z.2 k List.mem_cons_self)
    · rw [if_neg hk]
      constructor
      · intro z
        obtain ⟨n, a⟩ := ih.mp (by omega)
        exact ⟨⟨fun y => a k y List.mem_cons_self, n⟩, fun x hx => by
          rcases List.mem_cons.mp hx with rfl | hx
          · exact hk
          · exact fun y => a x hx (List.mem_cons_of_mem _ y)⟩
      · rintro ⟨⟨n1, n2⟩, a⟩
        have := ih.mpr ⟨n2, fun x hx y => by
          rcases List.mem_cons.mp y with rfl | y
          · exact n1 hx
          · exact a x (List.mem_cons_of_mem _ hx) y⟩
        omega
theorem keys_strs : ∀ (xs : List Str), keysD (xs.map .str) = some (xs.map Sum.inr)
  | [] => rfl
  | x :: xs => by
    show ((keyD (.str x)).bind fun k => (keysD (xs.map .str)).map fun ks => k :: ks) = _
    rw [keys_strs xs]; rfl
theorem nd_inr : ∀ (xs : List Str), (xs.map (Sum.inr : Str → Key)).Nodup ↔ xs.Nodup
  | [] => by simp
  | x :: xs => by
    rw [List.map_cons, List.nodup_cons, List.nodup_cons, nd_inr xs]
    simp
theorem bools_map {α : Type} (f : α → Bool) : ∀ (l : List α), boolsD (l.map fun x => .bool (f x)) = some (l.map f)
  | [] => rfl
  | x :: l => by
    show (boolsD (l.map fun x => .bool (f x))).map _ = _
    rw [bools_map f l]; rfl
theorem e_all {α : Type} {f : α → Bool} {l : List α} {a : EF} {env : DEnv} {fr : Bool} {bs : List Nat} (ha : a env = some ⟨.list (l.map fun x => .bool (f x)), fr, bs⟩) : eCB (anyD fun bs => bs.all id) (aCons a aNil) env = some (vb (l.all f)) := by
  unfold eCB
  rw [args1 ha, Option.bind_some]
  show ((boolsD (l.map fun x => .bool (f x))).map _).bind _ = _
  rw [bools_map]
  simp only [Option.map_some, Option.bind_some, List.all_map]
  rfl
end Bc

namespace Bc
open PySem L2
/-! ### is_hedge -/
def isH (W : Web) (k o : Str) (xs : List Str) : Bool := ((xs.all fun x => decide (x ∈ nm W)) && decide xs.Nodup) && ((decide (k ∈ xs) && !decide (o ∈ xs)) && xs.all fun x => (upL W x).all fun e => decide (e ∈ xs))
theorem compL2_flat {α : Type} {enc : α → PyData} {out : α → List PyData} {g : GT} {t : TF} {f2 : IF'} {g2 : GT} {t2 : TF} {e : EF} {env : DEnv} : ∀ {l : List α}, (∀ x ∈ l, ∃ e1, g (enc x) env = some e1 ∧ t e1 = some true ∧ innL f2 g2 t2 e e1 = some (out x)) →
    compL2 g t f2 g2 t2 e env (l.map enc) = some (l.flatMap out)
  | [], _ => rfl
  | x :: l, h => by
    obtain ⟨e1, h1, h2, h3⟩ := h x List.mem_cons_self
    have ih := compL2_flat (l := l) fun y hy => h y (List.mem_cons_of_mem _ hy)
    rw [List.map_cons]
    unfold compL2
    rw [h1, Option.bind_some, h2, Option.bind_some, if_pos rfl, h3, Option.bind_some, ih, List.flatMap_cons]
    rfl
theorem comp2_is {own : List Str} {fr : List Nat} {fi : IF'} {g : GT} {t : TF} {f2 : IF'} {g2 : GT} {t2 : TF} {e : EF} {env : DEnv} {ds : List PyData} {bs : List Nat} {rs : List PyData} (h : fi env = some (ds, bs)) (hl : ds.length < 300) (k : compL2 g t f2 g2 t2 e (envB own fr env) ds = some rs) :
    eComp2 own fr fi g t f2 g2 t2 e env = some ⟨.list rs, true, if flatsD rs = true then [] else bs ++ capA fr env⟩ := by
  unfold eComp2; rw [h, Option.bind_some, if_pos hl, k]; rfl
theorem flat_bools {α β : Type} (f : α → List β) (p : α → β → Bool) (l : List α) : (l.flatMap fun x => (f x).map fun e => PyData.bool (p x e)) = ((l.flatMap fun x => (f x).map fun e => (x, e)).map fun z => PyData.bool (p z.1 z.2)) := by
  induction l with
  | nil => rfl
  | cons x l ih => rw [List.flatMap_cons, List.flatMap_cons, List.map_append, ih, List.map_map]; rfl
theorem all_flat {α β : Type} (f : α → List β) (p : α → β → Bool) (l : List α) : ((l.flatMap fun x => (f x).map fun e => (x, e)).all fun z => p z.1 z.2) = l.all fun x => (f x).all (p x) := by
  induction l with
  | nil => rfl
  | cons x l ih => rw [List.flatMap_cons, List.all_append, ih, List.all_cons, List.all_map]; rfl
end Bc

namespace Bc
open PySem L2
/-! ### the law's looks at hedges -/
end Bc

namespace Bc
open PySem L2
end Bc

namespace PySem
open Sem (wp)
/-! ## zip of two lists or tuples -/
section
variable {prog : Program} {w : World} {A : Around} {E : Value → Shared → Prop} {s : Shared}
end
end PySem

namespace L2
open PySem PySem.Spec PyProof.Rows
section
variable {X : Cx} {pins : List (Addr × Obj)} {σ : St} {H : Hp} {s : Shared}
end
end L2

namespace PySem
open Sem (wp)
end PySem

namespace L2
open PySem PySem.Spec PyProof.Rows
end L2

namespace L2
open PySem PySem.Spec PyProof.Rows
/-! ## in, not in: things with parts -/
section
variable {X : Cx}
end
end L2

namespace PySem
open Sem (wp)
open AutoSeq1 (wpAny_loadPart')
/-! ## enumerate of a list or a tuple -/
end PySem
namespace L2
open PySem PySem.Spec PyProof.Rows
end L2

namespace L2
open PySem PySem.Spec PyProof.Rows
/-! ## texts walked sign by sign, compared, looked into; numbers as texts; names of the module -/
/-! texts compared -/
/-! str(n) -/
/-! a * b, both of any size to 2^1000 -/
/-! a whole number that the module names -/
end L2
namespace L2
open PySem PySem.Spec PyProof.Rows
/-! an item of a list of arguments that is no starred one: told by its head alone -/
def isStar : Expr → Bool
  | .Starred .. => true
  | _ => false
theorem star_each {e : Expr} {es : List Expr} {env : Env} (h : isStar e = false) : starEach (e :: es) env = (false, eval e env) :: starEach es env := by
  cases e <;> first
    | rfl
    | cases h
theorem pa_consF {X : Cx} {e : Expr} {es : List Expr} {te : TE} {t : TA} (ha : PE X e te) (hr : PA X es t) (hs : isStar e = false := by rfl) : PA X (e :: es) (tCons te t) := pa_cons ha hr (star_each hs)
end L2
namespace L2
open PySem PySem.Spec PyProof.Rows
/-! long lists of items, in one step -/
end L2

namespace L2
open PySem PySem.Spec PyProof.Rows
/-! ## x[::-1] of a list -/
def tRev (K : PySem.W.Frag) (te : TE) (tk : TO) : TE := fun σ H Q => te σ H fun x H1 => tk σ H1 fun st H2 => st = some (-1) ∧ ∃ a xs, x = .ref a ∧ SqL K H2 a xs ∧ ∀ p, H2 p = none → Q (.ref p) (upd H2 p (.lst xs.reverse))
theorem vals_rev {xs : List V} {us : List Value} (r : Vals xs us) : Vals xs.reverse us.reverse := by
  induction r with
  | nil => exact .nil
  | cons h _ ih =>
    rw [List.reverse_cons, List.reverse_cons]
    exact ih.append (.cons h .nil)
theorem pe_rev {X : Cx} {K : PySem.W.Frag} (hK : X.K = K) {e k : Expr} {te : TE} {tk : TO} {pos p2 : Pos} (he : PE X e te) (hk : PO X (some k) tk) : PE X (.Subscript e (.Slice none none (some k) p2) pos) (tRev K te tk) := by
  subst hK
  intro pins s σ H Q I h
  refine Subscript_ (thn (he pins s σ H _ I h) fun v s1 ⟨x, H1, I1, r1, q1⟩ => ?_)
  refine wpAny_Slice ?_
  rw [evalPart_none]
  refine wpAny_pure (wpAny_pure ?_)
  refine thn (hk pins s1 σ H1 _ I1 q1) fun vk s2 ⟨st, H2, I2, pk, est, a, xs, ex, hx, q⟩ => ?_
  subst est ex
  cases r1
  have I4 : Inv X pins σ H2 { s2 with heap := s2.heap.push { cls := .type "slice", data := .fields #[.none, .none, vk] } } := I2.kept (t' := s2.toks) fun b ob q => Heap.get?_push_of_some _ q
  obtain ⟨its, r, ht, hz⟩ := I4.list hx
  have hlen := r.length
  refine tail_any (T := "list") (ops := [.ref a, .ref s2.heap.objs.size]) ht.isList.typeIs slot_list_getitem.lookup ?_ (by with_unfolding_all rfl)
  refine wpAny_getItem_list_slice ht.isList (Heap.IsSliceOf.new ..) .none .none pk (by decide) ?_ (by rw [List.size_toArray] <;> omega)
  rw [PySem.W.krv_pick]
  refine ⟨.ref _, _, I4.laid (t' := s2.toks) (o := .lst xs.reverse) (fun b ob q => Heap.get?_push_of_some _ q) (Nat.le_refl _) ?_, rfl, q _ (I4.hok.fresh (Nat.le_refl _))⟩
  exact ⟨by rw [List.length_reverse]; exact hz, _, 0, vals_rev r, Heap.get?_push_size _ rfl⟩
theorem Rps.rev {H : Hp} {ds : List PyData} {vs : List V} (h : Rps H ds vs) : Rps H ds.reverse vs.reverse := by
  replace h := rps_paired.mp h
  induction h with
  | nil => exact rps_nil
  | cons h _ ih =>
    rw [List.reverse_cons, List.reverse_cons]
    exact ih.append (rps_cons h rps_nil)
def eRev (f : EF) (g : PF') : EF := fun env => (f env).bind fun x => (g env).bind fun st => match x.d with
  | .list ds => if st = some (-1) then some ⟨.list ds.reverse, true, x.bs⟩ else none
  | _ => none
theorem se_rev {K : PySem.W.Frag} {te : TE} {tk : TO} {f : EF} {g : PF'} (h1 : SE te f) (h2 : SPt tk g) : SE (tRev K te tk) (eRev f g) := by
  intro fx H0 env σ H h rr hr Q q
  unfold eRev at hr
  obtain ⟨⟨d, frd, bs⟩, ex, hr⟩ := Option.bind_eq_some_iff.mp hr
  obtain ⟨st, el, hr⟩ := Option.bind_eq_some_iff.mp hr
  cases d with
  | list ds =>
    have hr : (if st = some (-1) then some (⟨.list ds.reverse, true, bs⟩ : Val) else none) = some rr := hr
    split at hr
    · rename_i hs
      cases hr
      refine h1 fx H0 env σ H h _ ex _ fun v H1 s1 v1 => h2 fx H0 env σ H1 (h.up s1) _ el _ fun H2 s2 => ?_
      have v3 := (v1.later (Same.refl _) s2 fun _ z => z).rp
      have t3 := s1.trans s2
      obtain ⟨p, xs, rfl, hp, r⟩ := rp_list v3
      refine ⟨hs, p, xs, rfl, SqL.of (off_at hp), fun l hl => q _ _ (t3.trans (Same.new hl)) ?_⟩
      have hA := (h.up t3).lims bs
      exact ⟨new_rp hl (off_new hA hl) r.rev, fun _ => ⟨l, rfl, t3.free hl, new_acc hl r.rev⟩⟩
    · cases hr
  | _ => cases hr
end L2
namespace PySem.SeqAt
open AutoSeq1 (wpAny_loadPart')
open MeetsSeq PyProof.Rows
/-! ## a dict beside a text -/
section
variable {A : Around} {s : Shared}
theorem dict_eq_no_str (l : Addr) (es : Array DictEntry) (n : Nat) (dd : Option Addr) (sl : Array (Option Value)) (b : Str) (u : Tok) :
    Meets (Builtin.«dict.__eq__» ⟨[.ref l, .str b u], []⟩) (fun _ R s => s.heap.get? l = some { cls := .type "dict", dict := dd, data := .dict es n, slots := sl } ∧ R (.ok (.ret .notImplemented)) s) :=
  .of_wp fun prog w A R s h => by
    obtain ⟨hp, g, d, tk, os⟩ := s
    obtain ⟨hl, h⟩ := h
    have f1 := F.sub_str_dict
    wp_walk using wpAny_loadPart' hl
    exact ⟨_, rfl, h⟩
theorem dict_ne_no_str (l : Addr) (es : Array DictEntry) (n : Nat) (dd : Option Addr) (sl : Array (Option Value)) (b : Str) (u : Tok) :
    Meets (Builtin.«dict.__ne__» ⟨[.ref l, .str b u], []⟩) (fun _ R s => s.heap.get? l = some { cls := .type "dict", dict := dd, data := .dict es n, slots := sl } ∧ R (.ok (.ret .notImplemented)) s) :=
  .of_wp fun prog w A R s h => by
    obtain ⟨hp, g, d, tk, os⟩ := s
    obtain ⟨hl, h⟩ := h
    have f1 := F.sub_str_dict
    wp_walk using wpAny_loadPart' hl
    exact ⟨_, rfl, h⟩
theorem str_eq_no_dict (b : Str) (u : Tok) (l : Addr) (c : Value) (es : Array DictEntry) (n : Nat) (dd : Option Addr) (sl : Array (Option Value)) :
    Meets (Builtin.«str.__eq__» ⟨[.str b u, .ref l], []⟩) (fun _ R s => s.heap.get? l = some { cls := c, dict := dd, data := .dict es n, slots := sl } ∧ R (.ok (.ret .notImplemented)) s) :=
  .of_wp fun prog w A R s h => by
    obtain ⟨hp, g, d, tk, os⟩ := s
    obtain ⟨hl, h⟩ := h
    wp_walk using wpAny_loadPart' hl, wpAny_load hl
    exact ⟨_, rfl, h⟩
theorem str_ne_no_dict (b : Str) (u : Tok) (l : Addr) (c : Value) (es : Array DictEntry) (n : Nat) (dd : Option Addr) (sl : Array (Option Value)) :
    Meets (Builtin.«str.__ne__» ⟨[.str b u, .ref l], []⟩) (fun _ R s => s.heap.get? l = some { cls := c, dict := dd, data := .dict es n, slots := sl } ∧ R (.ok (.ret .notImplemented)) s) :=
  .of_wp fun prog w A R s h => by
    obtain ⟨hp, g, d, tk, os⟩ := s
    obtain ⟨hl, h⟩ := h
    wp_walk using wpAny_loadPart' hl, wpAny_load hl
    exact ⟨_, rfl, h⟩
theorem list_ne_no_str (l : Addr) (items : Array Value) (n : Nat) (dd : Option Addr) (sl : Array (Option Value)) (b : Str) (u : Tok) :
    Meets (Builtin.«list.__ne__» ⟨[.ref l, .str b u], []⟩) (fun _ R s => s.heap.get? l = some { cls := .type "list", dict := dd, data := .seq items n, slots := sl } ∧ R (.ok (.ret .notImplemented)) s) :=
  .of_wp fun prog w A R s h => by
    obtain ⟨hp, g, d, tk, os⟩ := s
    obtain ⟨hl, h⟩ := h
    have f1 := F.sub_str_list
    wp_walk using wpAny_loadPart' hl
    exact ⟨_, rfl, h⟩
theorem tuple_ne_no_str (l : Addr) (items : Array Value) (n : Nat) (dd : Option Addr) (sl : Array (Option Value)) (b : Str) (u : Tok) :
    Meets (Builtin.«tuple.__ne__» ⟨[.ref l, .str b u], []⟩) (fun _ R s => s.heap.get? l = some { cls := .type "tuple", dict := dd, data := .seq items n, slots := sl } ∧ R (.ok (.ret .notImplemented)) s) :=
  .of_wp fun prog w A R s h => by
    obtain ⟨hp, g, d, tk, os⟩ := s
    obtain ⟨hl, h⟩ := h
    have f1 := F.sub_str_tuple
    wp_walk using wpAny_loadPart' hl
    exact ⟨_, rfl, h⟩
theorem str_ne_no_seq (b : Str) (u : Tok) (l : Addr) (c : Value) (items : Array Value) (n : Nat) (dd : Option Addr) (sl : Array (Option Value)) :
    Meets (Builtin.«str.__ne__» ⟨[.str b u, .ref l], []⟩) (fun _ R s => s.heap.get? l = some { cls := c, dict := dd, data := .seq items n, slots := sl } ∧ R (.ok (.ret .notImplemented)) s) :=
  .of_wp fun prog w A R s h => by
    obtain ⟨hp, g, d, tk, os⟩ := s
    obtain ⟨hl, h⟩ := h
    wp_walk using wpAny_loadPart' hl, wpAny_load hl
    exact ⟨_, rfl, h⟩
/-- != of two kinds that know nothing of each other -/
theorem rc_ne_no {M : Model} {E : Value → Shared → Prop} {a b : Value} {Ta Tb ida idb : String} {Q : Value → Shared → Prop} (ha : s.TypeIs a Ta) (hb : s.TypeIs b Tb)
    (hne : (Value.type Ta != Value.type Tb) = true) (hsub : isSubtype (.type Tb) (.type Ta) = pure false) (h1 : Slot Ta (cmpInfo .NotEq).2.1 ida) (h2 : Slot Tb (cmpInfo .NotEq).2.2 idb)
    (c1 : ∀ R : Value → Shared → Prop, R .notImplemented s → wpAny M A (call (.builtin ida) [a, b]) R E s)
    (c2 : ∀ R : Value → Shared → Prop, R .notImplemented s → wpAny M A (call (.builtin idb) [b, a]) R E s)
    (hk : ∀ R : Bool → Shared → Prop, R false s → wpAny M A (isSame a b) R E s)
    (hr : A.units < cLine) (h : Q (.bool true) s) : wpAny M A (richCompare .NotEq a b) Q E s := by
  rcases hi : cmpInfo CmpOp.NotEq with ⟨sym, f, r⟩
  rw [hi] at h1; rw [hi] at h2
  simp only [richCompare, hi, ha.oneThing_none]
  try (with_reducible refine wpAny_holding ?_)
  refine wpAny_bind (wpAny_cRoomFor_or (.inr hr) (wpAny_bind (wpAny_typeOf ha (wpAny_bind (wpAny_typeOf hb ?_)))))
  simp only [hne, if_true]
  refine (wpAny_bind (wpAny_of_eq hsub ?_))
  simp only [Bool.false_eq_true, if_false, if_true, Bool.not_false]
  refine wpAny_bind (m := tryCompare a _ b) (wpAny_tryCompare_declines ha h1 (c1 _ ⟨rfl, wpAny_bind (m := tryCompare b _ a) (wpAny_tryCompare_declines hb h2 (c2 _ ⟨rfl, ?_⟩))⟩))
  exact wpAny_bind (wpAny_rule (wpAny_bind (hk _ (wpAny_pure h))))
theorem rc_dict_str {l : Addr} {o : Obj} {es : Array DictEntry} {n : Nat} (b : Str) (u : Tok) (ho : s.heap.get? l = some o) (hc : o.cls = .type "dict") (hd : o.data = .dict es n) (hu : A.units < cLine) : RcAt A s (.ref l) (.str b u) false := fun prog w E Q h => by
  obtain ⟨cls, dd, data, sl⟩ := o
  simp only at hc hd
  subst hc hd
  refine rc_eq_decline_or (k := false) (Ta := "dict") (Tb := "str") ⟨_, ho, rfl⟩ (typeIs_str s b u) (by decide) F.sub_str_dict F.slot_dict_eq F.slot_str_eq_refl (fun _ hq => ?_) (fun _ hq => ?_) (fun _ hq => wpAny_of_eq (rfl : isSame (.ref l) (.str b u) = pure false) hq) (.inr hu) h
  · exact call_meets F.slot_dict_eq ⟨_, ho, rfl⟩ F.entry_dict_eq (F.args_dict_eq_2 _ _) (dict_eq_no_str l es n dd sl b u) ⟨ho, hq⟩
  · exact call_meets F.slot_str_eq_refl (typeIs_str s b u) F.entry_str_eq (F.args_str_eq_2 _ _) (str_eq_no_dict b u l (.type "dict") es n dd sl) ⟨ho, hq⟩
theorem rc_str_dict {l : Addr} {o : Obj} {es : Array DictEntry} {n : Nat} (b : Str) (u : Tok) (ho : s.heap.get? l = some o) (hc : o.cls = .type "dict") (hd : o.data = .dict es n) (hu : A.units < cLine) : RcAt A s (.str b u) (.ref l) false := fun prog w E Q h => by
  obtain ⟨cls, dd, data, sl⟩ := o
  simp only at hc hd
  subst hc hd
  refine rc_eq_decline_or (k := false) (Ta := "str") (Tb := "dict") (typeIs_str s b u) ⟨_, ho, rfl⟩ (by decide) F.sub_dict_str F.slot_str_eq F.slot_dict_eq_refl (fun _ hq => ?_) (fun _ hq => ?_) (fun _ hq => wpAny_of_eq (rfl : isSame (.str b u) (.ref l) = pure false) hq) (.inr hu) h
  · exact call_meets F.slot_str_eq (typeIs_str s b u) F.entry_str_eq (F.args_str_eq_2 _ _) (str_eq_no_dict b u l (.type "dict") es n dd sl) ⟨ho, hq⟩
  · exact call_meets F.slot_dict_eq_refl ⟨_, ho, rfl⟩ F.entry_dict_eq (F.args_dict_eq_2 _ _) (dict_eq_no_str l es n dd sl b u) ⟨ho, hq⟩
theorem eqAt_rs {l : Addr} {b : Str} {u : Tok} (h0 : RcAt A s (.ref l) (.str b u) false) : EqAt A s (.ref l) (.str b u) false := fun prog w E Q hq => by
  unfold eqBool
  refine wpAny_holding (wpAny_ite_split (fun hab => absurd (eq_of_beq hab) nofun) (fun _ => ?_))
  exact (wpAny_bind (h0 prog w E _ (wpAny_truthy_bool hq)))
theorem eqAt_sr {l : Addr} {b : Str} {u : Tok} (h0 : RcAt A s (.str b u) (.ref l) false) : EqAt A s (.str b u) (.ref l) false := fun prog w E Q hq => by
  unfold eqBool
  refine wpAny_holding (wpAny_ite_split (fun hab => absurd (eq_of_beq hab) nofun) (fun _ => ?_))
  exact (wpAny_bind (h0 prog w E _ (wpAny_truthy_bool hq)))
theorem ne_dict_str {prog : Program} {w : World} {E : Value → Shared → Prop} {Q : Value → Shared → Prop} {l : Addr} {o : Obj} {es : Array DictEntry} {n : Nat} (b : Str) (u : Tok) (ho : s.heap.get? l = some o) (hc : o.cls = .type "dict") (hd : o.data = .dict es n) (hu : A.units < cLine) (h : Q (.bool true) s) : wpAny (model prog w) A (compareOp .NotEq (.ref l) (.str b u)) Q E s := by
  obtain ⟨cls, dd, data, sl⟩ := o
  simp only at hc hd
  subst hc hd
  refine rc_ne_no (Ta := "dict") (Tb := "str") ⟨_, ho, rfl⟩ (typeIs_str s b u) (by decide) F.sub_str_dict F.slot_dict_ne F.slot_str_ne_refl (fun _ hq => ?_) (fun _ hq => ?_) (fun _ hq => wpAny_of_eq (rfl : isSame (.ref l) (.str b u) = pure false) hq) hu h
  · exact call_meets F.slot_dict_ne ⟨_, ho, rfl⟩ F.entry_dict_ne (F.args_dict_ne_2 _ _) (dict_ne_no_str l es n dd sl b u) ⟨ho, hq⟩
  · exact call_meets F.slot_str_ne_refl (typeIs_str s b u) F.entry_str_ne (F.args_str_ne_2 _ _) (str_ne_no_dict b u l (.type "dict") es n dd sl) ⟨ho, hq⟩
theorem ne_str_dict {prog : Program} {w : World} {E : Value → Shared → Prop} {Q : Value → Shared → Prop} {l : Addr} {o : Obj} {es : Array DictEntry} {n : Nat} (b : Str) (u : Tok) (ho : s.heap.get? l = some o) (hc : o.cls = .type "dict") (hd : o.data = .dict es n) (hu : A.units < cLine) (h : Q (.bool true) s) : wpAny (model prog w) A (compareOp .NotEq (.str b u) (.ref l)) Q E s := by
  obtain ⟨cls, dd, data, sl⟩ := o
  simp only at hc hd
  subst hc hd
  refine rc_ne_no (Ta := "str") (Tb := "dict") (typeIs_str s b u) ⟨_, ho, rfl⟩ (by decide) F.sub_dict_str F.slot_str_ne F.slot_dict_ne_refl (fun _ hq => ?_) (fun _ hq => ?_) (fun _ hq => wpAny_of_eq (rfl : isSame (.str b u) (.ref l) = pure false) hq) hu h
  · exact call_meets F.slot_str_ne (typeIs_str s b u) F.entry_str_ne (F.args_str_ne_2 _ _) (str_ne_no_dict b u l (.type "dict") es n dd sl) ⟨ho, hq⟩
  · exact call_meets F.slot_dict_ne_refl ⟨_, ho, rfl⟩ F.entry_dict_ne (F.args_dict_ne_2 _ _) (dict_ne_no_str l es n dd sl b u) ⟨ho, hq⟩
theorem ne_list_str {prog : Program} {w : World} {E : Value → Shared → Prop} {Q : Value → Shared → Prop} {l : Addr} {items : Array Value} (b : Str) (u : Tok) (hl : s.heap.IsList l items) (hu : A.units < cLine) (h : Q (.bool true) s) : wpAny (model prog w) A (compareOp .NotEq (.ref l) (.str b u)) Q E s := by
  obtain ⟨⟨cls, dd, data, sl⟩, ho, hc, n, hd⟩ := id hl
  simp only at hc; simp only at hd
  subst hc hd
  refine rc_ne_no (Ta := "list") (Tb := "str") ⟨_, ho, rfl⟩ (typeIs_str s b u) (by decide) F.sub_str_list F.slot_list_ne F.slot_str_ne_refl (fun _ hq => ?_) (fun _ hq => ?_) (fun _ hq => wpAny_of_eq (rfl : isSame (.ref l) (.str b u) = pure false) hq) hu h
  · exact call_meets F.slot_list_ne ⟨_, ho, rfl⟩ F.entry_list_ne (F.args_list_ne_2 _ _) (list_ne_no_str l items n dd sl b u) ⟨ho, hq⟩
  · exact call_meets F.slot_str_ne_refl (typeIs_str s b u) F.entry_str_ne (F.args_str_ne_2 _ _) (str_ne_no_seq b u l (.type "list") items n dd sl) ⟨ho, hq⟩
theorem ne_str_list {prog : Program} {w : World} {E : Value → Shared → Prop} {Q : Value → Shared → Prop} {l : Addr} {items : Array Value} (b : Str) (u : Tok) (hl : s.heap.IsList l items) (hu : A.units < cLine) (h : Q (.bool true) s) : wpAny (model prog w) A (compareOp .NotEq (.str b u) (.ref l)) Q E s := by
  obtain ⟨⟨cls, dd, data, sl⟩, ho, hc, n, hd⟩ := id hl
  simp only at hc; simp only at hd
  subst hc hd
  refine rc_ne_no (Ta := "str") (Tb := "list") (typeIs_str s b u) ⟨_, ho, rfl⟩ (by decide) F.sub_list_str F.slot_str_ne F.slot_list_ne_refl (fun _ hq => ?_) (fun _ hq => ?_) (fun _ hq => wpAny_of_eq (rfl : isSame (.str b u) (.ref l) = pure false) hq) hu h
  · exact call_meets F.slot_str_ne (typeIs_str s b u) F.entry_str_ne (F.args_str_ne_2 _ _) (str_ne_no_seq b u l (.type "list") items n dd sl) ⟨ho, hq⟩
  · exact call_meets F.slot_list_ne_refl ⟨_, ho, rfl⟩ F.entry_list_ne (F.args_list_ne_2 _ _) (list_ne_no_str l items n dd sl b u) ⟨ho, hq⟩
theorem ne_tuple_str {prog : Program} {w : World} {E : Value → Shared → Prop} {Q : Value → Shared → Prop} {l : Addr} {items : Array Value} (b : Str) (u : Tok) (hl : s.heap.IsTuple l items) (hu : A.units < cLine) (h : Q (.bool true) s) : wpAny (model prog w) A (compareOp .NotEq (.ref l) (.str b u)) Q E s := by
  obtain ⟨⟨cls, dd, data, sl⟩, ho, hc, n, hd⟩ := id hl
  simp only at hc; simp only at hd
  subst hc hd
  refine rc_ne_no (Ta := "tuple") (Tb := "str") ⟨_, ho, rfl⟩ (typeIs_str s b u) (by decide) F.sub_str_tuple F.slot_tuple_ne F.slot_str_ne_refl (fun _ hq => ?_) (fun _ hq => ?_) (fun _ hq => wpAny_of_eq (rfl : isSame (.ref l) (.str b u) = pure false) hq) hu h
  · exact call_meets F.slot_tuple_ne ⟨_, ho, rfl⟩ F.entry_tuple_ne (F.args_tuple_ne_2 _ _) (tuple_ne_no_str l items n dd sl b u) ⟨ho, hq⟩
  · exact call_meets F.slot_str_ne_refl (typeIs_str s b u) F.entry_str_ne (F.args_str_ne_2 _ _) (str_ne_no_seq b u l (.type "tuple") items n dd sl) ⟨ho, hq⟩
theorem ne_str_tuple {prog : Program} {w : World} {E : Value → Shared → Prop} {Q : Value → Shared → Prop} {l : Addr} {items : Array Value} (b : Str) (u : Tok) (hl : s.heap.IsTuple l items) (hu : A.units < cLine) (h : Q (.bool true) s) : wpAny (model prog w) A (compareOp .NotEq (.str b u) (.ref l)) Q E s := by
  obtain ⟨⟨cls, dd, data, sl⟩, ho, hc, n, hd⟩ := id hl
  simp only at hc; simp only at hd
  subst hc hd
  refine rc_ne_no (Ta := "str") (Tb := "tuple") (typeIs_str s b u) ⟨_, ho, rfl⟩ (by decide) F.sub_tuple_str F.slot_str_ne F.slot_tuple_ne_refl (fun _ hq => ?_) (fun _ hq => ?_) (fun _ hq => wpAny_of_eq (rfl : isSame (.str b u) (.ref l) = pure false) hq) hu h
  · exact call_meets F.slot_str_ne (typeIs_str s b u) F.entry_str_ne (F.args_str_ne_2 _ _) (str_ne_no_seq b u l (.type "tuple") items n dd sl) ⟨ho, hq⟩
  · exact call_meets F.slot_tuple_ne_refl ⟨_, ho, rfl⟩ F.entry_tuple_ne (F.args_tuple_ne_2 _ _) (tuple_ne_no_str l items n dd sl b u) ⟨ho, hq⟩
end
end PySem.SeqAt
namespace L2
open PySem PySem.Spec PyProof.Rows
/-! ## ==, != where one side is a text, in where the thing or all items are texts: whatever the others are -/
def isStr : PyData → Bool | .str _ => true | _ => false
/-- the value stands for the data: what is needed of it beside a text -/
def Odd (K : PySem.W.Frag) (H : Hp) (v : V) : Prop := flatV v = true ∨ ∃ a, v = .ref a ∧ ((∃ xs, SqL K H a xs) ∨ (∃ xs, SqT K H a xs) ∨ ∃ ps, H a = some (.dK ps))
theorem rp_odd {K : PySem.W.Frag} {H : Hp} {d : PyData} {v : V} (h : Rp H d v) : Odd K H v := by
  cases d with
  | none => rw [rp_none h]; exact .inl rfl
  | bool b => rw [rp_bool h]; exact .inl rfl
  | int i => rw [rp_int h]; exact .inl rfl
  | str x => rw [rp_str h]; exact .inl rfl
  | list ds => obtain ⟨a, xs, rfl, ha, _⟩ := rp_list h; exact .inr ⟨a, rfl, .inl ⟨xs, SqL.of ha⟩⟩
  | tuple ds => obtain ⟨a, xs, rfl, ha, _⟩ := rp_tuple h; exact .inr ⟨a, rfl, .inr (.inl ⟨xs, SqT.of ha⟩)⟩
  | dict ds => obtain ⟨a, xs, rfl, ha, _⟩ := rp_dict h; exact .inr ⟨a, rfl, .inr (.inr ⟨xs, ha⟩)⟩
section
variable {X : Cx}
theorem odd_obj {pins : List (Addr × Obj)} {s : Shared} {σ : St} {H : Hp} (I : Inv X pins σ H s) {a : Addr} {ps : List (Key × V)} (h : H a = some (.dK ps)) : ∃ o es n, s.heap.get? a = some o ∧ o.cls = .type "dict" ∧ o.data = .dict es n := by
  obtain ⟨_, _, vs, _, p⟩ := (show ObjOk X.prog X.w H s.heap a (.dK ps) from I.hok a _ h)
  obtain ⟨o, es, ep, h1, h2, h3, _⟩ := p
  exact ⟨o, es, ep, h1, h2.1, h3⟩
/-- beside a text -/
theorem eqAt_odd {A : Around} {pins : List (Addr × Obj)} {s : Shared} {σ : St} {H : Hp} (I : Inv X pins σ H s) (hu : A.units + 2 < cLine) {y : V} {u : Value} (ry : RelV y u) (oy : Odd X.K H y) (z : Str) (t : Tok) : SeqAt.EqAt A s u (.str z t) (eqV y (.str z)) ∧ SeqAt.EqAt A s (.str z t) u (eqV (.str z) y) := by
  have hu0 : A.units < cLine := by omega
  have hu1 : A.in1.units < cLine := by show A.units + 1 < cLine; omega
  rcases oy with fy | ⟨a, rfl, h⟩
  · exact ⟨eqAt_V ry ⟨t, rfl⟩ fy rfl, eqAt_V ⟨t, rfl⟩ ry rfl fy⟩
  · cases ry
    rcases h with ⟨xs, h⟩ | ⟨xs, h⟩ | ⟨ps, h⟩
    · obtain ⟨its, rv, p, hz⟩ := I.list h
      exact ⟨SeqAt.EqAt.list_str z t p.isList hu0, SeqAt.EqAt.str_list z t p.isList hu0⟩
    · obtain ⟨its, rv, p, hz⟩ := I.tuple h
      exact ⟨SeqAt.EqAt.tuple_str z t p hu0, SeqAt.EqAt.str_tuple z t p hu0⟩
    · obtain ⟨o, es, n, h1, h2, h3⟩ := odd_obj I h
      exact ⟨SeqAt.eqAt_rs (SeqAt.rc_dict_str z t h1 h2 h3 hu0), SeqAt.eqAt_sr (SeqAt.rc_str_dict z t h1 h2 h3 hu0)⟩
/-- the item's truth beside a text x, by the item's own kind -/
def rEqT (K : PySem.W.Frag) (neg : Bool) : R2 := fun x y H Q => (∃ z, x = .str z ∧ Odd K H y ∨ y = .str z ∧ Odd K H x) ∧ Q (.bl (if neg then !eqV x y else eqV x y)) H
theorem cmp_flat {K : PySem.W.Frag} {x y : V} {H : Hp} {Q : VK} (fx : flatV x = true) (fy : flatV y = true) (z : Str) (hz : x = .str z ∨ y = .str z) : scal x y = true ∧ decide (x = y) = eqV x y := by
  rcases hz with rfl | rfl
  · cases y <;> first | exact ⟨rfl, dec_str⟩ | exact ⟨rfl, rfl⟩ | exact ⟨rfl, by simp [eqV]⟩ | exact absurd (show false = true from fy) Bool.false_ne_true
  · cases x <;> first | exact ⟨rfl, dec_str⟩ | exact ⟨rfl, rfl⟩ | exact ⟨rfl, by simp [eqV]⟩ | exact absurd (show false = true from fx) Bool.false_ne_true
theorem op_eqT {K : PySem.W.Frag} (hK : X.K = K) (hu : X.A.units + 64 < cLine) : OpR X (compareOp .Eq) (rEqT K false) := by
  subst hK
  intro pins s σ H x y v u Q I rx ry h
  obtain ⟨⟨z, h⟩, q⟩ := h
  have hu0 : X.A.units < cLine := by omega
  have q' : EP X pins σ Q (.bool (eqV x y)) s := ⟨.bl _, H, I, rfl, q⟩
  have flat : flatV x = true → flatV y = true → (x = .str z ∨ y = .str z) → wpAny (model X.prog X.w) X.A (compareOp .Eq v u) (EP X pins σ Q) X.xe s := fun fx fy hz => by
    obtain ⟨h1, h2⟩ := cmp_flat (K := X.K) (H := H) (Q := Q) fx fy z hz
    exact op_eq pins s σ H x y v u Q I rx ry ⟨h1, by rw [h2]; exact q⟩
  rcases h with ⟨rfl, o⟩ | ⟨rfl, o⟩
  · rcases id o with fy | ⟨a, rfl, oa⟩
    · exact flat rfl fy (.inl rfl)
    · cases ry
      obtain ⟨t, rfl⟩ := rx
      rcases oa with ⟨xs, h⟩ | ⟨xs, h⟩ | ⟨ps, h⟩
      · obtain ⟨its, rv, p, hz⟩ := I.list h
        exact SeqAt.RcAt.str_list z t p.isList hu0 _ _ _ _ q'
      · obtain ⟨its, rv, p, hz⟩ := I.tuple h
        exact SeqAt.RcAt.str_tuple z t p hu0 _ _ _ _ q'
      · obtain ⟨ob, es, n, h1, h2, h3⟩ := odd_obj I h
        exact SeqAt.rc_str_dict z t h1 h2 h3 hu0 _ _ _ _ q'
  · rcases id o with fy | ⟨a, rfl, oa⟩
    · exact flat fy rfl (.inr rfl)
    · cases rx
      obtain ⟨t, rfl⟩ := ry
      rcases oa with ⟨xs, h⟩ | ⟨xs, h⟩ | ⟨ps, h⟩
      · obtain ⟨its, rv, p, hz⟩ := I.list h
        exact SeqAt.RcAt.list_str z t p.isList hu0 _ _ _ _ q'
      · obtain ⟨its, rv, p, hz⟩ := I.tuple h
        exact SeqAt.RcAt.tuple_str z t p hu0 _ _ _ _ q'
      · obtain ⟨ob, es, n, h1, h2, h3⟩ := odd_obj I h
        exact SeqAt.rc_dict_str z t h1 h2 h3 hu0 _ _ _ _ q'
theorem op_neT {K : PySem.W.Frag} (hK : X.K = K) (hu : X.A.units + 64 < cLine) : OpR X (compareOp .NotEq) (rEqT K true) := by
  subst hK
  intro pins s σ H x y v u Q I rx ry h
  obtain ⟨⟨z, h⟩, q⟩ := h
  have hu0 : X.A.units < cLine := by omega
  have q' : EP X pins σ Q (.bool (!eqV x y)) s := ⟨.bl _, H, I, rfl, q⟩
  have flat : flatV x = true → flatV y = true → (x = .str z ∨ y = .str z) → wpAny (model X.prog X.w) X.A (compareOp .NotEq v u) (EP X pins σ Q) X.xe s := fun fx fy hz => by
    obtain ⟨h1, h2⟩ := cmp_flat (K := X.K) (H := H) (Q := Q) fx fy z hz
    exact op_ne pins s σ H x y v u Q I rx ry ⟨h1, by rw [h2]; exact q⟩
  rcases h with ⟨rfl, o⟩ | ⟨rfl, o⟩
  · rcases id o with fy | ⟨a, rfl, oa⟩
    · exact flat rfl fy (.inl rfl)
    · cases ry
      obtain ⟨t, rfl⟩ := rx
      rcases oa with ⟨xs, h⟩ | ⟨xs, h⟩ | ⟨ps, h⟩
      · obtain ⟨its, rv, p, hz⟩ := I.list h
        exact SeqAt.ne_str_list z t p.isList hu0 q'
      · obtain ⟨its, rv, p, hz⟩ := I.tuple h
        exact SeqAt.ne_str_tuple z t p hu0 q'
      · obtain ⟨ob, es, n, h1, h2, h3⟩ := odd_obj I h
        exact SeqAt.ne_str_dict z t h1 h2 h3 hu0 q'
  · rcases id o with fy | ⟨a, rfl, oa⟩
    · exact flat fy rfl (.inr rfl)
    · cases rx
      obtain ⟨t, rfl⟩ := ry
      rcases oa with ⟨xs, h⟩ | ⟨xs, h⟩ | ⟨ps, h⟩
      · obtain ⟨its, rv, p, hz⟩ := I.list h
        exact SeqAt.ne_list_str z t p.isList hu0 q'
      · obtain ⟨its, rv, p, hz⟩ := I.tuple h
        exact SeqAt.ne_tuple_str z t p hu0 q'
      · obtain ⟨ob, es, n, h1, h2, h3⟩ := odd_obj I h
        exact SeqAt.ne_dict_str z t h1 h2 h3 hu0 q'
/-- in, a text among whatever things, or whatever thing among texts -/
def rInT (K : PySem.W.Frag) (neg : Bool) : R2 := fun x y H Q => ∃ p xs, y = .ref p ∧ (SqL K H p xs ∨ SqT K H p xs) ∧ ((∃ z, x = .str z) ∧ (∀ w ∈ xs, Odd K H w) ∨ Odd K H x ∧ ∀ w ∈ xs, ∃ z, w = .str z) ∧ Q (.bl (if neg then !inV x xs else inV x xs)) H
theorem eqU_odd {x y : V} {u : Value} {K : PySem.W.Frag} {H : Hp} (r : RelV y u) (o : Odd K H y) (hx : flatV x = true ∨ flatV y = true) : eqU x u = eqV y x := by
  rcases o with f | ⟨a, rfl, _⟩
  · exact eqU_of r f
  · cases r
    cases x <;> rfl
theorem any_odd {x : V} {K : PySem.W.Frag} {H : Hp} : ∀ {xs : List V} {us : List Value}, Vals xs us → (∀ w ∈ xs, Odd K H w ∧ (flatV x = true ∨ flatV w = true)) → us.any (eqU x) = inV x xs
  | _, _, .nil, _ => rfl
  | y :: xs, u :: us, .cons r t, f => by
    unfold inV
    obtain ⟨o, g⟩ := f y List.mem_cons_self
    rw [List.any_cons, List.any_cons, eqU_odd r o g]
    congr 1
    exact any_odd t fun w hw => f w (List.mem_cons_of_mem _ hw)
theorem mem_odd {A : Around} {pins : List (Addr × Obj)} {s : Shared} {σ : St} {H : Hp} (I : Inv X pins σ H s) (hu : A.units + 2 < cLine) {x : V} {v : Value} (rx : RelV x v) : ∀ {xs : List V} {us : List Value}, Vals xs us → ((∃ z, x = .str z) ∧ (∀ w ∈ xs, Odd X.K H w) ∨ Odd X.K H x ∧ ∀ w ∈ xs, ∃ z, w = .str z) → ∀ u ∈ us, SeqAt.EqAt A s u v (eqU x u)
  | _, _, .nil, _ => fun u hu => by cases hu
  | y :: xs, u :: us, .cons r t, f => fun u' hu' => by
    rcases List.mem_cons.mp hu' with rfl | hm
    · rcases f with ⟨⟨z, rfl⟩, f⟩ | ⟨ox, f⟩
      · obtain ⟨tk, rfl⟩ := rx
        have oy := f y List.mem_cons_self
        rw [eqU_odd r oy (.inl rfl)]
        exact (eqAt_odd I hu r oy z tk).1
      · obtain ⟨z, rfl⟩ := f y List.mem_cons_self
        rw [eqU_odd (K := X.K) (H := H) r (.inl rfl) (.inr rfl)]
        obtain ⟨tk, rfl⟩ := r
        exact (eqAt_odd I hu rx ox z tk).2
    · exact mem_odd I hu rx t (f.imp (fun h => ⟨h.1, fun w hw => h.2 w (List.mem_cons_of_mem _ hw)⟩) (fun h => ⟨h.1, fun w hw => h.2 w (List.mem_cons_of_mem _ hw)⟩)) u' hm
theorem all_odd {x : V} {K : PySem.W.Frag} {H : Hp} {xs : List V} (f : (∃ z, x = .str z) ∧ (∀ w ∈ xs, Odd K H w) ∨ Odd K H x ∧ ∀ w ∈ xs, ∃ z, w = .str z) : ∀ w ∈ xs, Odd K H w ∧ (flatV x = true ∨ flatV w = true) := fun w hw => by
  rcases f with ⟨⟨z, rfl⟩, f⟩ | ⟨ox, f⟩
  · exact ⟨f w hw, .inl rfl⟩
  · obtain ⟨z, rfl⟩ := f w hw
    exact ⟨.inl rfl, .inr rfl⟩
theorem op_inTx {K : PySem.W.Frag} (hK : X.K = K) (hu : X.A.units + 64 < cLine) : OpR X (compareOp .In) (rInT K false) := by
  subst hK
  intro pins s σ H x y v u Q I rx ry h
  obtain ⟨p, xs, rfl, hq, f, q⟩ := h
  cases ry
  have hu2 : X.A.in1.units + 2 < cLine := by show X.A.units + 1 + 2 < cLine; omega
  have q : EP X pins σ Q (.bool (inV x xs)) s := ⟨.bl (inV x xs), H, I, rfl, q⟩
  rcases hq with hq | hq
  · obtain ⟨its, r, pl, hz⟩ := I.list hq
    refine SeqAt.in_listAt (eqU x) pl.isList (fun w hw => mem_odd I hu2 rx r f w (by simpa using hw)) ?_
    rw [show its.toArray.any (eqU x) = its.any (eqU x) by simp, any_odd r (all_odd f)]
    exact q
  · obtain ⟨its, r, pl, hz⟩ := I.tuple hq
    refine SeqAt.in_tupleAt (eqU x) pl (fun w hw => mem_odd I hu2 rx r f w (by simpa using hw)) ?_
    rw [show its.toArray.any (eqU x) = its.any (eqU x) by simp, any_odd r (all_odd f)]
    exact q
theorem op_notInTx {K : PySem.W.Frag} (hK : X.K = K) (hu : X.A.units + 64 < cLine) : OpR X (compareOp .NotIn) (rInT K true) := by
  subst hK
  intro pins s σ H x y v u Q I rx ry h
  obtain ⟨p, xs, rfl, hq, f, q⟩ := h
  cases ry
  have hu2 : X.A.in1.units + 2 < cLine := by show X.A.units + 1 + 2 < cLine; omega
  have q : EP X pins σ Q (.bool (!inV x xs)) s := ⟨.bl (!inV x xs), H, I, rfl, q⟩
  rcases hq with hq | hq
  · obtain ⟨its, r, pl, hz⟩ := I.list hq
    refine SeqAt.notIn_listAt (eqU x) pl.isList (fun w hw => mem_odd I hu2 rx r f w (by simpa using hw)) ?_
    rw [show its.toArray.any (eqU x) = its.any (eqU x) by simp, any_odd r (all_odd f)]
    exact q
  · obtain ⟨its, r, pl, hz⟩ := I.tuple hq
    refine SeqAt.notIn_tupleAt (eqU x) pl (fun w hw => mem_odd I hu2 rx r f w (by simpa using hw)) ?_
    rw [show its.toArray.any (eqU x) = its.any (eqU x) by simp, any_odd r (all_odd f)]
    exact q
end
/-! by data -/
theorem isStr_ex {d : PyData} (h : isStr d = true) : ∃ z, d = .str z := by
  cases d <;> first
    | exact ⟨_, rfl⟩
    | exact absurd (show false = true from h) Bool.false_ne_true
theorem eqV_str {H : Hp} {d : PyData} {v : V} (h : Rp H d v) (z : Str) : eqV v (.str z) = PyData.eqv d (.str z) ∧ eqV (.str z) v = PyData.eqv (.str z) d := by
  cases d with
  | none => rw [rp_none h]; exact ⟨by simp [eqV, PyData.eqv], by simp [eqV, PyData.eqv]⟩
  | bool b => rw [rp_bool h]; exact ⟨by simp [eqV, PyData.eqv], by simp [eqV, PyData.eqv]⟩
  | int i => rw [rp_int h]; exact ⟨by simp [eqV, PyData.eqv], by simp [eqV, PyData.eqv]⟩
  | str x => rw [rp_str h]; exact ⟨by simp [eqV, PyData.eqv], by simp [eqV, PyData.eqv]⟩
  | list ds => obtain ⟨a, xs, rfl, ha, _⟩ := rp_list h; exact ⟨by simp [eqV, PyData.eqv], by simp [eqV, PyData.eqv]⟩
  | tuple ds => obtain ⟨a, xs, rfl, ha, _⟩ := rp_tuple h; exact ⟨by simp [eqV, PyData.eqv], by simp [eqV, PyData.eqv]⟩
  | dict ds => obtain ⟨a, xs, rfl, ha, _⟩ := rp_dict h; exact ⟨by simp [eqV, PyData.eqv], by simp [eqV, PyData.eqv]⟩
def eqTD (neg : Bool) : OF := fun dx dy => if isStr dx = true ∨ isStr dy = true then some (.bool (if neg then !PyData.eqv dx dy else PyData.eqv dx dy), false) else none
theorem so_eqT {K : PySem.W.Frag} {neg : Bool} : SO (rEqT K neg) (eqTD neg) := by
  intro A H x y dx dy hA rx ry d fr e Q q
  unfold eqTD at e
  split at e
  · rename_i h
    cases e
    have rx := Rp.same (Offs.same A H) _ rx
    have ry := Rp.same (Offs.same A H) _ ry
    have fin : ∀ b : Bool, eqV x y = b → b = PyData.eqv dx dy → Q (.bl (if neg then !eqV x y else eqV x y)) H := fun b h1 h2 => by
      rw [h1, h2]
      refine q _ H (Same.refl _) ?_ (fun z => by cases z)
      cases neg <;> exact rp_mk_bool
    rcases h with h | h
    · obtain ⟨z, rfl⟩ := isStr_ex h
      have := rp_str rx
      subst this
      exact ⟨⟨z, .inl ⟨rfl, rp_odd ry⟩⟩, fin _ (eqV_str ry z).2 rfl⟩
    · obtain ⟨z, rfl⟩ := isStr_ex h
      have := rp_str ry
      subst this
      exact ⟨⟨z, .inr ⟨rfl, rp_odd rx⟩⟩, fin _ (eqV_str rx z).1 rfl⟩
  · cases e
theorem inV_txt {H : Hp} {dx : PyData} {x : V} (rx : Rp H dx x) : ∀ {ds : List PyData} {xs : List V}, Rps H ds xs → (isStr dx = true ∨ ds.all isStr = true) → inV x xs = ds.any fun e => PyData.eqv e dx
  | [], xs, h, _ => by unfold Rps at h; subst h; rfl
  | d :: ds, xs, h, f => by
    unfold Rps at h
    obtain ⟨v, vs, rfl, h1, h2⟩ := h
    have ih := inV_txt rx h2 (f.imp id fun g => by rw [List.all_cons, Bool.and_eq_true] at g; exact g.2)
    unfold inV at ih ⊢
    rw [List.any_cons, List.any_cons, ih]
    congr 1
    rcases f with f | f
    · obtain ⟨z, rfl⟩ := isStr_ex f
      have := rp_str rx
      subst this
      exact (eqV_str h1 _).1
    · rw [List.all_cons, Bool.and_eq_true] at f
      obtain ⟨z, rfl⟩ := isStr_ex f.1
      have := rp_str h1
      subst this
      exact (eqV_str rx _).2
theorem rps_mem {H : Hp} {ds : List PyData} {xs : List V} (h : Rps H ds xs) {w : V} (hw : w ∈ xs) : ∃ d ∈ ds, Rp H d w := by
  obtain ⟨i, hi⟩ := List.getElem?_of_mem hw
  obtain ⟨d, hd, r⟩ := h.get hi
  exact ⟨d, List.mem_of_getElem? hd, r⟩
def inTD (neg : Bool) : OF := fun d c => match itemsD c with
  | some ds => if isStr d = true ∨ ds.all isStr = true then some (.bool (if neg then !(ds.any fun e => PyData.eqv e d) else ds.any fun e => PyData.eqv e d), false) else none
  | none => none
theorem so_inTx {K : PySem.W.Frag} {neg : Bool} : SO (rInT K neg) (inTD neg) := by
  intro A H x y dx dy hA rx ry d fr e Q q
  unfold inTD at e
  split at e
  · rename_i ds hi
    split at e
    · rename_i h
      cases e
      have rx := Rp.same (Offs.same A H) _ rx
      obtain ⟨p, xs, rfl, hq, r⟩ := rp_items (K := K) (Rp.same (Offs.same A H) _ ry) hi
      refine ⟨p, xs, rfl, hq, ?_, ?_⟩
      · rcases h with h | h
        · obtain ⟨z, rfl⟩ := isStr_ex h
          have := rp_str rx
          subst this
          exact .inl ⟨⟨_, rfl⟩, fun w hw => let ⟨d, _, hd⟩ := rps_mem r hw; rp_odd hd⟩
        · refine .inr ⟨rp_odd rx, fun w hw => ?_⟩
          obtain ⟨d, hm, hd⟩ := rps_mem r hw
          obtain ⟨z, rfl⟩ := isStr_ex (List.all_eq_true.mp h d hm)
          exact ⟨_, rp_str hd⟩
      · rw [inV_txt rx r h]
        refine q _ H (Same.refl _) ?_ (fun z => by cases z)
        cases neg <;> exact rp_mk_bool
    · cases e
  · cases e
end L2

namespace L2
open PySem PySem.Spec PyProof.Rows
/-! the rules in a box: a box does not unfold, so a derivation's terms are put together without a look into what they say -/
structure Bx (p : Prop) : Prop where
  out : p
theorem Bx.pt {X : Cx} {e : Expr} {t : TT} (h : Bx (PW X e t)) : Bx (PT X e t) := ⟨h.out.pt⟩
theorem bpe_int : ∀ {X : L2.Cx} {i : Int} {j : Nat} {pos : PySem.Pos}, L2.Bx (L2.PE X (PySem.Expr.Constant (PySem.Const.int i) j pos) (L2.tC (L2.V.int i))) := by
  intro X i j pos
  exact ⟨@pe_int X i j pos⟩
theorem bpa_nil : ∀ {X : L2.Cx}, L2.Bx (L2.PA X [] L2.tNil) := by
  intro X
  exact ⟨@pa_nil X⟩
theorem bpa_consF : ∀ {X : L2.Cx} {e : PySem.Expr} {es : List PySem.Expr} {te : L2.TE} {t : L2.TA}, L2.Bx (L2.PE X e te) → L2.Bx (L2.PA X es t) → L2.isStar e = Bool.false → L2.Bx (L2.PA X (e :: es) (L2.tCons te t)) := by
  intro X e es te t ha hr hs
  exact ⟨@pa_consF X e es te t ha.out hr.out hs⟩
theorem bpe_op : ∀ {X : L2.Cx} {a b : PySem.Expr} {ta tb : L2.TE} {pos : PySem.Pos} {op : PySem.Operator} {r : L2.R2}, L2.OpR X (PySem.binaryOp op) r → L2.Bx (L2.PE X a ta) → L2.Bx (L2.PE X b tb) → L2.Bx (L2.PE X (a.BinOp op b pos) (L2.tOp r ta tb)) := by
  intro X a b ta tb pos op r ho ha hb
  exact ⟨@pe_op X a b ta tb pos op r ho ha.out hb.out⟩
theorem bpss_one : ∀ {X : L2.Cx} {st : PySem.Stmt} {t : L2.TS}, L2.Bx (L2.PS X st t) → L2.Bx (L2.PSs X [st] t) := by
  intro X st t h1
  exact ⟨@pss_one X st t h1.out⟩
theorem bpss_cons : ∀ {X : L2.Cx} {st : PySem.Stmt} {rest : List PySem.Stmt} {t u : L2.TS}, L2.Bx (L2.PS X st t) → L2.Bx (L2.PSs X rest u) → L2.Bx (L2.PSs X (st :: rest) (L2.tSeq t u)) := by
  intro X st rest t u h1 h2
  exact ⟨@pss_cons X st rest t u h1.out h2.out⟩
theorem bpe_dn : ∀ {X : L2.Cx} {x : PySem.Str} {p pos : PySem.Pos} {e : PySem.Expr} {es : List PySem.Expr} {t : L2.TA} {ps : List PySem.Str} {k : Nat} {sp : L2.Sp}, L2.Dn X.prog X.w X.K X.mg X.base x ps k sp → L2.Room k X.A → L2.Gl X x → L2.Bx (L2.PA X (e :: es) t) → (x == PySem.Str.ofString "__debug__") = Bool.false → PySem.starEach (e :: es) X.env = (Bool.false, PySem.eval e X.env) :: PySem.starEach es X.env → ((PySem.backTo pos (PySem.starEach es X.env)).any fun (x : Bool × PySem.Sem PySem.Value) => x.fst) = Bool.false → L2.Bx (L2.PE X ((PySem.Expr.Name x p).Call (e :: es) [] pos) (L2.tCall sp [] L2.E0 t)) := by
  intro X x p pos e es t ps k sp D hr hg ha hdb he hpl
  exact ⟨@pe_dn X x p pos e es t ps k sp D hr hg ha.out hdb he hpl⟩
theorem bps_ret : ∀ {X : L2.Cx} {e : PySem.Expr} {te : L2.TE} {pos : PySem.Pos}, L2.Bx (L2.PE X e te) → L2.Bx (L2.PS X (PySem.Stmt.Return (Option.some e) pos) (L2.tRet te)) := by
  intro X e te pos he
  exact ⟨@ps_ret X e te pos he.out⟩
theorem bps_set : ∀ {X : L2.Cx} {pos : PySem.Pos} {i : Nat} {x : PySem.Str} {e : PySem.Expr} {te : L2.TE} {pos' : PySem.Pos}, X.N.Nodup → X.N[i]? = Option.some x → L2.Loc X.env.scope x → L2.Bx (L2.PE X e te) → PySem.swapsWith e (Option.some (PySem.Expr.Name x pos')) pos.line X.env = Pure.pure Bool.false → X.fn x = Bool.true ∨ List.lookup x X.env.scope.names = Option.some PySem.NameKind.local → L2.Bx (L2.PS X (PySem.Stmt.Assign [PySem.Expr.Name x pos'] e pos) (L2.tAsg te (L2.gName i))) := by
  intro X pos i x e te pos' hN hi hx he hs hf
  exact ⟨@ps_set X pos i x e te pos' hN hi hx he.out hs hf⟩
theorem bpe_callB : ∀ {X : L2.Cx} {x : PySem.Str} {p pos : PySem.Pos} {e : PySem.Expr} {es : List PySem.Expr} {t : L2.TA} {id : String} {r : List L2.V → L2.Hp → L2.VK → Prop}, L2.CallR X (PySem.Value.builtin id) r → L2.Gl X x → X.mg x = Option.none → PySem.bootBuiltins x = Option.some (PySem.Value.builtin id) → L2.Bx (L2.PA X (e :: es) t) → x ≠ PySem.Str.ofString "__name__" → (x == PySem.Str.ofString "__debug__") = Bool.false → PySem.starEach (e :: es) X.env = (Bool.false, PySem.eval e X.env) :: PySem.starEach es X.env → ((PySem.backTo pos (PySem.starEach es X.env)).any fun (x : Bool × PySem.Sem PySem.Value) => x.fst) = Bool.false → L2.Bx (L2.PE X ((PySem.Expr.Name x p).Call (e :: es) [] pos) (L2.tCB r t)) := by
  intro X x p pos e es t id r hc hg hm hv ha hn hdb he hpl
  exact ⟨@pe_callB X x p pos e es t id r hc hg hm hv ha.out hn hdb he hpl⟩
theorem bpe_bl : ∀ {X : L2.Cx} {b : Bool} {j : Nat} {pos : PySem.Pos}, L2.Bx (L2.PE X (PySem.Expr.Constant (PySem.Const.bool b) j pos) (L2.tC (L2.V.bl b))) := by
  intro X b j pos
  exact ⟨@pe_bl X b j pos⟩
theorem bpe_ix : ∀ {X : L2.Cx} {a b : PySem.Expr} {ta tb : L2.TE} {pos : PySem.Pos} {r : L2.R2}, L2.IxR X r → L2.Bx (L2.PE X a ta) → L2.Bx (L2.PE X b tb) → L2.PlainIx b → L2.Bx (L2.PE X (a.Subscript b pos) (L2.tOp r ta tb)) := by
  intro X a b ta tb pos r hr ha hb hs
  exact ⟨@pe_ix X a b ta tb pos r hr ha.out hb.out hs⟩
theorem bps_if : ∀ {X : L2.Cx} {t u : L2.TS} {pos : PySem.Pos} {c : PySem.Expr} {a b : List PySem.Stmt} {tc : L2.TT}, L2.Bx (L2.PT X c tc) → L2.Bx (L2.PSs X a t) → L2.Bx (L2.PSs X b u) → L2.Bx (L2.PS X (PySem.Stmt.If c a b pos) (L2.tIfS tc t u)) := by
  intro X t u pos c a b tc hc ha hb
  exact ⟨@ps_if X t u pos c a b tc hc.out ha.out hb.out⟩
theorem bpss_nil : ∀ {X : L2.Cx}, L2.Bx (L2.PSs X [] L2.tNext) := by
  intro X
  exact ⟨@pss_nil X⟩
theorem bpt_not : ∀ {X : L2.Cx} {a : PySem.Expr} {pos : PySem.Pos} {tA : L2.TT}, L2.Bx (L2.PT X a tA) → L2.Bx (L2.PT X (PySem.Expr.UnaryOp PySem.UnaryOp.Not a pos) (L2.tNot tA)) := by
  intro X a pos tA ha
  exact ⟨@pt_not X a pos tA ha.out⟩
theorem bpt_truthK : ∀ {X : L2.Cx} {K : PySem.W.Frag},
  X.K = K →
    ∀ {a : PySem.Expr} {ta : L2.TE},
      L2.Bx (L2.PE X a ta) →
        (∀ (whole : PySem.Sem PySem.Value),
            PySem.isTrue a X.env whole = do
              let v ← whole
              PySem.standAt a.pos
              PySem.holding [v] (PySem.truthy v)) →
          L2.Bx (L2.PT X a fun (σ : L2.St) (H : L2.Hp) (Q : Bool → L2.Hp → Prop) => ta σ H fun (x : L2.V) (H' : L2.Hp) => ∃ (k : Bool), L2.TruV K x H' k ∧ Q k H') := by
  intro X K hK a ta ha he
  exact ⟨@pt_truthK X K hK a ta ha.out he⟩
theorem bpg_name : ∀ {X : L2.Cx} {pos : PySem.Pos} {i : Nat} {x : PySem.Str}, X.N.Nodup → X.N[i]? = Option.some x → L2.Loc X.env.scope x → X.fn x = Bool.true ∨ List.lookup x X.env.scope.names = Option.some PySem.NameKind.local → L2.Bx (L2.PG X (PySem.Expr.Name x pos) (L2.gName i)) := by
  intro X pos i x hN hi hx hf
  exact ⟨@pg_name X pos i x hN hi hx hf⟩
theorem bpe_lst : ∀ {X : L2.Cx} {es : List PySem.Expr} {t : L2.TA} {pos : PySem.Pos}, L2.Bx (L2.PA X es t) → L2.Bx (L2.PE X (PySem.Expr.List es pos) (L2.tLst t)) := by
  intro X es t pos h
  exact ⟨@pe_lst X es t pos h.out⟩
theorem bps_for : ∀ {X : L2.Cx} {tg iter : PySem.Expr} {body : List PySem.Stmt} {wi : L2.TI} {g : L2.TG} {tb : L2.TS} {pos : PySem.Pos}, PySem.PassesOwn (PySem.model X.prog X.w) X.A X.env X.xe → X.calm = Bool.true → L2.Bx (L2.PI X tg iter wi) → L2.Bx (L2.PG X tg g) → L2.Bx (L2.PSs X body tb) → (∀ (x : PySem.Value), PySem.foldedSetIterable iter X.env x = Pure.pure x) → L2.Bx (L2.PS X (PySem.Stmt.For tg iter body [] pos) (L2.tFor wi g tb)) := by
  intro X tg iter body wi g tb pos hp hc hi hg hb hs
  exact ⟨@ps_for X tg iter body wi g tb pos hp hc hi.out hg.out hb.out hs⟩
theorem bpt_cmpR : ∀ {X : L2.Cx} {a b : PySem.Expr} {ta tb : L2.TE} {pos : PySem.Pos} {op : PySem.CmpOp} {r : L2.R2}, L2.OpR X (PySem.compareOp op) r → L2.Bx (L2.PE X a ta) → L2.Bx (L2.PE X b tb) → PySem.behindInMarks op b = Bool.false → L2.Bx (L2.PT X (a.Compare [op] [b] pos) (L2.tTest (L2.tOp r ta tb))) := by
  intro X a b ta tb pos op r ho ha hb hm
  exact ⟨@pt_cmpR X a b ta tb pos op r ho ha.out hb.out hm⟩
theorem bpe_str : ∀ {X : L2.Cx} {x : PySem.Str} {j : Nat} {pos : PySem.Pos}, L2.Bx (L2.PE X (PySem.Expr.Constant (PySem.Const.str x) j pos) (L2.tC (L2.V.str x))) := by
  intro X x j pos
  exact ⟨@pe_str X x j pos⟩
theorem bps_expr : ∀ {X : L2.Cx} {e : PySem.Expr} {te : L2.TE} {pos : PySem.Pos}, L2.Bx (L2.PE X e te) → PySem.swapsWith e Option.none pos.line X.env = Pure.pure Bool.false → L2.Bx (L2.PS X (PySem.Stmt.Expr e pos) (L2.tDrop te)) := by
  intro X e te pos he hs
  exact ⟨@ps_expr X e te pos he.out hs⟩
theorem bpe_tup : ∀ {X : L2.Cx} {es : List PySem.Expr} {t : L2.TA} {pos : PySem.Pos} {x1 : Nat}, L2.Bx (L2.PA X es t) → L2.Bx (L2.PE X (PySem.Expr.Tuple es x1 pos) (L2.tTup t)) := by
  intro X es t pos x1 h
  exact ⟨@pe_tup X es t pos x1 h.out⟩
theorem bpe_one : ∀ {X : L2.Cx} {a : PySem.Expr} {pos : PySem.Pos} {op : PySem.BoolOp} {t : L2.TE}, L2.Bx (L2.PE X a t) → L2.Bx (L2.PE X (PySem.Expr.BoolOp op [a] pos) t) := by
  intro X a pos op t h
  exact ⟨@pe_one X a pos op t h.out⟩
theorem bpe_cmpR : ∀ {X : L2.Cx} {a b : PySem.Expr} {ta tb : L2.TE} {pos : PySem.Pos} {op : PySem.CmpOp} {r : L2.R2}, L2.OpR X (PySem.compareOp op) r → L2.Bx (L2.PE X a ta) → L2.Bx (L2.PE X b tb) → PySem.behindInMarks op b = Bool.false → L2.Bx (L2.PE X (a.Compare [op] [b] pos) (L2.tOp r ta tb)) := by
  intro X a b ta tb pos op r ho ha hb hm
  exact ⟨@pe_cmpR X a b ta tb pos op r ho ha.out hb.out hm⟩
theorem bpe_callTy : ∀ {X : L2.Cx} {x : PySem.Str} {p pos : PySem.Pos} {e : PySem.Expr} {es : List PySem.Expr} {t : L2.TA} {T : String} {r : List L2.V → L2.Hp → L2.VK → Prop}, L2.CallR X (PySem.Value.type T) r → L2.Gl X x → X.mg x = Option.none → PySem.bootBuiltins x = Option.some (PySem.Value.type T) → L2.Bx (L2.PA X (e :: es) t) → x ≠ PySem.Str.ofString "__name__" → (x == PySem.Str.ofString "__debug__") = Bool.false → PySem.starEach (e :: es) X.env = (Bool.false, PySem.eval e X.env) :: PySem.starEach es X.env → ((PySem.backTo pos (PySem.starEach es X.env)).any fun (x : Bool × PySem.Sem PySem.Value) => x.fst) = Bool.false → L2.Bx (L2.PE X ((PySem.Expr.Name x p).Call (e :: es) [] pos) (L2.tCB r t)) := by
  intro X x p pos e es t T r hc hg hm hv ha hn hdb he hpl
  exact ⟨@pe_callTy X x p pos e es t T r hc hg hm hv ha.out hn hdb he hpl⟩
theorem bpe_bltn : ∀ {X : L2.Cx} {x : PySem.Str} {v : L2.V} {u : PySem.Value} {pos : PySem.Pos}, L2.Gl X x → X.mg x = Option.none → PySem.bootBuiltins x = Option.some u → L2.RelV v u → x ≠ PySem.Str.ofString "__name__" → (x == PySem.Str.ofString "__debug__") = Bool.false → L2.Bx (L2.PE X (PySem.Expr.Name x pos) (L2.tC v)) := by
  intro X x v u pos hg hm hv r hn hd
  exact ⟨@pe_bltn X x v u pos hg hm hv r hn hd⟩
theorem bpw_or1 : ∀ {X : L2.Cx} {a : PySem.Expr} {pos : PySem.Pos} {tA : L2.TT}, L2.Bx (L2.PT X a tA) → L2.Bx (L2.PW X (PySem.Expr.BoolOp PySem.BoolOp.Or [a] pos) tA) := by
  intro X a pos tA ha
  exact ⟨@pw_or1 X a pos tA ha.out⟩
theorem bpw_or : ∀ {X : L2.Cx} {a b : PySem.Expr} {pos : PySem.Pos} {tA tB' : L2.TT} {rest : List PySem.Expr}, L2.Bx (L2.PT X a tA) → L2.Bx (L2.PW X (PySem.Expr.BoolOp PySem.BoolOp.Or (b :: rest) pos) tB') → L2.Bx (L2.PW X (PySem.Expr.BoolOp PySem.BoolOp.Or (a :: b :: rest) pos) (L2.tOr tA tB')) := by
  intro X a b pos tA tB' rest ha hb
  exact ⟨@pw_or X a b pos tA tB' rest ha.out hb.out⟩
theorem bpo_some : ∀ {X : L2.Cx} {e : PySem.Expr} {te : L2.TE}, L2.Bx (L2.PE X e te) → L2.Bx (L2.PO X (Option.some e) (L2.tPart te)) := by
  intro X e te h
  exact ⟨@po_some X e te h.out⟩
theorem bpo_none : ∀ {X : L2.Cx}, L2.Bx (L2.PO X Option.none L2.tNoPart) := by
  intro X
  exact ⟨@po_none X⟩
theorem bpe_slice : ∀ {X : L2.Cx} {e : PySem.Expr} {te : L2.TE} {lo hi : Option PySem.Expr} {tl th : L2.TO} {pos p2 : PySem.Pos} {r : L2.V → Option Int → Option Int → L2.Hp → L2.VK → Prop}, L2.SlR X r → L2.Bx (L2.PE X e te) → L2.Bx (L2.PO X lo tl) → L2.Bx (L2.PO X hi th) → L2.Bx (L2.PE X (e.Subscript (PySem.Expr.Slice lo hi Option.none p2) pos) (L2.tSl r te tl th)) := by
  intro X e te lo hi tl th pos p2 r hr he hl hu
  exact ⟨@pe_slice X e te lo hi tl th pos p2 r hr he.out hl.out hu.out⟩
theorem bpe_rev : ∀ {X : L2.Cx} {K : PySem.W.Frag}, X.K = K → ∀ {e k : PySem.Expr} {te : L2.TE} {tk : L2.TO} {pos p2 : PySem.Pos}, L2.Bx (L2.PE X e te) → L2.Bx (L2.PO X (Option.some k) tk) → L2.Bx (L2.PE X (e.Subscript (PySem.Expr.Slice Option.none Option.none (Option.some k) p2) pos) (L2.tRev K te tk)) := by
  intro X K hK e k te tk pos p2 he hk
  exact ⟨@pe_rev X K hK e k te tk pos p2 he.out hk.out⟩
theorem bpe_comp1 : ∀ {X : L2.Cx} {scope : PySem.Scope} {N' own : List PySem.Str} {fr : List Nat} {elt target iter : PySem.Expr} {ifs : List PySem.Expr} {cpos : PySem.Pos} {wi : L2.TI} {g : L2.TG} {tt : L2.TT} {te : L2.TE}, L2.CompOk X scope N' own fr → X.calm = Bool.true → L2.Bx (L2.PI X target iter wi) → (∀ (cl : List (PySem.Str × PySem.Addr)) (C : PySem.Addr) (s : PySem.Shared) (H : L2.Hp) (fp : List PySem.Addr), L2.PG (L2.cxComp X scope N' own cl C s H fp) target g ∧ L2.PF (L2.cxComp X scope N' own cl C s H fp) ifs tt ∧ L2.PE (L2.cxComp X scope N' own cl C s H fp) elt te) → (∀ (x : PySem.Value), PySem.foldedSetIterable iter X.env x = Pure.pure x) → L2.Bx (L2.PE X (elt.ListComp [{ target := target, iter := iter, ifs := ifs, is_async := 0 }] scope cpos) (L2.tComp1 wi g tt te own fr)) := by
  intro X scope N' own fr elt target iter ifs cpos wi g tt te c hc hi hb hs
  exact ⟨@pe_comp1 X scope N' own fr elt target iter ifs cpos wi g tt te c hc hi.out hb hs⟩
theorem bpe_bmK : ∀ {X : L2.Cx} {K : PySem.W.Frag}, X.K = K → ∀ {T : String} {name : PySem.Str} {id : String} {r : L2.V → List L2.V → L2.Hp → L2.VK → Prop} {o e : PySem.Expr} {es : List PySem.Expr} {to : L2.TE} {t : L2.TA} {apos cpos : PySem.Pos}, PySem.PlainAttrs T → PySem.Slot T name id → PySem.typeOf (PySem.Value.builtin id) = Pure.pure (PySem.Value.type "method_descriptor") → L2.MtR X id r → L2.Bx (L2.PE X o to) → L2.Bx (L2.PA X (e :: es) t) → PySem.attributeBase o name X.env (PySem.eval o X.env) = PySem.eval o X.env → ((((PySem.backTo cpos (PySem.starEach (e :: es) X.env)).all fun (x : Bool × PySem.Sem PySem.Value) => !x.fst) && (PySem.backToKw cpos (PySem.keywordEach [] X.env)).all fun (x : Option PySem.Str × PySem.Sem PySem.Value) => x.fst.isSome) && Decidable.decide (((e :: es).length + ([] : List Keyword).length + if ([] : List Keyword).isEmpty = Bool.true then 0 else 1) < 30)) = Bool.true → (apos.endLine == cpos.line) = Bool.true → PySem.starEach (e :: es) X.env = (Bool.false, PySem.eval e X.env) :: PySem.starEach es X.env → ((PySem.backTo cpos (PySem.starEach es X.env)).any fun (x : Bool × PySem.Sem PySem.Value) => x.fst) = Bool.false → L2.Bx (L2.PE X ((o.Attribute name apos).Call (e :: es) [] cpos) (L2.tBM K T r to t)) := by
  intro X K hK T name id r o e es to t apos cpos pa slot hty hm ho ha hbase hfew hline hs hplain
  exact ⟨@pe_bmK X K hK T name id r o e es to t apos cpos pa slot hty hm ho.out ha.out hbase hfew hline hs hplain⟩
theorem bpe_and : ∀ {X : L2.Cx} {a b : PySem.Expr} {ta tb : L2.TE} {pos : PySem.Pos} {rest : List PySem.Expr}, L2.Bx (L2.PE X a ta) → L2.Bx (L2.PE X (PySem.Expr.BoolOp PySem.BoolOp.And (b :: rest) pos) tb) → L2.Bx (L2.PE X (PySem.Expr.BoolOp PySem.BoolOp.And (a :: b :: rest) pos) (L2.tAndV ta tb)) := by
  intro X a b ta tb pos rest ha hb
  exact ⟨@pe_and X a b ta tb pos rest ha.out hb.out⟩
theorem bpps_nil : ∀ {X : L2.Cx} {pos : PySem.Pos}, L2.Bx (L2.PPs X pos [] [] []) := by
  intro X pos
  exact ⟨@pps_nil X pos⟩
theorem bpps_cons : ∀ {X : L2.Cx} {pos : PySem.Pos} {k v : PySem.Expr} {ks : List (Option PySem.Expr)} {vs : List PySem.Expr} {tk tv : L2.TE} {trs : List (L2.TE × L2.TE)}, L2.Bx (L2.PE X k tk) → L2.Bx (L2.PE X v tv) → L2.Bx (L2.PPs X pos ks vs trs) → L2.Bx (L2.PPs X pos (Option.some k :: ks) (v :: vs) ((tk, tv) :: trs)) := by
  intro X pos k v ks vs tk tv trs hk hv hr
  exact ⟨@pps_cons X pos k v ks vs tk tv trs hk.out hv.out hr.out⟩
theorem bpi_seqK : ∀ {X : L2.Cx} {K : PySem.W.Frag}, X.K = K → ∀ {tg l : PySem.Expr} {tl : L2.TE}, L2.Bx (L2.PE X l tl) → L2.Bx (L2.PI X tg l (L2.iSeq K tl)) := by
  intro X K hK tg l tl hl
  exact ⟨@pi_seqK X K hK tg l tl hl.out⟩
theorem bpi_range1 : ∀ {X : L2.Cx} {tg a : PySem.Expr} {ta : L2.TA} {p pos : PySem.Pos}, L2.Gl X (PySem.Str.ofString "range") → X.mg (PySem.Str.ofString "range") = Option.none → L2.Bx (L2.PA X [a] ta) → PySem.starEach [a] X.env = [(Bool.false, PySem.eval a X.env)] → L2.Bx (L2.PI X tg ((PySem.Expr.Name (PySem.Str.ofString "range") p).Call [a] [] pos) (L2.iRng1 ta)) := by
  intro X tg a ta p pos hg hm ha hs
  exact ⟨@pi_range1 X tg a ta p pos hg hm ha.out hs⟩
theorem bpi_range2 : ∀ {X : L2.Cx} {tg a b : PySem.Expr} {ta : L2.TA} {p pos : PySem.Pos}, L2.Gl X (PySem.Str.ofString "range") → X.mg (PySem.Str.ofString "range") = Option.none → L2.Bx (L2.PA X [a, b] ta) → PySem.starEach [a, b] X.env = [(Bool.false, PySem.eval a X.env), (Bool.false, PySem.eval b X.env)] → PySem.starEach [b] X.env = [(Bool.false, PySem.eval b X.env)] → L2.Bx (L2.PI X tg ((PySem.Expr.Name (PySem.Str.ofString "range") p).Call [a, b] [] pos) (L2.iRng2 ta)) := by
  intro X tg a b ta p pos hg hm ha hs hs2
  exact ⟨@pi_range2 X tg a b ta p pos hg hm ha.out hs hs2⟩
theorem bpf_nil : ∀ {X : L2.Cx}, L2.Bx (L2.PF X [] L2.tAll) := by
  intro X
  exact ⟨@pf_nil X⟩
theorem bpe_non : ∀ {X : L2.Cx} {j : Nat} {pos : PySem.Pos}, L2.Bx (L2.PE X (PySem.Expr.Constant PySem.Const.none j pos) (L2.tC L2.V.non)) := by
  intro X j pos
  exact ⟨@pe_non X j pos⟩
theorem bpe_dnewK : ∀ {X : L2.Cx} {pos : PySem.Pos}, L2.Bx (L2.PE X (PySem.Expr.Dict [] [] pos) L2.tDNewK) := by
  intro X pos
  exact ⟨@pe_dnewK X pos⟩
theorem bpe_disp : ∀ {X : L2.Cx} {pos : PySem.Pos} {keys : List (Option PySem.Expr)} {values : List PySem.Expr} {trs : List (L2.TE × L2.TE)}, L2.Bx (L2.PPs X pos keys values trs) → (keys.all fun (x : Option PySem.Expr) => x.isSome) = Bool.true → keys.length = values.length → keys ≠ [] → keys.length ≤ 15 → L2.Bx (L2.PE X (PySem.Expr.Dict keys values pos) (L2.tDisp trs)) := by
  intro X pos keys values trs h hall hl h0 h15
  exact ⟨@pe_disp X pos keys values trs h.out hall hl h0 h15⟩
theorem bpf_one : ∀ {X : L2.Cx} {c : PySem.Expr} {t : L2.TT}, L2.Bx (L2.PT X c t) → L2.Bx (L2.PF X [c] t) := by
  intro X c t h
  exact ⟨@pf_one X c t h.out⟩
theorem bpe_dget : ∀ {X : L2.Cx} {o i : PySem.Expr} {pos : PySem.Pos} {td ty : L2.TE}, X.A.units + 1 < PySem.cLine → L2.Bx (L2.PE X o td) → L2.Bx (L2.PE X i ty) → L2.NoSl i → L2.Bx (L2.PE X (o.Subscript i pos) (L2.tDGet td ty)) := by
  intro X o i pos td ty hu ho hi hs
  exact ⟨@pe_dget X o i pos td ty hu ho.out hi.out hs⟩
theorem bpw_and1 : ∀ {X : L2.Cx} {a : PySem.Expr} {pos : PySem.Pos} {tA : L2.TT}, L2.Bx (L2.PT X a tA) → L2.Bx (L2.PW X (PySem.Expr.BoolOp PySem.BoolOp.And [a] pos) tA) := by
  intro X a pos tA ha
  exact ⟨@pw_and1 X a pos tA ha.out⟩
theorem bpw_and : ∀ {X : L2.Cx} {a b : PySem.Expr} {pos : PySem.Pos} {tA tB' : L2.TT} {rest : List PySem.Expr}, L2.Bx (L2.PT X a tA) → L2.Bx (L2.PW X (PySem.Expr.BoolOp PySem.BoolOp.And (b :: rest) pos) tB') → L2.Bx (L2.PW X (PySem.Expr.BoolOp PySem.BoolOp.And (a :: b :: rest) pos) (L2.tAnd tA tB')) := by
  intro X a b pos tA tB' rest ha hb
  exact ⟨@pw_and X a b pos tA tB' rest ha.out hb.out⟩
theorem bps_never : ∀ {X : L2.Cx} {st : PySem.Stmt}, L2.Bx (L2.PS X st L2.tNever) := by
  intro X st
  exact ⟨@ps_never X st⟩
theorem bps_dput : ∀ {X : L2.Cx} {o i value : PySem.Expr} {pos pos' : PySem.Pos} {td ty tv : L2.TE}, X.A.units + 1 < PySem.cLine → L2.Bx (L2.PE X o td) → L2.Bx (L2.PE X i ty) → L2.Bx (L2.PE X value tv) → PySem.swapsWith value (Option.some (o.Subscript i pos')) pos.line X.env = Pure.pure Bool.false → L2.Bx (L2.PS X (PySem.Stmt.Assign [o.Subscript i pos'] value pos) (L2.sDPut td ty tv)) := by
  intro X o i value pos pos' td ty tv hu ho hi hv hs
  exact ⟨@ps_dput X o i value pos pos' td ty tv hu ho.out hi.out hv.out hs⟩
theorem bps_comp1 : ∀ {X : L2.Cx} {scope : PySem.Scope} {N' own : List PySem.Str} {fr : List Nat} {elt target iter : PySem.Expr} {ifs : List PySem.Expr} {cpos : PySem.Pos} {wi : L2.TI} {g : L2.TG} {tt : L2.TT} {te : L2.TE} {spos py : PySem.Pos} {i : Nat} {y : PySem.Str}, L2.CompOk X scope N' own fr → X.calm = Bool.true → L2.Bx (L2.PI X target iter wi) → (∀ (cl : List (PySem.Str × PySem.Addr)) (C : PySem.Addr) (s : PySem.Shared) (H : L2.Hp) (fp : List PySem.Addr), L2.PG (L2.cxComp X scope N' own cl C s H fp) target g ∧ L2.PF (L2.cxComp X scope N' own cl C s H fp) ifs tt ∧ L2.PE (L2.cxComp X scope N' own cl C s H fp) elt te) → PySem.swapsWith (elt.ListComp [{ target := target, iter := iter, ifs := ifs, is_async := 0 }] scope cpos) (Option.some (PySem.Expr.Name y py)) spos.line X.env = Pure.pure Bool.true → X.N.Nodup → X.N[i]? = Option.some y → List.lookup y X.env.scope.names = Option.some PySem.NameKind.local → (∀ (x : PySem.Value), PySem.foldedSetIterable iter X.env x = Pure.pure x) → L2.Bx (L2.PS X (PySem.Stmt.Assign [PySem.Expr.Name y py] (elt.ListComp [{ target := target, iter := iter, ifs := ifs, is_async := 0 }] scope cpos) spos) (L2.tAsgC1 wi g tt te own fr i)) := by
  intro X scope N' own fr elt target iter ifs cpos wi g tt te spos py i y c hc hi hb hsw hN hy hl hs
  exact ⟨@ps_comp1 X scope N' own fr elt target iter ifs cpos wi g tt te spos py i y c hc hi.out hb hsw hN hy hl hs⟩
theorem bpi_enumK : ∀ {X : L2.Cx} {K : PySem.W.Frag}, X.K = K → ∀ {a : PySem.Expr} {ta : L2.TA} {p pos : PySem.Pos} {elts : List PySem.Expr} {x1 : Nat} {tpos : PySem.Pos}, L2.Gl X (PySem.Str.ofString "enumerate") → X.mg (PySem.Str.ofString "enumerate") = Option.none → L2.Bx (L2.PA X [a] ta) → PySem.starEach [a] X.env = [(Bool.false, PySem.eval a X.env)] → L2.Bx (L2.PI X (PySem.Expr.Tuple elts x1 tpos) ((PySem.Expr.Name (PySem.Str.ofString "enumerate") p).Call [a] [] pos) (L2.iEnum K ta)) := by
  intro X K hK a ta p pos elts x1 tpos hg hm ha hs
  exact ⟨@pi_enumK X K hK a ta p pos elts x1 tpos hg hm ha.out hs⟩
theorem bpgs_nil : ∀ {X : L2.Cx}, L2.Bx (L2.PGs X [] L2.gNil) := by
  intro X
  exact ⟨@pgs_nil X⟩
theorem bpgs_cons : ∀ {X : L2.Cx} {e : PySem.Expr} {es : List PySem.Expr} {t : L2.TG} {u : L2.TGs}, L2.Bx (L2.PG X e t) → L2.Bx (L2.PGs X es u) → List.map (fun (x : Bool × (PySem.Value → PySem.Sem Unit)) => x.snd) (PySem.assignEach (e :: es) X.env) = PySem.assign e X.env :: List.map (fun (x : Bool × (PySem.Value → PySem.Sem Unit)) => x.snd) (PySem.assignEach es X.env) → L2.Bx (L2.PGs X (e :: es) (L2.gCons t u)) := by
  intro X e es t u h1 h2 hs
  exact ⟨@pgs_cons X e es t u h1.out h2.out hs⟩
theorem bpg_tupK : ∀ {X : L2.Cx} {K : PySem.W.Frag}, X.K = K → ∀ {es : List PySem.Expr} {k : Nat} {t : L2.TGs} {n : Nat} {pos : PySem.Pos}, X.calm = Bool.true → L2.Bx (L2.PGs X es t) → (PySem.assignEach es X.env).length = n → List.findIdx? (fun (x : Bool × (PySem.Value → PySem.Sem Unit)) => x.fst) (PySem.assignEach es X.env) = Option.none → L2.Bx (L2.PG X (PySem.Expr.Tuple es k pos) (L2.gTup K n t)) := by
  intro X K hK es k t n pos hc h hn hst
  exact ⟨@pg_tupK X K hK es k t n pos hc h.out hn hst⟩
theorem bpe_un : ∀ {X : L2.Cx} {a : PySem.Expr} {ta : L2.TE} {pos : PySem.Pos} {op : PySem.UnaryOp} {r : L2.V → L2.Hp → L2.VK → Prop}, L2.UnR X (PySem.unaryOp op) r → L2.Bx (L2.PE X a ta) → L2.Bx (L2.PE X (PySem.Expr.UnaryOp op a pos) (L2.tUn r ta)) := by
  intro X a ta pos op r ho ha
  exact ⟨@pe_un X a ta pos op r ho ha.out⟩
theorem bpe_lenset : ∀ {X : L2.Cx} {e : PySem.Expr} {te : L2.TE} {p1 p2 pos1 pos2 : PySem.Pos}, X.calm = Bool.true → L2.Gl X (PySem.Str.ofString "len") → X.mg (PySem.Str.ofString "len") = Option.none → L2.Gl X (PySem.Str.ofString "set") → X.mg (PySem.Str.ofString "set") = Option.none → L2.Bx (L2.PE X e te) → PySem.starEach [e] X.env = (Bool.false, PySem.eval e X.env) :: PySem.starEach [] X.env → L2.Bx (L2.PE X ((PySem.Expr.Name (PySem.Str.ofString "len") p1).Call [(PySem.Expr.Name (PySem.Str.ofString "set") p2).Call [e] [] pos2] [] pos1) (L2.tLenSet te)) := by
  intro X e te p1 p2 pos1 pos2 hc hgl hml hgs hms he hs
  exact ⟨@pe_lenset X e te p1 p2 pos1 pos2 hc hgl hml hgs hms he.out hs⟩
theorem bpe_comp2 : ∀ {X : L2.Cx} {scope : PySem.Scope} {N' own : List PySem.Str} {fr : List Nat} {elt target iter target2 iter2 : PySem.Expr} {ifs ifs2 : List PySem.Expr} {cpos : PySem.Pos} {wi wi2 : L2.TI} {g g2 : L2.TG} {tt tt2 : L2.TT} {te : L2.TE}, L2.CompOk X scope N' own fr → X.calm = Bool.true → L2.Bx (L2.PI X target iter wi) → (∀ (cl : List (PySem.Str × PySem.Addr)) (C : PySem.Addr) (s : PySem.Shared) (H : L2.Hp) (fp : List PySem.Addr), L2.PG (L2.cxComp X scope N' own cl C s H fp) target g ∧ L2.PF (L2.cxComp X scope N' own cl C s H fp) ifs tt ∧ L2.PI (L2.cxComp X scope N' own cl C s H fp) target2 iter2 wi2 ∧ L2.PG (L2.cxComp X scope N' own cl C s H fp) target2 g2 ∧ L2.PF (L2.cxComp X scope N' own cl C s H fp) ifs2 tt2 ∧ L2.PE (L2.cxComp X scope N' own cl C s H fp) elt te) → (∀ (x : PySem.Value), PySem.foldedSetIterable iter X.env x = Pure.pure x) → (∀ (env : PySem.Env) (x : PySem.Value), PySem.foldedSetIterable iter2 env x = Pure.pure x) → L2.Bx (L2.PE X (elt.ListComp [{ target := target, iter := iter, ifs := ifs, is_async := 0 }, { target := target2, iter := iter2, ifs := ifs2, is_async := 0 }] scope cpos) (L2.tComp2 wi g tt wi2 g2 tt2 te own fr)) := by
  intro X scope N' own fr elt target iter target2 iter2 ifs ifs2 cpos wi wi2 g g2 tt tt2 te c hc hi hb hs hs2
  exact ⟨@pe_comp2 X scope N' own fr elt target iter target2 iter2 ifs ifs2 cpos wi wi2 g g2 tt tt2 te c hc hi.out hb hs hs2⟩
theorem bpc_dnotin : ∀ {X : L2.Cx} {o i : PySem.Expr} {td ty : L2.TE}, X.A.units + 1 < PySem.cLine → L2.Bx (L2.PE X i ty) → L2.Bx (L2.PE X o td) → L2.Bx (L2.PC X PySem.CmpOp.NotIn i o (L2.tDNotIn ty td)) := by
  intro X o i td ty hu hi ho
  exact ⟨@pc_dnotin X o i td ty hu hi.out ho.out⟩
theorem bpt_cmp : ∀ {X : L2.Cx} {a b : PySem.Expr} {pos : PySem.Pos} {op : PySem.CmpOp} {t : L2.TE}, L2.Bx (L2.PC X op a b t) → PySem.behindInMarks op b = Bool.false → L2.Bx (L2.PT X (a.Compare [op] [b] pos) (L2.tB t)) := by
  intro X a b pos op t h h1
  exact ⟨@pt_cmp X a b pos op t h.out h1⟩
-- pa_n7
-- pa_n8
-- pa_n9
-- pa_n10
-- pa_n11
-- pa_n12
theorem bv {X : Cx} (i : Nat) {x : Str} {pos : Pos} (hN : X.N[i]? = some x := by rfl) (hv : Vis X.env.scope x := by first | exact Or.inl rfl | exact Or.inr (Or.inl rfl) | exact Or.inr (Or.inr rfl)) (hd : (x == ("__debug__" : Str)) = false := by decide)
    (hcd : (x == ("__classdict__" : Str)) = false := by decide) : Bx (PE X (.Name x pos) (tVar i)) := ⟨pe_var hN hv hd hcd⟩
end L2

namespace Bc
open PySem L2
def F_law_is : SF := (sRet (eAnd (eIsi "bool" (eVar 0)) (eOp eqD (eVar 0) (eVar 1))))
def G_law_is : GF := fnD 2 F_law_is
end Bc

namespace Bc
open PySem L2
/-! ### k01: names and figures -/
theorem at_some {α : Type} {l : List α} {i : Int} (h0 : 0 ≤ i) (h1 : i < l.length) : ∃ x, atI l i = some x ∧ x ∈ l := by
  have hn : i.toNat < l.length := by omega
  refine ⟨l[i.toNat], ?_, List.getElem_mem _⟩
  have := atI_nat (xs := l) (j := i.toNat) (List.getElem?_eq_getElem hn)
  rw [show ((i.toNat : Nat) : Int) = i by omega] at this
  exact this
/-! the asked ones -/
theorem g_law_is (a b : Bool) : G_law_is [.bool a, .bool b] = some (.bool (a == b), false) := by cases a <;> cases b <;> rfl
end Bc

namespace Bc
open PySem L2
def F_are_unlike_of_k09 : SF := (sSeq (sIf (tNotF (tTru (eCB (anyD fun bs => bs.all id) (aCons (eComp ["thing"] [0] (iItems (eVar 1)) (gN 0) tAllF (eOp (inTD false) (eVar 0) (eVar 1))) aNil)))) (sRet (eC (.bool false))) sNil)
    (sRet (eOp eqD (eLenSet (eVar 1)) (eCB lenD (aCons (eVar 1) aNil)))))
def G_are_unlike_of_k09 : GF := fnD 2 F_are_unlike_of_k09
def F_is_road_k09 : SF := (sSeq (sExpr (eCall 2 G_check_kinds (aCons (eVar 0) (aCons (eLst (aCons (eVar 1) (aCons (eVar 2) aNil))) aNil))))
    (sSeq (sIf (tOrF (tNotF (tTru (eIsi "list" (eVar 3)))) (tNotF (tTru (eVar 3)))) (sRet (eC (.bool false))) sNil)
    (sSeq (sIf (tOrF (tBool (eOp (eqTD true) (eIxV 3 (eC (.int 0))) (eVar 1))) (tBool (eOp (eqTD true) (eIxV 3 (eNeg (eC (.int 1)))) (eVar 2)))) (sRet (eC (.bool false))) sNil)
    (sSeq (sSet 4 (eCB dictD (aCons (eVar 0) aNil)))
    (sSeq (sFor (iRange2 (aCons (eC (.int 1)) (aCons (eCB lenD (aCons (eVar 3) aNil)) aNil))) (gN 5)
    (sIf (tBool (eOp (inTD true) (eIxV 3 (eVar 5)) (eDGetV 4 (eIxV 3 (eOp subD (eVar 5) (eC (.int 1))))))) (sRet (eC (.bool false))) sNil))
    (sRet (eC (.bool true))))))))
def G_is_road_k09 : GF := fnD 6 F_is_road_k09
def F_is_hedge_k09 : SF := (sSeq (sExpr (eCall 2 G_check_kinds (aCons (eVar 0) (aCons (eLst (aCons (eVar 1) (aCons (eVar 2) aNil))) aNil))))
    (sSeq (sIf (tOrF (tNotF (tTru (eIsi "list" (eVar 3)))) (tNotF (tTru (eCall 2 G_are_unlike_of_k09 (aCons (eCall 1 G_names_of (aCons (eVar 0) aNil)) (aCons (eVar 3) aNil)))))) (sRet (eC (.bool false))) sNil)
    (sSeq (sIf (tOrF (tBool (eOp (inTD true) (eVar 1) (eVar 3))) (tBool (eOp (inTD false) (eVar 2) (eVar 3)))) (sRet (eC (.bool false))) sNil)
    (sSeq (sSet 4 (eCB dictD (aCons (eVar 0) aNil)))
    (sRet (eCB (anyD fun bs => bs.all id) (aCons (eComp2 ["name", "elder"] [3, 4] (iItems (eVar 3)) (gN 0) tAllF (iItems (eDGetV 3 (eVar 0))) (gN 1) tAllF (eOp (inTD false) (eVar 1) (eVar 2))) aNil)))))))
def G_is_hedge_k09 : GF := fnD 5 F_is_hedge_k09
def F_law_way : SF := (sSeq (sSet 3 (eLst (aCons (eVar 1) aNil)))
    (sSeq (sSet 4 (eOp fdivD (eVar 2) (eC (.int 10))))
    (sSeq (sFor (iRange1 (aCons (eOp modD (eVar 2) (eC (.int 10))) aNil)) (gN 5)
    (sSeq (sSet 6 (eDGetV 0 (eIxV 3 (eNeg (eC (.int 1))))))
    (sIf (tBool (eOp gtD (eCB lenD (aCons (eVar 6) aNil)) (eC (.int 0)))) (sSeq (sApp 3 (eIxV 6 (eOp modD (eVar 4) (eCB lenD (aCons (eVar 6) aNil)))))
    (sSet 4 (eOp fdivD (eVar 4) (eCB lenD (aCons (eVar 6) aNil))))) sNil)))
    (sRetV 3))))
def G_law_way : GF := fnD 7 F_law_way
def F_law_spoilt : SF := (sSeq (sSet 4 (eOp modD (eVar 2) (eOp addD (eCB lenD (aCons (eVar 0) aNil)) (eC (.int 1)))))
    (sSeq (sSet 5 (eOp ixD (eLst (aCons (eC .none) (aCons (eC (.int 0)) (aCons (eC (.str "")) (aCons (eLst (aCons (eVar 3) aNil)) (aCons (eTup (aCons (eVar 3) aNil)) (aCons (eOp addD (eVar 3) (eVar 3)) (aCons eDNew (aCons (eC (.bool true)) aNil))))))))) (eOp modD (eOp fdivD (eVar 2) (eC (.int 11))) (eC (.int 8)))))
    (sSeq (sIf (tBool (eOp eqD (eVar 1) (eC (.int 1)))) (sRet (eOp addD (eSl (eVar 0) pNone (pSome (eVar 4))) (eSl (eVar 0) (pSome (eOp addD (eVar 4) (eC (.int 1)))) pNone))) sNil)
    (sSeq (sIf (tBool (eOp eqD (eVar 1) (eC (.int 2)))) (sRet (eOp addD (eOp addD (eSl (eVar 0) pNone (pSome (eVar 4))) (eLst (aCons (eVar 3) aNil))) (eSl (eVar 0) (pSome (eVar 4)) pNone))) sNil)
    (sSeq (sIf (tBool (eOp eqD (eVar 1) (eC (.int 3)))) (sRet (eOp addD (eOp addD (eSl (eVar 0) pNone (pSome (eVar 4))) (eLst (aCons (eVar 3) aNil))) (eSl (eVar 0) (pSome (eOp addD (eVar 4) (eC (.int 1)))) pNone))) sNil)
    (sSeq (sIf (tBool (eOp eqD (eVar 1) (eC (.int 4)))) (sRet (eOp addD (eSl (eVar 0) (pSome (eVar 4)) pNone) (eSl (eVar 0) pNone (pSome (eVar 4))))) sNil)
    (sSeq (sIf (tBool (eOp eqD (eVar 1) (eC (.int 5)))) (sRet (eRev (eVar 0) (pSome (eNeg (eC (.int 1)))))) sNil)
    (sSeq (sIf (tBool (eOp eqD (eVar 1) (eC (.int 6)))) (sRet (eOp addD (eVar 0) (eSl (eVar 0) (pSome (eVar 4)) pNone))) sNil)
    (sSeq (sIf (tBool (eOp eqD (eVar 1) (eC (.int 7)))) (sRet (eCB tupleD (aCons (eVar 0) aNil))) sNil)
    (sSeq (sIf (tBool (eOp eqD (eVar 1) (eC (.int 8)))) (sRet (eOp addD (eOp addD (eSl (eVar 0) pNone (pSome (eVar 4))) (eLst (aCons (eVar 5) aNil))) (eSl (eVar 0) (pSome (eOp addD (eVar 4) (eC (.int 1)))) pNone))) sNil)
    (sSeq (sIf (tBool (eOp eqD (eVar 1) (eC (.int 9)))) (sRet (eOp ixD (eLst (aCons (eVar 5) (aCons (eLst aNil) (aCons (eC .none) (aCons (eVar 3) (aCons (eD1 (eVar 3) (eVar 3)) aNil)))))) (eOp modD (eVar 2) (eC (.int 5))))) sNil)
    (sRet (eCB listD (aCons (eVar 0) aNil))))))))))))))
def G_law_spoilt : GF := fnD 6 F_law_spoilt
def F_law_is_road : SF := (sSeq (sIf (tOrF (tNotF (tTru (eIsi "list" (eVar 3)))) (tOrF (tBool (eOp eqD (eCB lenD (aCons (eVar 3) aNil)) (eC (.int 0)))) (tBool (eOp (eqTD true) (eIxV 3 (eC (.int 0))) (eVar 1))))) (sRet (eC (.bool false))) sNil)
    (sSeq (sSet 4 (eVar 1))
    (sSeq (sFor (iItems (eSl (eVar 3) (pSome (eC (.int 1))) pNone)) (gN 5)
    (sSeq (sIf (tBool (eOp (inTD true) (eVar 5) (eDGetV 0 (eVar 4)))) (sRet (eC (.bool false))) sNil)
    (sSet 4 (eVar 5))))
    (sRet (eOp (eqTD false) (eVar 4) (eVar 2))))))
def G_law_is_road : GF := fnD 6 F_law_is_road
def F_law_is_hedge : SF := (sSeq (sIf (tOrF (tNotF (tTru (eIsi "list" (eVar 3)))) (tOrF (tBool (eOp (inTD true) (eVar 1) (eVar 3))) (tBool (eOp (inTD false) (eVar 2) (eVar 3))))) (sRet (eC (.bool false))) sNil)
    (sSeq (sFor (iEnumF (aCons (eVar 3) aNil)) (gT 2 (gsCons 4 (gsCons 5 gsNil)))
    (sSeq (sIf (tOrF (tNotF (tTru (eIsi "str" (eVar 5)))) (tOrF (tBool (eDIn true (eVar 5) (eVar 0))) (tBool (eOp (inTD false) (eVar 5) (eSl (eVar 3) pNone (pSome (eVar 4))))))) (sRet (eC (.bool false))) sNil)
    (sFor (iItems (eDGetV 0 (eVar 5))) (gN 6)
    (sIf (tBool (eOp (inTD true) (eVar 6) (eVar 3))) (sRet (eC (.bool false))) sNil))))
    (sRet (eC (.bool true)))))
def G_law_is_hedge : GF := fnD 7 F_law_is_hedge
end Bc

namespace Bc
open PySem L2

theorem boot_all : bootBuiltins "all" = some (.builtin "all") := by decide +kernel
theorem boot_bool : bootBuiltins "bool" = some (.type "bool") := by decide +kernel
theorem boot_dict : bootBuiltins "dict" = some (.type "dict") := by decide +kernel
theorem boot_isinstance : bootBuiltins "isinstance" = some (.builtin "isinstance") := by decide +kernel
theorem boot_len : bootBuiltins "len" = some (.builtin "len") := by decide +kernel
theorem boot_list : bootBuiltins "list" = some (.type "list") := by decide +kernel
theorem boot_min : bootBuiltins "min" = some (.builtin "min") := by decide +kernel
theorem boot_set : bootBuiltins "set" = some (.type "set") := by decide +kernel
theorem boot_str : bootBuiltins "str" = some (.type "str") := by decide +kernel
theorem boot_tuple : bootBuiltins "tuple" = some (.type "tuple") := by decide +kernel
def top (i : Nat) : Stmt := PySem.Challenge.pw_bestcalls_k09_roads_and_hedges_looked_at.main.body.getD i (.Pass ⟨0, 0, 0, 0⟩)
structure Txt (mg : Str → Option Value) : Prop where
  all : mg "all" = none
  bool : mg "bool" = none
  dict : mg "dict" = none
  enumerate : mg "enumerate" = none
  isinstance : mg "isinstance" = none
  len : mg "len" = none
  list : mg "list" = none
  min : mg "min" = none
  range : mg "range" = none
  set : mg "set" = none
  str : mg "str" = none
  tuple : mg "tuple" = none
abbrev s_are_unlike_of : Stmt := top 4
theorem nd_are_unlike_of : (["known", "things"] : List Str).Nodup := by decide +kernel
theorem sc_are_unlike_of : FnScope ["known", "things"] ["known", "things"] (defScope s_are_unlike_of) := ⟨rfl, rfl, rfl, nd_are_unlike_of, rfl, by decide +kernel, by decide +kernel⟩
abbrev s_names_of : Stmt := top 5
theorem nd_names_of : (["web"] : List Str).Nodup := by decide +kernel
theorem sc_names_of : FnScope ["web"] ["web"] (defScope s_names_of) := ⟨rfl, rfl, rfl, nd_names_of, rfl, by decide +kernel, by decide +kernel⟩
abbrev s_check_kinds : Stmt := top 6
theorem nd_check_kinds : (["web", "names", "known", "name"] : List Str).Nodup := by decide +kernel
theorem sc_check_kinds : FnScope ["web", "names", "known", "name"] ["web", "names"] (defScope s_check_kinds) := ⟨rfl, rfl, rfl, nd_check_kinds, rfl, by decide +kernel, by decide +kernel⟩
abbrev s_is_road : Stmt := top 8
theorem nd_is_road : (["web", "kind", "other", "thing", "elders", "number"] : List Str).Nodup := by decide +kernel
theorem sc_is_road : FnScope ["web", "kind", "other", "thing", "elders", "number"] ["web", "kind", "other", "thing"] (defScope s_is_road) := ⟨rfl, rfl, rfl, nd_is_road, rfl, by decide +kernel, by decide +kernel⟩
abbrev s_is_hedge : Stmt := top 9
theorem nd_is_hedge : (["web", "kind", "other", "thing", "elders"] : List Str).Nodup := by decide +kernel
theorem sc_is_hedge : FnScope ["web", "kind", "other", "thing", "elders"] ["web", "kind", "other", "thing"] (defScope s_is_hedge) := ⟨rfl, rfl, rfl, nd_is_hedge, rfl, by decide +kernel, by decide +kernel⟩
abbrev s_law_draws : Stmt := top 11
theorem nd_law_draws : (["_law_script", "_law_many", "_law_seed", "_law_cell", "_law_found", "_law_k"] : List Str).Nodup := by decide +kernel
theorem sc_law_draws : FnScope ["_law_script", "_law_many", "_law_seed", "_law_cell", "_law_found", "_law_k"] ["_law_script", "_law_many"] (defScope s_law_draws) := ⟨rfl, rfl, rfl, nd_law_draws, rfl, by decide +kernel, by decide +kernel⟩
abbrev s_law_names : Stmt := top 12
theorem nd_law_names : (["_law_many", "_law_cell", "_law_letters", "_law_step", "_law_origin", "_law_stem", "_law_at", "_law_names_here", "_law_k", "_law_sign"] : List Str).Nodup := by decide +kernel
theorem sc_law_names : FnScope ["_law_many", "_law_cell", "_law_letters", "_law_step", "_law_origin", "_law_stem", "_law_at", "_law_names_here", "_law_k", "_law_sign"] ["_law_many", "_law_cell"] (defScope s_law_names) := ⟨rfl, rfl, rfl, nd_law_names, rfl, by decide +kernel, by decide +kernel⟩
abbrev s_law_web : Stmt := top 13
theorem nd_law_web : (["_law_cells", "_law_names_here", "_law_web_here", "_law_k", "_law_name", "_law_left", "_law_rest", "_law_elders", "_law_turn", "_law_at"] : List Str).Nodup := by decide +kernel
theorem sc_law_web : FnScope ["_law_cells", "_law_names_here", "_law_web_here", "_law_k", "_law_name", "_law_left", "_law_rest", "_law_elders", "_law_turn", "_law_at"] ["_law_cells", "_law_names_here"] (defScope s_law_web) := ⟨rfl, rfl, rfl, nd_law_web, rfl, by decide +kernel, by decide +kernel⟩
abbrev s_law_up : Stmt := top 14
theorem nd_law_up : (["_law_web_here", "_law_up_here", "_law_name", "_law_elders", "_law_own", "_law_elder", "_law_one"] : List Str).Nodup := by decide +kernel
theorem sc_law_up : FnScope ["_law_web_here", "_law_up_here", "_law_name", "_law_elders", "_law_own", "_law_elder", "_law_one"] ["_law_web_here"] (defScope s_law_up) := ⟨rfl, rfl, rfl, nd_law_up, rfl, by decide +kernel, by decide +kernel⟩
abbrev s_law_way : Stmt := top 15
theorem nd_law_way : (["_law_elders_by", "_law_name", "_law_cell", "_law_way_here", "_law_rest", "_law_turn", "_law_elders"] : List Str).Nodup := by decide +kernel
theorem sc_law_way : FnScope ["_law_elders_by", "_law_name", "_law_cell", "_law_way_here", "_law_rest", "_law_turn", "_law_elders"] ["_law_elders_by", "_law_name", "_law_cell"] (defScope s_law_way) := ⟨rfl, rfl, rfl, nd_law_way, rfl, by decide +kernel, by decide +kernel⟩
abbrev s_law_spoilt : Stmt := top 16
theorem nd_law_spoilt : (["_law_row", "_law_choice", "_law_cell", "_law_name", "_law_at", "_law_odd"] : List Str).Nodup := by decide +kernel
theorem sc_law_spoilt : FnScope ["_law_row", "_law_choice", "_law_cell", "_law_name", "_law_at", "_law_odd"] ["_law_row", "_law_choice", "_law_cell", "_law_name"] (defScope s_law_spoilt) := ⟨rfl, rfl, rfl, nd_law_spoilt, rfl, by decide +kernel, by decide +kernel⟩
abbrev s_law_is_road : Stmt := top 17
theorem nd_law_is_road : (["_law_elders_by", "_law_kind", "_law_other", "_law_thing", "_law_last", "_law_name"] : List Str).Nodup := by decide +kernel
theorem sc_law_is_road : FnScope ["_law_elders_by", "_law_kind", "_law_other", "_law_thing", "_law_last", "_law_name"] ["_law_elders_by", "_law_kind", "_law_other", "_law_thing"] (defScope s_law_is_road) := ⟨rfl, rfl, rfl, nd_law_is_road, rfl, by decide +kernel, by decide +kernel⟩
abbrev s_law_is_hedge : Stmt := top 18
theorem nd_law_is_hedge : (["_law_elders_by", "_law_kind", "_law_other", "_law_thing", "_law_k", "_law_name", "_law_elder"] : List Str).Nodup := by decide +kernel
theorem sc_law_is_hedge : FnScope ["_law_elders_by", "_law_kind", "_law_other", "_law_thing", "_law_k", "_law_name", "_law_elder"] ["_law_elders_by", "_law_kind", "_law_other", "_law_thing"] (defScope s_law_is_hedge) := ⟨rfl, rfl, rfl, nd_law_is_hedge, rfl, by decide +kernel, by decide +kernel⟩
abbrev s_law_is : Stmt := top 19
theorem nd_law_is : (["_law_found", "_law_due"] : List Str).Nodup := by decide +kernel
theorem sc_law_is : FnScope ["_law_found", "_law_due"] ["_law_found", "_law_due"] (defScope s_law_is) := ⟨rfl, rfl, rfl, nd_law_is, rfl, by decide +kernel, by decide +kernel⟩
abbrev s_law : Stmt := top 20
theorem nd_law : (["_law_script", "_law_cells", "_law_names_here", "_law_web_here", "_law_elders_by", "_law_name", "_law_elders", "_law_up_here", "_law_one", "_law_way_here", "_law_kind", "_law_other", "_law_thing", "_law_due", "_law_low", "_law_high", "_law_under", "_law_shut", "_law_row", "_law_shuts"] : List Str).Nodup := by decide +kernel
theorem sc_law : FnScope ["_law_script", "_law_cells", "_law_names_here", "_law_web_here", "_law_elders_by", "_law_name", "_law_elders", "_law_up_here", "_law_one", "_law_way_here", "_law_kind", "_law_other", "_law_thing", "_law_due", "_law_low", "_law_high", "_law_under", "_law_shut", "_law_row", "_law_shuts"] ["_law_script"] (defScope s_law) := ⟨rfl, rfl, rfl, nd_law, rfl, by decide +kernel, by decide +kernel⟩
theorem nd_are_unlike_of_c1 : (["thing", "known"] : List Str).Nodup := by decide +kernel
theorem nd_names_of_c1 : (["name", "elders"] : List Str).Nodup := by decide +kernel
theorem nd_is_hedge_c1 : (["name", "elder", "thing", "elders"] : List Str).Nodup := by decide +kernel
theorem nd_law_c1 : (["_law_name", "_law_cells", "_law_up_here", "_law_low", "_law_under"] : List Str).Nodup := by decide +kernel
section
variable {P : Program} {w : World} {K : PySem.W.Frag} {mg : Str → Option Value} {base : Heap}
theorem ok_are_unlike_of {f : Addr} {fd : FuncData} (F : Fun K "are_unlike_of" "are_unlike_of" s_are_unlike_of f fd) (T : Txt mg)  : FnOk P w K mg base CX0 1 f fd ["known", "things"] (spD 2 G_are_unlike_of_k09) := by
  refine F.ok sc_are_unlike_of (fun vs H Q E h => spD_len h) (fun cdv A outer s H vs Q E hr h => ?_)
  have hu := hu_of hr
  apply Exists.intro
  apply And.intro
  · refine' Bx.out (bpss_cons (bps_if (bpt_not (bpt_truthK (K := K) rfl (bpe_callB (call_allK (K := K) rfl rfl) (by rfl) T.all boot_all (bpa_consF (bpe_comp1 (compOk_of (N' := ["thing", "known"]) (own := ["thing"]) (fr := [0]) (by kernel_rfl)) rfl (bpi_seqK (K := K) rfl (bv 1)) ?hb1 (by intro _; rfl)) bpa_nil (by rfl)) (by decide) (by decide) (star_each (by rfl)) (by rfl)) (fun _ => rfl))) (bpss_one (bps_ret bpe_bl)) bpss_nil)
  (bpss_one (bps_ret (bpe_cmpR (op_eqA (K := K) rfl hr.units) (bpe_lenset rfl (by rfl) T.len (by rfl) T.set (bv 1) (star_each (by rfl))) (bpe_callB (call_lenK (K := K) rfl) (by rfl) T.len boot_len (bpa_consF (bv 1) bpa_nil (by rfl)) (by decide) (by decide) (star_each (by rfl)) (by rfl)) (nomark _)))))
    case hb1 => (intro cl C s H fp; refine' ⟨Bx.out (bpg_name (i := 0) nd_are_unlike_of_c1 rfl (Or.inl rfl) (by first | exact .inl rfl | exact .inr rfl | assumption)), Bx.out bpf_nil, Bx.out (bpe_cmpR (op_inTx (K := K) rfl hr.units) (bv 0) (bv 1) (by rfl))⟩)
  exact fn_d (f := F_are_unlike_of_k09) ((ss_seq (ss_if (st_not (st_tru (se_cb sc_any (sa_cons (se_comp (si_seq (se_var 1)) sg_name (gx_name (by decide)) st_all (se_op so_inTx (se_var 0) (se_var 1))) sa_nil)))) (ss_ret (se_c fun _ => rp_mk_bool)) ss_nil) (ss_ret (se_op so_eq (se_lenset (se_var 1)) (se_cb sc_len (sa_cons (se_var 1) sa_nil)))))) h
theorem ok_names_of {f : Addr} {fd : FuncData} (F : Fun K "names_of" "names_of" s_names_of f fd) (T : Txt mg)  : FnOk P w K mg base CX0 1 f fd ["web"] (spD 1 G_names_of) := by
  refine F.ok sc_names_of (fun vs H Q E h => spD_len h) (fun cdv A outer s H vs Q E hr h => ?_)
  have hu := hu_of hr
  apply Exists.intro
  apply And.intro
  · refine' Bx.out (bpss_one (bps_ret (bpe_comp1 (compOk_of (N' := ["name", "elders"]) (own := ["name", "elders"]) (fr := []) (by kernel_rfl)) rfl (bpi_seqK (K := K) rfl (bv 0)) ?hb1 (by intro _; rfl))))
    case hb1 => (intro cl C s H fp; refine' ⟨Bx.out (bpg_tupK (K := K) (n := 2) rfl rfl (bpgs_cons (bpg_name (i := 0) nd_names_of_c1 rfl (Or.inl rfl) (by first | exact .inl rfl | exact .inr rfl | assumption)) (bpgs_cons (bpg_name (i := 1) nd_names_of_c1 rfl (Or.inl rfl) (by first | exact .inl rfl | exact .inr rfl | assumption)) bpgs_nil (by rfl)) (by rfl)) (by rfl) (by rfl)), Bx.out bpf_nil, Bx.out (bv 0)⟩)
  exact fn_d (f := F_names_of) ((ss_ret (se_comp (si_seq (se_var 0)) (sg_tup (sgs_cons (sgs_cons sgs_nil))) (gx_tup (gxs_cons (by decide) (gxs_cons (by decide) gxs_nil))) st_all (se_var 0)))) h
theorem ok_check_kinds {f : Addr} {fd : FuncData} (F : Fun K "check_kinds" "check_kinds" s_check_kinds f fd) (T : Txt mg) (D_names_of : Dn P w K mg base "names_of" ["web"] 1 (spD 1 G_names_of)) : FnOk P w K mg base CX0 2 f fd ["web", "names"] (spD 2 G_check_kinds) := by
  refine F.ok sc_check_kinds (fun vs H Q E h => spD_len h) (fun cdv A outer s H vs Q E hr h => ?_)
  have hu := hu_of hr
  apply Exists.intro
  apply And.intro
  · refine' Bx.out (bpss_cons (bps_set (i := 2) nd_check_kinds rfl (Or.inl rfl) (bpe_dn D_names_of (hr.mono (by decide)) (by rfl) (bpa_consF (bv 0) bpa_nil (by rfl)) (by decide) (star_each (by rfl)) (by rfl)) (by rfl) (by first | exact .inl rfl | exact .inr rfl | assumption))
  (bpss_one (bps_for PassesOwn.never rfl (bpi_seqK (K := K) rfl (bv 1)) (bpg_name (i := 3) nd_check_kinds rfl (Or.inl rfl) (by first | exact .inl rfl | exact .inr rfl | assumption))
   (bpss_one (bps_if (bpt_cmpR (op_notInK (K := K) rfl) (bv 3) (bv 2) (by rfl)) (bpss_one bps_never) bpss_nil)) (by intro _; rfl))))
  exact fn_d (f := F_check_kinds) ((ss_seq (ss_set (se_call (sa_cons (se_var 0) sa_nil))) (ss_for (si_seq (se_var 1)) sg_name (ss_if (st_t (se_op so_in (se_var 3) (se_var 2))) ss_never ss_nil)))) h
theorem ok_is_road {f : Addr} {fd : FuncData} (F : Fun K "is_road" "is_road" s_is_road f fd) (T : Txt mg) (D_check_kinds : Dn P w K mg base "check_kinds" ["web", "names"] 2 (spD 2 G_check_kinds)) : FnOk P w K mg base CX0 3 f fd ["web", "kind", "other", "thing"] (spD 4 G_is_road_k09) := by
  refine F.ok sc_is_road (fun vs H Q E h => spD_len h) (fun cdv A outer s H vs Q E hr h => ?_)
  have hu := hu_of hr
  apply Exists.intro
  apply And.intro
  · refine' Bx.out (bpss_cons (bps_expr (bpe_dn D_check_kinds (hr.mono (by decide)) (by rfl) (bpa_consF (bv 0) (bpa_consF (bpe_lst (bpa_consF (bv 1) (bpa_consF (bv 2) bpa_nil (by rfl)) (by rfl))) bpa_nil (by rfl)) (by rfl)) (by decide) (star_each (by rfl)) (by rfl)) (by rfl))
  (bpss_cons (bps_if (bpw_or (bpt_not (bpt_truthK (K := K) rfl (bpe_callB (call_isiK (K := K) rfl) (by rfl) T.isinstance boot_isinstance (bpa_consF (bv 3) (bpa_consF (bpe_bltn (v := .ty "list") (by rfl) T.list boot_list rfl (by decide) (by decide)) bpa_nil (by rfl)) (by rfl)) (by decide) (by decide) (star_each (by rfl)) (by rfl)) (fun _ => rfl))) (bpw_or1 (bpt_not (bpt_truthK (K := K) rfl (bv 3) (fun _ => rfl))))).pt (bpss_one (bps_ret bpe_bl)) bpss_nil)
  (bpss_cons (bps_if (bpw_or (bpt_cmpR (op_neT (K := K) rfl hr.units) (bpe_ix (ix_UK (K := K) rfl) (bv 3) bpe_int (fun _ _ => rfl)) (bv 1) (nomark _)) (bpw_or1 (bpt_cmpR (op_neT (K := K) rfl hr.units) (bpe_ix (ix_UK (K := K) rfl) (bv 3) (bpe_un un_neg bpe_int) (fun _ _ => rfl)) (bv 2) (nomark _)))).pt (bpss_one (bps_ret bpe_bl)) bpss_nil)
  (bpss_cons (bps_set (i := 4) nd_is_road rfl (Or.inl rfl) (bpe_callTy (call_dictL rfl) (by rfl) T.dict boot_dict (bpa_consF (bv 0) bpa_nil (by rfl)) (by decide) (by decide) (star_each (by rfl)) (by rfl)) (by rfl) (by first | exact .inl rfl | exact .inr rfl | assumption))
  (bpss_cons (bps_for PassesOwn.never rfl (bpi_range2 rfl T.range (bpa_consF bpe_int (bpa_consF (bpe_callB (call_lenK (K := K) rfl) (by rfl) T.len boot_len (bpa_consF (bv 3) bpa_nil (by rfl)) (by decide) (by decide) (star_each (by rfl)) (by rfl)) bpa_nil (by rfl)) (by rfl)) (by rfl) (by rfl)) (bpg_name (i := 5) nd_is_road rfl (Or.inl rfl) (by first | exact .inl rfl | exact .inr rfl | assumption))
   (bpss_one (bps_if (bpt_cmpR (op_notInTx (K := K) rfl hr.units) (bpe_ix (ix_UK (K := K) rfl) (bv 3) (bv 5) (fun _ _ => rfl)) (bpe_dget hu (bv 4) (bpe_ix (ix_UK (K := K) rfl) (bv 3) (bpe_op op_sub (bv 5) bpe_int) (fun _ _ => rfl)) (fun _ _ => rfl)) (by rfl)) (bpss_one (bps_ret bpe_bl)) bpss_nil)) (by intro _; rfl))
  (bpss_one (bps_ret bpe_bl)))))))
  exact fn_d (f := F_is_road_k09) ((ss_seq (ss_expr (se_call (sa_cons (se_var 0) (sa_cons (se_lst (sa_cons (se_var 1) (sa_cons (se_var 2) sa_nil))) sa_nil)))) (ss_seq (ss_if (st_or (st_not (st_tru (se_isi (se_var 3) kit_list))) (st_not (st_tru (se_var 3)))) (ss_ret (se_c fun _ => rp_mk_bool)) ss_nil) (ss_seq (ss_if (st_or (st_t (se_op so_eqT (se_ixv (se_c fun _ => rp_mk_int)) (se_var 1))) (st_t (se_op so_eqT (se_ixv (se_neg (se_c fun _ => rp_mk_int))) (se_var 2)))) (ss_ret (se_c fun _ => rp_mk_bool)) ss_nil) (ss_seq (ss_set (se_cb sc_dict (sa_cons (se_var 0) sa_nil))) (ss_seq (ss_for (si_range2 (sa_cons (se_c fun _ => rp_mk_int) (sa_cons (se_cb sc_len (sa_cons (se_var 3) sa_nil)) sa_nil))) sg_name (ss_if (st_t (se_op so_inTx (se_ixv (se_var 5)) (se_dgetv (se_ixv (se_op so_sub (se_var 5) (se_c fun _ => rp_mk_int)))))) (ss_ret (se_c fun _ => rp_mk_bool)) ss_nil)) (ss_ret (se_c fun _ => rp_mk_bool)))))))) h
theorem ok_is_hedge {f : Addr} {fd : FuncData} (F : Fun K "is_hedge" "is_hedge" s_is_hedge f fd) (T : Txt mg) (D_are_unlike_of : Dn P w K mg base "are_unlike_of" ["known", "things"] 1 (spD 2 G_are_unlike_of_k09)) (D_check_kinds : Dn P w K mg base "check_kinds" ["web", "names"] 2 (spD 2 G_check_kinds)) (D_names_of : Dn P w K mg base "names_of" ["web"] 1 (spD 1 G_names_of)) : FnOk P w K mg base CX0 3 f fd ["web", "kind", "other", "thing"] (spD 4 G_is_hedge_k09) := by
  refine F.ok sc_is_hedge (fun vs H Q E h => spD_len h) (fun cdv A outer s H vs Q E hr h => ?_)
  have hu := hu_of hr
  apply Exists.intro
  apply And.intro
  · refine' Bx.out (bpss_cons (bps_expr (bpe_dn D_check_kinds (hr.mono (by decide)) (by rfl) (bpa_consF (bv 0) (bpa_consF (bpe_lst (bpa_consF (bv 1) (bpa_consF (bv 2) bpa_nil (by rfl)) (by rfl))) bpa_nil (by rfl)) (by rfl)) (by decide) (star_each (by rfl)) (by rfl)) (by rfl))
  (bpss_cons (bps_if (bpw_or (bpt_not (bpt_truthK (K := K) rfl (bpe_callB (call_isiK (K := K) rfl) (by rfl) T.isinstance boot_isinstance (bpa_consF (bv 3) (bpa_consF (bpe_bltn (v := .ty "list") (by rfl) T.list boot_list rfl (by decide) (by decide)) bpa_nil (by rfl)) (by rfl)) (by decide) (by decide) (star_each (by rfl)) (by rfl)) (fun _ => rfl))) (bpw_or1 (bpt_not (bpt_truthK (K := K) rfl (bpe_dn D_are_unlike_of (hr.mono (by decide)) (by rfl) (bpa_consF (bpe_dn D_names_of (hr.mono (by decide)) (by rfl) (bpa_consF (bv 0) bpa_nil (by rfl)) (by decide) (star_each (by rfl)) (by rfl)) (bpa_consF (bv 3) bpa_nil (by rfl)) (by rfl)) (by decide) (star_each (by rfl)) (by rfl)) (fun _ => rfl))))).pt (bpss_one (bps_ret bpe_bl)) bpss_nil)
  (bpss_cons (bps_if (bpw_or (bpt_cmpR (op_notInTx (K := K) rfl hr.units) (bv 1) (bv 3) (by rfl)) (bpw_or1 (bpt_cmpR (op_inTx (K := K) rfl hr.units) (bv 2) (bv 3) (by rfl)))).pt (bpss_one (bps_ret bpe_bl)) bpss_nil)
  (bpss_cons (bps_set (i := 4) nd_is_hedge rfl (Or.inr rfl) (bpe_callTy (call_dictL rfl) (by rfl) T.dict boot_dict (bpa_consF (bv 0) bpa_nil (by rfl)) (by decide) (by decide) (star_each (by rfl)) (by rfl)) (by rfl) (by first | exact .inl rfl | exact .inr rfl | assumption))
  (bpss_one (bps_ret (bpe_callB (call_allK (K := K) rfl rfl) (by rfl) T.all boot_all (bpa_consF (bpe_comp2 (compOk_of (N' := ["name", "elder", "thing", "elders"]) (own := ["name", "elder"]) (fr := [3, 4]) (by kernel_rfl)) rfl (bpi_seqK (K := K) rfl (bv 3)) ?hb1 (by intro _; rfl) (by intro _ _; rfl)) bpa_nil (by rfl)) (by decide) (by decide) (star_each (by rfl)) (by rfl))))))))
    case hb1 => (intro cl C s H fp; refine' ⟨Bx.out (bpg_name (i := 0) nd_is_hedge_c1 rfl (Or.inl rfl) (by first | exact .inl rfl | exact .inr rfl | assumption)), Bx.out bpf_nil, Bx.out (bpi_seqK (K := K) rfl (bpe_dget hu (bv 3) (bv 0) (fun _ _ => rfl))), Bx.out (bpg_name (i := 1) nd_is_hedge_c1 rfl (Or.inl rfl) (by first | exact .inl rfl | exact .inr rfl | assumption)), Bx.out bpf_nil, Bx.out (bpe_cmpR (op_inTx (K := K) rfl hr.units) (bv 1) (bv 2) (by rfl))⟩)
  exact fn_d (f := F_is_hedge_k09) ((ss_seq (ss_expr (se_call (sa_cons (se_var 0) (sa_cons (se_lst (sa_cons (se_var 1) (sa_cons (se_var 2) sa_nil))) sa_nil)))) (ss_seq (ss_if (st_or (st_not (st_tru (se_isi (se_var 3) kit_list))) (st_not (st_tru (se_call (sa_cons (se_call (sa_cons (se_var 0) sa_nil)) (sa_cons (se_var 3) sa_nil)))))) (ss_ret (se_c fun _ => rp_mk_bool)) ss_nil) (ss_seq (ss_if (st_or (st_t (se_op so_inTx (se_var 1) (se_var 3))) (st_t (se_op so_inTx (se_var 2) (se_var 3)))) (ss_ret (se_c fun _ => rp_mk_bool)) ss_nil) (ss_seq (ss_set (se_cb sc_dict (sa_cons (se_var 0) sa_nil))) (ss_ret (se_cb sc_any (sa_cons (se_comp2 (k := 1) (si_seq (se_var 3)) sg_name (gz_name (by decide) (by decide)) (by decide) st_all (si_seq (se_dgetv (se_var 0))) sg_name (gz_name (by decide) (by decide)) st_all (se_op so_inTx (se_var 1) (se_var 2))) sa_nil)))))))) h
theorem ok_law_names {f : Addr} {fd : FuncData} (F : Fun K "_law_names" "_law_names" s_law_names f fd) (T : Txt mg)  : FnOk P w K mg base CX0 1 f fd ["_law_many", "_law_cell"] (spD 2 G_law_names) := by
  refine F.ok sc_law_names (fun vs H Q E h => spD_len h) (fun cdv A outer s H vs Q E hr h => ?_)
  have hu := hu_of hr
  apply Exists.intro
  apply And.intro
  · refine' Bx.out (bpss_cons (bps_set (i := 2) nd_law_names rfl (Or.inl rfl) bpe_str (by rfl) (by first | exact .inl rfl | exact .inr rfl | assumption))
  (bpss_cons (bps_set (i := 3) nd_law_names rfl (Or.inl rfl) (bpe_ix (ix_UK (K := K) rfl) (bpe_tup (bpa_consF bpe_int (bpa_consF bpe_int (bpa_consF bpe_int (bpa_consF bpe_int (bpa_consF bpe_int (bpa_consF bpe_int (bpa_consF bpe_int (bpa_consF bpe_int bpa_nil (by rfl)) (by rfl)) (by rfl)) (by rfl)) (by rfl)) (by rfl)) (by rfl)) (by rfl))) (bpe_op op_mod (bpe_op op_fdiv (bv 1) bpe_int) bpe_int) (fun _ _ => rfl)) (by rfl) (by first | exact .inl rfl | exact .inr rfl | assumption))
  (bpss_cons (bps_set (i := 4) nd_law_names rfl (Or.inl rfl) (bpe_op op_mod (bpe_op op_fdiv (bv 1) bpe_int) bpe_int) (by rfl) (by first | exact .inl rfl | exact .inr rfl | assumption))
  (bpss_cons (bps_set (i := 5) nd_law_names rfl (Or.inl rfl) (bpe_op op_mulU (bpe_ix (ix_UK (K := K) rfl) (bv 2) (bpe_op op_mod (bpe_op op_fdiv (bv 1) bpe_int) bpe_int) (fun _ _ => rfl)) (bpe_op op_mod (bpe_op op_fdiv (bv 1) bpe_int) bpe_int)) (by rfl) (by first | exact .inl rfl | exact .inr rfl | assumption))
  (bpss_cons (bps_set (i := 6) nd_law_names rfl (Or.inl rfl) (bpe_op op_mod (bpe_op op_fdiv (bv 1) bpe_int) (bpe_op (op_addUK (K := K) rfl) (bpe_callB (call_lenK (K := K) rfl) (by rfl) T.len boot_len (bpa_consF (bv 5) bpa_nil (by rfl)) (by decide) (by decide) (star_each (by rfl)) (by rfl)) bpe_int)) (by rfl) (by first | exact .inl rfl | exact .inr rfl | assumption))
  (bpss_cons (bps_set (i := 7) nd_law_names rfl (Or.inl rfl) (bpe_lst bpa_nil) (by rfl) (by first | exact .inl rfl | exact .inr rfl | assumption))
  (bpss_cons (bps_for PassesOwn.never rfl (bpi_range1 rfl T.range (bpa_consF (bv 0) bpa_nil (by rfl)) (by rfl)) (bpg_name (i := 8) nd_law_names rfl (Or.inl rfl) (by first | exact .inl rfl | exact .inr rfl | assumption))
   (bpss_cons (bps_set (i := 9) nd_law_names rfl (Or.inl rfl) (bpe_ix (ix_UK (K := K) rfl) (bv 2) (bpe_op op_mod (bpe_op (op_addUK (K := K) rfl) (bv 4) (bpe_op op_mulU (bv 3) (bv 8))) bpe_int) (fun _ _ => rfl)) (by rfl) (by first | exact .inl rfl | exact .inr rfl | assumption))
  (bpss_one (bps_if (bpt_cmpR (op_eqA (K := K) rfl hr.units) (bpe_op op_mod (bv 1) bpe_int) bpe_int (nomark _)) (bpss_one (bps_expr (bpe_bmK (K := K) rfl PySem.F.plainAttrs_list PySem.F.slot_list_append PySem.F.type_list_append mt_append (bv 7) (bpa_consF (bpe_op (op_addUK (K := K) rfl) (bpe_op (op_addUK (K := K) rfl) (bpe_slice (sl_UK (K := K) rfl) (bv 5) bpo_none (bpo_some (bv 6))) (bv 9)) (bpe_slice (sl_UK (K := K) rfl) (bv 5) (bpo_some (bv 6)) bpo_none)) bpa_nil (by rfl)) (by rfl) (by rfl) (by rfl) (star_each (by rfl)) (by rfl)) (by rfl))) (bpss_one (bps_if (bpt_cmpR (op_eqA (K := K) rfl hr.units) (bpe_op op_mod (bv 1) bpe_int) bpe_int (nomark _)) (bpss_one (bps_expr (bpe_bmK (K := K) rfl PySem.F.plainAttrs_list PySem.F.slot_list_append PySem.F.type_list_append mt_append (bv 7) (bpa_consF (bpe_op (op_addUK (K := K) rfl) (bpe_slice (sl_UK (K := K) rfl) (bv 5) bpo_none (bpo_some (bpe_op op_mod (bpe_op op_mulU (bv 8) (bv 3)) (bpe_op (op_addUK (K := K) rfl) (bpe_callB (call_lenK (K := K) rfl) (by rfl) T.len boot_len (bpa_consF (bv 5) bpa_nil (by rfl)) (by decide) (by decide) (star_each (by rfl)) (by rfl)) bpe_int)))) (bv 9)) bpa_nil (by rfl)) (by rfl) (by rfl) (by rfl) (star_each (by rfl)) (by rfl)) (by rfl))) (bpss_one (bps_expr (bpe_bmK (K := K) rfl PySem.F.plainAttrs_list PySem.F.slot_list_append PySem.F.type_list_append mt_append (bv 7) (bpa_consF (bpe_op op_mulU (bpe_ix (ix_UK (K := K) rfl) (bv 2) (bpe_op op_mod (bpe_op (op_addUK (K := K) rfl) (bv 4) (bpe_op op_fdiv (bv 8) bpe_int)) bpe_int) (fun _ _ => rfl)) (bpe_op (op_addUK (K := K) rfl) bpe_int (bpe_op op_mod (bpe_op op_mulU (bv 8) (bv 3)) bpe_int))) bpa_nil (by rfl)) (by rfl) (by rfl) (by rfl) (star_each (by rfl)) (by rfl)) (by rfl)))))))) (by intro _; rfl))
  (bpss_one (bps_ret (bv 7))))))))))
  exact fn_d (f := F_law_names) ((ss_seq (ss_set (se_c fun _ => rp_mk_str)) (ss_seq (ss_set (se_op so_ix (se_tup (sa_cons (se_c fun _ => rp_mk_int) (sa_cons (se_c fun _ => rp_mk_int) (sa_cons (se_c fun _ => rp_mk_int) (sa_cons (se_c fun _ => rp_mk_int) (sa_cons (se_c fun _ => rp_mk_int) (sa_cons (se_c fun _ => rp_mk_int) (sa_cons (se_c fun _ => rp_mk_int) (sa_cons (se_c fun _ => rp_mk_int) sa_nil))))))))) (se_op so_mod (se_op so_fdiv (se_var 1) (se_c fun _ => rp_mk_int)) (se_c fun _ => rp_mk_int)))) (ss_seq (ss_set (se_op so_mod (se_op so_fdiv (se_var 1) (se_c fun _ => rp_mk_int)) (se_c fun _ => rp_mk_int))) (ss_seq (ss_set (se_op so_mul (se_ixv (se_op so_mod (se_op so_fdiv (se_var 1) (se_c fun _ => rp_mk_int)) (se_c fun _ => rp_mk_int))) (se_op so_mod (se_op so_fdiv (se_var 1) (se_c fun _ => rp_mk_int)) (se_c fun _ => rp_mk_int)))) (ss_seq (ss_set (se_op so_mod (se_op so_fdiv (se_var 1) (se_c fun _ => rp_mk_int)) (se_op so_add (se_cb sc_len (sa_cons (se_var 5) sa_nil)) (se_c fun _ => rp_mk_int)))) (ss_seq (ss_set (se_lst sa_nil)) (ss_seq (ss_for (si_range1 (sa_cons (se_var 0) sa_nil)) sg_name (ss_seq (ss_set (se_ixv (se_op so_mod (se_op so_add (se_var 4) (se_op so_mul (se_var 3) (se_var 8))) (se_c fun _ => rp_mk_int)))) (ss_if (st_t (se_op so_eq (se_op so_mod (se_var 1) (se_c fun _ => rp_mk_int)) (se_c fun _ => rp_mk_int))) (ss_app (se_op so_add (se_op so_add (se_sl (se_var 5) sp_none (sp_some (se_var 6))) (se_var 9)) (se_sl (se_var 5) (sp_some (se_var 6)) sp_none))) (ss_if (st_t (se_op so_eq (se_op so_mod (se_var 1) (se_c fun _ => rp_mk_int)) (se_c fun _ => rp_mk_int))) (ss_app (se_op so_add (se_sl (se_var 5) sp_none (sp_some (se_op so_mod (se_op so_mul (se_var 8) (se_var 3)) (se_op so_add (se_cb sc_len (sa_cons (se_var 5) sa_nil)) (se_c fun _ => rp_mk_int))))) (se_var 9))) (ss_app (se_op so_mul (se_ixv (se_op so_mod (se_op so_add (se_var 4) (se_op so_fdiv (se_var 8) (se_c fun _ => rp_mk_int))) (se_c fun _ => rp_mk_int))) (se_op so_add (se_c fun _ => rp_mk_int) (se_op so_mod (se_op so_mul (se_var 8) (se_var 3)) (se_c fun _ => rp_mk_int))))))))) ss_retv)))))))) h
theorem ok_law_web {f : Addr} {fd : FuncData} (F : Fun K "_law_web" "_law_web" s_law_web f fd) (T : Txt mg)  : FnOk P w K mg base CX0 1 f fd ["_law_cells", "_law_names_here"] (spD 2 G_law_net) := by
  refine F.ok sc_law_web (fun vs H Q E h => spD_len h) (fun cdv A outer s H vs Q E hr h => ?_)
  have hu := hu_of hr
  apply Exists.intro
  apply And.intro
  · refine' Bx.out (bpss_cons (bps_set (i := 2) nd_law_web rfl (Or.inl rfl) (bpe_lst bpa_nil) (by rfl) (by first | exact .inl rfl | exact .inr rfl | assumption))
  (bpss_cons (bps_for PassesOwn.never rfl (bpi_enumK (K := K) rfl rfl T.enumerate (bpa_consF (bv 1) bpa_nil (by rfl)) (by rfl)) (bpg_tupK (K := K) (n := 2) rfl rfl (bpgs_cons (bpg_name (i := 3) nd_law_web rfl (Or.inl rfl) (by first | exact .inl rfl | exact .inr rfl | assumption)) (bpgs_cons (bpg_name (i := 4) nd_law_web rfl (Or.inl rfl) (by first | exact .inl rfl | exact .inr rfl | assumption)) bpgs_nil (by rfl)) (by rfl)) (by rfl) (by rfl))
   (bpss_cons (bps_set (i := 5) nd_law_web rfl (Or.inl rfl) (bpe_slice (sl_UK (K := K) rfl) (bv 1) bpo_none (bpo_some (bv 3))) (by rfl) (by first | exact .inl rfl | exact .inr rfl | assumption))
  (bpss_cons (bps_set (i := 6) nd_law_web rfl (Or.inl rfl) (bpe_op op_fdiv (bpe_ix (ix_UK (K := K) rfl) (bv 0) (bv 3) (fun _ _ => rfl)) bpe_int) (by rfl) (by first | exact .inl rfl | exact .inr rfl | assumption))
  (bpss_cons (bps_set (i := 7) nd_law_web rfl (Or.inl rfl) (bpe_lst bpa_nil) (by rfl) (by first | exact .inl rfl | exact .inr rfl | assumption))
  (bpss_cons (bps_for PassesOwn.never rfl (bpi_range1 rfl T.range (bpa_consF (bpe_callB (call_min2 rfl) (by rfl) T.min boot_min (bpa_consF (bpe_op op_mod (bpe_ix (ix_UK (K := K) rfl) (bv 0) (bv 3) (fun _ _ => rfl)) bpe_int) (bpa_consF (bv 3) bpa_nil (by rfl)) (by rfl)) (by decide) (by decide) (star_each (by rfl)) (by rfl)) bpa_nil (by rfl)) (by rfl)) (bpg_name (i := 8) nd_law_web rfl (Or.inl rfl) (by first | exact .inl rfl | exact .inr rfl | assumption))
   (bpss_cons (bps_set (i := 9) nd_law_web rfl (Or.inl rfl) (bpe_op op_mod (bv 6) (bpe_callB (call_lenK (K := K) rfl) (by rfl) T.len boot_len (bpa_consF (bv 5) bpa_nil (by rfl)) (by decide) (by decide) (star_each (by rfl)) (by rfl))) (by rfl) (by first | exact .inl rfl | exact .inr rfl | assumption))
  (bpss_cons (bps_set (i := 6) nd_law_web rfl (Or.inl rfl) (bpe_op op_fdiv (bv 6) (bpe_callB (call_lenK (K := K) rfl) (by rfl) T.len boot_len (bpa_consF (bv 5) bpa_nil (by rfl)) (by decide) (by decide) (star_each (by rfl)) (by rfl))) (by rfl) (by first | exact .inl rfl | exact .inr rfl | assumption))
  (bpss_one (bps_expr (bpe_bmK (K := K) rfl PySem.F.plainAttrs_list PySem.F.slot_list_append PySem.F.type_list_append mt_append (bv 7) (bpa_consF (bpe_bmK (K := K) rfl PySem.F.plainAttrs_list PySem.F.slot_list_pop PySem.F.type_list_pop mt_popAt (bv 5) (bpa_consF (bv 9) bpa_nil (by rfl)) (by rfl) (by rfl) (by rfl) (star_each (by rfl)) (by rfl)) bpa_nil (by rfl)) (by rfl) (by rfl) (by rfl) (star_each (by rfl)) (by rfl)) (by rfl))))) (by intro _; rfl))
  (bpss_one (bps_expr (bpe_bmK (K := K) rfl PySem.F.plainAttrs_list PySem.F.slot_list_append PySem.F.type_list_append mt_append (bv 2) (bpa_consF (bpe_tup (bpa_consF (bv 4) (bpa_consF (bv 7) bpa_nil (by rfl)) (by rfl))) bpa_nil (by rfl)) (by rfl) (by rfl) (by rfl) (star_each (by rfl)) (by rfl)) (by rfl))))))) (by intro _; rfl))
  (bpss_one (bps_ret (bv 2)))))
  exact fn_d (f := F_law_net) ((ss_seq (ss_set (se_lst sa_nil)) (ss_seq (ss_for (si_enum (sa_cons (se_var 1) sa_nil)) (sg_tup (sgs_cons (sgs_cons sgs_nil))) (ss_seq (ss_set (se_sl (se_var 1) sp_none (sp_some (se_var 3)))) (ss_seq (ss_set (se_op so_fdiv (se_ixv (se_var 3)) (se_c fun _ => rp_mk_int))) (ss_seq (ss_set (se_lst sa_nil)) (ss_seq (ss_for (si_range1 (sa_cons (se_cb sc_min (sa_cons (se_op so_mod (se_ixv (se_var 3)) (se_c fun _ => rp_mk_int)) (sa_cons (se_var 3) sa_nil))) sa_nil)) sg_name (ss_seq (ss_set (se_op so_mod (se_var 6) (se_cb sc_len (sa_cons (se_var 5) sa_nil)))) (ss_seq (ss_set (se_op so_fdiv (se_var 6) (se_cb sc_len (sa_cons (se_var 5) sa_nil)))) (ss_apppop (se_var 9))))) (ss_app (se_tup (sa_cons (se_var 4) (sa_cons (se_var 7) sa_nil))))))))) ss_retv))) h
theorem ok_law_up {f : Addr} {fd : FuncData} (F : Fun K "_law_up" "_law_up" s_law_up f fd) (T : Txt mg)  : FnOk P w K mg base CX0 1 f fd ["_law_web_here"] (spD 1 G_law_up) := by
  refine F.ok sc_law_up (fun vs H Q E h => spD_len h) (fun cdv A outer s H vs Q E hr h => ?_)
  have hu := hu_of hr
  apply Exists.intro
  apply And.intro
  · refine' Bx.out (bpss_cons (bps_set (i := 1) nd_law_up rfl (Or.inl rfl) bpe_dnewK (by rfl) (by first | exact .inl rfl | exact .inr rfl | assumption))
  (bpss_cons (bps_for PassesOwn.never rfl (bpi_seqK (K := K) rfl (bv 0)) (bpg_tupK (K := K) (n := 2) rfl rfl (bpgs_cons (bpg_name (i := 2) nd_law_up rfl (Or.inl rfl) (by first | exact .inl rfl | exact .inr rfl | assumption)) (bpgs_cons (bpg_name (i := 3) nd_law_up rfl (Or.inl rfl) (by first | exact .inl rfl | exact .inr rfl | assumption)) bpgs_nil (by rfl)) (by rfl)) (by rfl) (by rfl))
   (bpss_cons (bps_set (i := 4) nd_law_up rfl (Or.inl rfl) (bpe_lst (bpa_consF (bv 2) bpa_nil (by rfl))) (by rfl) (by first | exact .inl rfl | exact .inr rfl | assumption))
  (bpss_cons (bps_for PassesOwn.never rfl (bpi_seqK (K := K) rfl (bv 3)) (bpg_name (i := 5) nd_law_up rfl (Or.inl rfl) (by first | exact .inl rfl | exact .inr rfl | assumption))
   (bpss_one (bps_for PassesOwn.never rfl (bpi_seqK (K := K) rfl (bpe_dget hu (bv 1) (bv 5) (fun _ _ => rfl))) (bpg_name (i := 6) nd_law_up rfl (Or.inl rfl) (by first | exact .inl rfl | exact .inr rfl | assumption))
   (bpss_one (bps_if (bpt_cmpR (op_notInK (K := K) rfl) (bv 6) (bv 4) (by rfl)) (bpss_one (bps_expr (bpe_bmK (K := K) rfl PySem.F.plainAttrs_list PySem.F.slot_list_append PySem.F.type_list_append mt_append (bv 4) (bpa_consF (bv 6) bpa_nil (by rfl)) (by rfl) (by rfl) (by rfl) (star_each (by rfl)) (by rfl)) (by rfl))) bpss_nil)) (by intro _; rfl))) (by intro _; rfl))
  (bpss_one (bps_dput hu (bv 1) (bv 2) (bv 4) rfl)))) (by intro _; rfl))
  (bpss_one (bps_ret (bv 1)))))
  exact fn_d (f := F_law_up) ((ss_seq (ss_set se_dnew) (ss_seq (ss_for (si_seq (se_var 0)) (sg_tup (sgs_cons (sgs_cons sgs_nil))) (ss_seq (ss_set (se_lst (sa_cons (se_var 2) sa_nil))) (ss_seq (ss_for (si_seq (se_var 3)) sg_name (ss_for (si_seq (se_dgetv (se_var 5))) sg_name (ss_if (st_t (se_op so_in (se_var 6) (se_var 4))) (ss_app (se_var 6)) ss_nil))) (ss_put (se_var 2) (se_var 4))))) ss_retv))) h
theorem ok_law_way {f : Addr} {fd : FuncData} (F : Fun K "_law_way" "_law_way" s_law_way f fd) (T : Txt mg)  : FnOk P w K mg base CX0 1 f fd ["_law_elders_by", "_law_name", "_law_cell"] (spD 3 G_law_way) := by
  refine F.ok sc_law_way (fun vs H Q E h => spD_len h) (fun cdv A outer s H vs Q E hr h => ?_)
  have hu := hu_of hr
  apply Exists.intro
  apply And.intro
  · refine' Bx.out (bpss_cons (bps_set (i := 3) nd_law_way rfl (Or.inl rfl) (bpe_lst (bpa_consF (bv 1) bpa_nil (by rfl))) (by rfl) (by first | exact .inl rfl | exact .inr rfl | assumption))
  (bpss_cons (bps_set (i := 4) nd_law_way rfl (Or.inl rfl) (bpe_op op_fdiv (bv 2) bpe_int) (by rfl) (by first | exact .inl rfl | exact .inr rfl | assumption))
  (bpss_cons (bps_for PassesOwn.never rfl (bpi_range1 rfl T.range (bpa_consF (bpe_op op_mod (bv 2) bpe_int) bpa_nil (by rfl)) (by rfl)) (bpg_name (i := 5) nd_law_way rfl (Or.inl rfl) (by first | exact .inl rfl | exact .inr rfl | assumption))
   (bpss_cons (bps_set (i := 6) nd_law_way rfl (Or.inl rfl) (bpe_dget hu (bv 0) (bpe_ix (ix_UK (K := K) rfl) (bv 3) (bpe_un un_neg bpe_int) (fun _ _ => rfl)) (fun _ _ => rfl)) (by rfl) (by first | exact .inl rfl | exact .inr rfl | assumption))
  (bpss_one (bps_if (bpt_cmpR op_gt (bpe_callB (call_lenK (K := K) rfl) (by rfl) T.len boot_len (bpa_consF (bv 6) bpa_nil (by rfl)) (by decide) (by decide) (star_each (by rfl)) (by rfl)) bpe_int (nomark _)) (bpss_cons (bps_expr (bpe_bmK (K := K) rfl PySem.F.plainAttrs_list PySem.F.slot_list_append PySem.F.type_list_append mt_append (bv 3) (bpa_consF (bpe_ix (ix_UK (K := K) rfl) (bv 6) (bpe_op op_mod (bv 4) (bpe_callB (call_lenK (K := K) rfl) (by rfl) T.len boot_len (bpa_consF (bv 6) bpa_nil (by rfl)) (by decide) (by decide) (star_each (by rfl)) (by rfl))) (fun _ _ => rfl)) bpa_nil (by rfl)) (by rfl) (by rfl) (by rfl) (star_each (by rfl)) (by rfl)) (by rfl))
  (bpss_one (bps_set (i := 4) nd_law_way rfl (Or.inl rfl) (bpe_op op_fdiv (bv 4) (bpe_callB (call_lenK (K := K) rfl) (by rfl) T.len boot_len (bpa_consF (bv 6) bpa_nil (by rfl)) (by decide) (by decide) (star_each (by rfl)) (by rfl))) (by rfl) (by first | exact .inl rfl | exact .inr rfl | assumption)))) bpss_nil))) (by intro _; rfl))
  (bpss_one (bps_ret (bv 3))))))
  exact fn_d (f := F_law_way) ((ss_seq (ss_set (se_lst (sa_cons (se_var 1) sa_nil))) (ss_seq (ss_set (se_op so_fdiv (se_var 2) (se_c fun _ => rp_mk_int))) (ss_seq (ss_for (si_range1 (sa_cons (se_op so_mod (se_var 2) (se_c fun _ => rp_mk_int)) sa_nil)) sg_name (ss_seq (ss_set (se_dgetv (se_ixv (se_neg (se_c fun _ => rp_mk_int))))) (ss_if (st_t (se_op so_gt (se_cb sc_len (sa_cons (se_var 6) sa_nil)) (se_c fun _ => rp_mk_int))) (ss_seq (ss_app (se_ixv (se_op so_mod (se_var 4) (se_cb sc_len (sa_cons (se_var 6) sa_nil))))) (ss_set (se_op so_fdiv (se_var 4) (se_cb sc_len (sa_cons (se_var 6) sa_nil))))) ss_nil))) ss_retv)))) h
theorem ok_law_spoilt {f : Addr} {fd : FuncData} (F : Fun K "_law_spoilt" "_law_spoilt" s_law_spoilt f fd) (T : Txt mg)  : FnOk P w K mg base CX0 1 f fd ["_law_row", "_law_choice", "_law_cell", "_law_name"] (spD 4 G_law_spoilt) := by
  refine F.ok sc_law_spoilt (fun vs H Q E h => spD_len h) (fun cdv A outer s H vs Q E hr h => ?_)
  have hu := hu_of hr
  apply Exists.intro
  apply And.intro
  · refine' Bx.out (bpss_cons (bps_set (i := 4) nd_law_spoilt rfl (Or.inl rfl) (bpe_op op_mod (bv 2) (bpe_op (op_addUK (K := K) rfl) (bpe_callB (call_lenK (K := K) rfl) (by rfl) T.len boot_len (bpa_consF (bv 0) bpa_nil (by rfl)) (by decide) (by decide) (star_each (by rfl)) (by rfl)) bpe_int)) (by rfl) (by first | exact .inl rfl | exact .inr rfl | assumption))
  (bpss_cons (bps_set (i := 5) nd_law_spoilt rfl (Or.inl rfl) (bpe_ix (ix_UK (K := K) rfl) (bpe_lst (bpa_consF bpe_non (bpa_consF bpe_int (bpa_consF bpe_str (bpa_consF (bpe_lst (bpa_consF (bv 3) bpa_nil (by rfl))) (bpa_consF (bpe_tup (bpa_consF (bv 3) bpa_nil (by rfl))) (bpa_consF (bpe_op (op_addUK (K := K) rfl) (bv 3) (bv 3)) (bpa_consF bpe_dnewK (bpa_consF bpe_bl bpa_nil (by rfl)) (by rfl)) (by rfl)) (by rfl)) (by rfl)) (by rfl)) (by rfl)) (by rfl))) (bpe_op op_mod (bpe_op op_fdiv (bv 2) bpe_int) bpe_int) (fun _ _ => rfl)) (by rfl) (by first | exact .inl rfl | exact .inr rfl | assumption))
  (bpss_cons (bps_if (bpt_cmpR (op_eqA (K := K) rfl hr.units) (bv 1) bpe_int (nomark _)) (bpss_one (bps_ret (bpe_op (op_addUK (K := K) rfl) (bpe_slice (sl_UK (K := K) rfl) (bv 0) bpo_none (bpo_some (bv 4))) (bpe_slice (sl_UK (K := K) rfl) (bv 0) (bpo_some (bpe_op (op_addUK (K := K) rfl) (bv 4) bpe_int)) bpo_none)))) bpss_nil)
  (bpss_cons (bps_if (bpt_cmpR (op_eqA (K := K) rfl hr.units) (bv 1) bpe_int (nomark _)) (bpss_one (bps_ret (bpe_op (op_addUK (K := K) rfl) (bpe_op (op_addUK (K := K) rfl) (bpe_slice (sl_UK (K := K) rfl) (bv 0) bpo_none (bpo_some (bv 4))) (bpe_lst (bpa_consF (bv 3) bpa_nil (by rfl)))) (bpe_slice (sl_UK (K := K) rfl) (bv 0) (bpo_some (bv 4)) bpo_none)))) bpss_nil)
  (bpss_cons (bps_if (bpt_cmpR (op_eqA (K := K) rfl hr.units) (bv 1) bpe_int (nomark _)) (bpss_one (bps_ret (bpe_op (op_addUK (K := K) rfl) (bpe_op (op_addUK (K := K) rfl) (bpe_slice (sl_UK (K := K) rfl) (bv 0) bpo_none (bpo_some (bv 4))) (bpe_lst (bpa_consF (bv 3) bpa_nil (by rfl)))) (bpe_slice (sl_UK (K := K) rfl) (bv 0) (bpo_some (bpe_op (op_addUK (K := K) rfl) (bv 4) bpe_int)) bpo_none)))) bpss_nil)
  (bpss_cons (bps_if (bpt_cmpR (op_eqA (K := K) rfl hr.units) (bv 1) bpe_int (nomark _)) (bpss_one (bps_ret (bpe_op (op_addUK (K := K) rfl) (bpe_slice (sl_UK (K := K) rfl) (bv 0) (bpo_some (bv 4)) bpo_none) (bpe_slice (sl_UK (K := K) rfl) (bv 0) bpo_none (bpo_some (bv 4)))))) bpss_nil)
  (bpss_cons (bps_if (bpt_cmpR (op_eqA (K := K) rfl hr.units) (bv 1) bpe_int (nomark _)) (bpss_one (bps_ret (bpe_rev (K := K) rfl (bv 0) (bpo_some (bpe_un un_neg bpe_int))))) bpss_nil)
  (bpss_cons (bps_if (bpt_cmpR (op_eqA (K := K) rfl hr.units) (bv 1) bpe_int (nomark _)) (bpss_one (bps_ret (bpe_op (op_addUK (K := K) rfl) (bv 0) (bpe_slice (sl_UK (K := K) rfl) (bv 0) (bpo_some (bv 4)) bpo_none)))) bpss_nil)
  (bpss_cons (bps_if (bpt_cmpR (op_eqA (K := K) rfl hr.units) (bv 1) bpe_int (nomark _)) (bpss_one (bps_ret (bpe_callTy (call_tupleK (K := K) rfl) (by rfl) T.tuple boot_tuple (bpa_consF (bv 0) bpa_nil (by rfl)) (by decide) (by decide) (star_each (by rfl)) (by rfl)))) bpss_nil)
  (bpss_cons (bps_if (bpt_cmpR (op_eqA (K := K) rfl hr.units) (bv 1) bpe_int (nomark _)) (bpss_one (bps_ret (bpe_op (op_addUK (K := K) rfl) (bpe_op (op_addUK (K := K) rfl) (bpe_slice (sl_UK (K := K) rfl) (bv 0) bpo_none (bpo_some (bv 4))) (bpe_lst (bpa_consF (bv 5) bpa_nil (by rfl)))) (bpe_slice (sl_UK (K := K) rfl) (bv 0) (bpo_some (bpe_op (op_addUK (K := K) rfl) (bv 4) bpe_int)) bpo_none)))) bpss_nil)
  (bpss_cons (bps_if (bpt_cmpR (op_eqA (K := K) rfl hr.units) (bv 1) bpe_int (nomark _)) (bpss_one (bps_ret (bpe_ix (ix_UK (K := K) rfl) (bpe_lst (bpa_consF (bv 5) (bpa_consF (bpe_lst bpa_nil) (bpa_consF bpe_non (bpa_consF (bv 3) (bpa_consF (bpe_disp (bpps_cons (bv 3) (bv 3) bpps_nil) rfl rfl (by simp) (by decide)) bpa_nil (by rfl)) (by rfl)) (by rfl)) (by rfl)) (by rfl))) (bpe_op op_mod (bv 2) bpe_int) (fun _ _ => rfl)))) bpss_nil)
  (bpss_one (bps_ret (bpe_callTy (call_listK (K := K) rfl) (by rfl) T.list boot_list (bpa_consF (bv 0) bpa_nil (by rfl)) (by decide) (by decide) (star_each (by rfl)) (by rfl)))))))))))))))
  exact fn_d (f := F_law_spoilt) ((ss_seq (ss_set (se_op so_mod (se_var 2) (se_op so_add (se_cb sc_len (sa_cons (se_var 0) sa_nil)) (se_c fun _ => rp_mk_int)))) (ss_seq (ss_set (se_op so_ix (se_lst (sa_cons (se_c fun _ => rp_mk_none) (sa_cons (se_c fun _ => rp_mk_int) (sa_cons (se_c fun _ => rp_mk_str) (sa_cons (se_lst (sa_cons (se_var 3) sa_nil)) (sa_cons (se_tup (sa_cons (se_var 3) sa_nil)) (sa_cons (se_op so_add (se_var 3) (se_var 3)) (sa_cons se_dnew (sa_cons (se_c fun _ => rp_mk_bool) sa_nil))))))))) (se_op so_mod (se_op so_fdiv (se_var 2) (se_c fun _ => rp_mk_int)) (se_c fun _ => rp_mk_int)))) (ss_seq (ss_if (st_t (se_op so_eq (se_var 1) (se_c fun _ => rp_mk_int))) (ss_ret (se_op so_add (se_sl (se_var 0) sp_none (sp_some (se_var 4))) (se_sl (se_var 0) (sp_some (se_op so_add (se_var 4) (se_c fun _ => rp_mk_int))) sp_none))) ss_nil) (ss_seq (ss_if (st_t (se_op so_eq (se_var 1) (se_c fun _ => rp_mk_int))) (ss_ret (se_op so_add (se_op so_add (se_sl (se_var 0) sp_none (sp_some (se_var 4))) (se_lst (sa_cons (se_var 3) sa_nil))) (se_sl (se_var 0) (sp_some (se_var 4)) sp_none))) ss_nil) (ss_seq (ss_if (st_t (se_op so_eq (se_var 1) (se_c fun _ => rp_mk_int))) (ss_ret (se_op so_add (se_op so_add (se_sl (se_var 0) sp_none (sp_some (se_var 4))) (se_lst (sa_cons (se_var 3) sa_nil))) (se_sl (se_var 0) (sp_some (se_op so_add (se_var 4) (se_c fun _ => rp_mk_int))) sp_none))) ss_nil) (ss_seq (ss_if (st_t (se_op so_eq (se_var 1) (se_c fun _ => rp_mk_int))) (ss_ret (se_op so_add (se_sl (se_var 0) (sp_some (se_var 4)) sp_none) (se_sl (se_var 0) sp_none (sp_some (se_var 4))))) ss_nil) (ss_seq (ss_if (st_t (se_op so_eq (se_var 1) (se_c fun _ => rp_mk_int))) (ss_ret (se_rev (se_var 0) (sp_some (se_neg (se_c fun _ => rp_mk_int))))) ss_nil) (ss_seq (ss_if (st_t (se_op so_eq (se_var 1) (se_c fun _ => rp_mk_int))) (ss_ret (se_op so_add (se_var 0) (se_sl (se_var 0) (sp_some (se_var 4)) sp_none))) ss_nil) (ss_seq (ss_if (st_t (se_op so_eq (se_var 1) (se_c fun _ => rp_mk_int))) (ss_ret (se_cb sc_tuple (sa_cons (se_var 0) sa_nil))) ss_nil) (ss_seq (ss_if (st_t (se_op so_eq (se_var 1) (se_c fun _ => rp_mk_int))) (ss_ret (se_op so_add (se_op so_add (se_sl (se_var 0) sp_none (sp_some (se_var 4))) (se_lst (sa_cons (se_var 5) sa_nil))) (se_sl (se_var 0) (sp_some (se_op so_add (se_var 4) (se_c fun _ => rp_mk_int))) sp_none))) ss_nil) (ss_seq (ss_if (st_t (se_op so_eq (se_var 1) (se_c fun _ => rp_mk_int))) (ss_ret (se_op so_ix (se_lst (sa_cons (se_var 5) (sa_cons (se_lst sa_nil) (sa_cons (se_c fun _ => rp_mk_none) (sa_cons (se_var 3) (sa_cons (se_d1 (se_var 3) (se_var 3)) sa_nil)))))) (se_op so_mod (se_var 2) (se_c fun _ => rp_mk_int)))) ss_nil) (ss_ret (se_cb sc_list (sa_cons (se_var 0) sa_nil))))))))))))))) h
theorem ok_law_is_road {f : Addr} {fd : FuncData} (F : Fun K "_law_is_road" "_law_is_road" s_law_is_road f fd) (T : Txt mg)  : FnOk P w K mg base CX0 1 f fd ["_law_elders_by", "_law_kind", "_law_other", "_law_thing"] (spD 4 G_law_is_road) := by
  refine F.ok sc_law_is_road (fun vs H Q E h => spD_len h) (fun cdv A outer s H vs Q E hr h => ?_)
  have hu := hu_of hr
  apply Exists.intro
  apply And.intro
  · refine' Bx.out (bpss_cons (bps_if (bpw_or (bpt_not (bpt_truthK (K := K) rfl (bpe_callB (call_isiK (K := K) rfl) (by rfl) T.isinstance boot_isinstance (bpa_consF (bv 3) (bpa_consF (bpe_bltn (v := .ty "list") (by rfl) T.list boot_list rfl (by decide) (by decide)) bpa_nil (by rfl)) (by rfl)) (by decide) (by decide) (star_each (by rfl)) (by rfl)) (fun _ => rfl))) (bpw_or (bpt_cmpR (op_eqA (K := K) rfl hr.units) (bpe_callB (call_lenK (K := K) rfl) (by rfl) T.len boot_len (bpa_consF (bv 3) bpa_nil (by rfl)) (by decide) (by decide) (star_each (by rfl)) (by rfl)) bpe_int (nomark _)) (bpw_or1 (bpt_cmpR (op_neT (K := K) rfl hr.units) (bpe_ix (ix_UK (K := K) rfl) (bv 3) bpe_int (fun _ _ => rfl)) (bv 1) (nomark _))))).pt (bpss_one (bps_ret bpe_bl)) bpss_nil)
  (bpss_cons (bps_set (i := 4) nd_law_is_road rfl (Or.inl rfl) (bv 1) (by rfl) (by first | exact .inl rfl | exact .inr rfl | assumption))
  (bpss_cons (bps_for PassesOwn.never rfl (bpi_seqK (K := K) rfl (bpe_slice (sl_UK (K := K) rfl) (bv 3) (bpo_some bpe_int) bpo_none)) (bpg_name (i := 5) nd_law_is_road rfl (Or.inl rfl) (by first | exact .inl rfl | exact .inr rfl | assumption))
   (bpss_cons (bps_if (bpt_cmpR (op_notInTx (K := K) rfl hr.units) (bv 5) (bpe_dget hu (bv 0) (bv 4) (fun _ _ => rfl)) (by rfl)) (bpss_one (bps_ret bpe_bl)) bpss_nil)
  (bpss_one (bps_set (i := 4) nd_law_is_road rfl (Or.inl rfl) (bv 5) (by rfl) (by first | exact .inl rfl | exact .inr rfl | assumption)))) (by intro _; rfl))
  (bpss_one (bps_ret (bpe_cmpR (op_eqT (K := K) rfl hr.units) (bv 4) (bv 2) (nomark _)))))))
  exact fn_d (f := F_law_is_road) ((ss_seq (ss_if (st_or (st_not (st_tru (se_isi (se_var 3) kit_list))) (st_or (st_t (se_op so_eq (se_cb sc_len (sa_cons (se_var 3) sa_nil)) (se_c fun _ => rp_mk_int))) (st_t (se_op so_eqT (se_ixv (se_c fun _ => rp_mk_int)) (se_var 1))))) (ss_ret (se_c fun _ => rp_mk_bool)) ss_nil) (ss_seq (ss_set (se_var 1)) (ss_seq (ss_for (si_seq (se_sl (se_var 3) (sp_some (se_c fun _ => rp_mk_int)) sp_none)) sg_name (ss_seq (ss_if (st_t (se_op so_inTx (se_var 5) (se_dgetv (se_var 4)))) (ss_ret (se_c fun _ => rp_mk_bool)) ss_nil) (ss_set (se_var 5)))) (ss_ret (se_op so_eqT (se_var 4) (se_var 2))))))) h
theorem ok_law_is_hedge {f : Addr} {fd : FuncData} (F : Fun K "_law_is_hedge" "_law_is_hedge" s_law_is_hedge f fd) (T : Txt mg)  : FnOk P w K mg base CX0 1 f fd ["_law_elders_by", "_law_kind", "_law_other", "_law_thing"] (spD 4 G_law_is_hedge) := by
  refine F.ok sc_law_is_hedge (fun vs H Q E h => spD_len h) (fun cdv A outer s H vs Q E hr h => ?_)
  have hu := hu_of hr
  apply Exists.intro
  apply And.intro
  · refine' Bx.out (bpss_cons (bps_if (bpw_or (bpt_not (bpt_truthK (K := K) rfl (bpe_callB (call_isiK (K := K) rfl) (by rfl) T.isinstance boot_isinstance (bpa_consF (bv 3) (bpa_consF (bpe_bltn (v := .ty "list") (by rfl) T.list boot_list rfl (by decide) (by decide)) bpa_nil (by rfl)) (by rfl)) (by decide) (by decide) (star_each (by rfl)) (by rfl)) (fun _ => rfl))) (bpw_or (bpt_cmpR (op_notInTx (K := K) rfl hr.units) (bv 1) (bv 3) (by rfl)) (bpw_or1 (bpt_cmpR (op_inTx (K := K) rfl hr.units) (bv 2) (bv 3) (by rfl))))).pt (bpss_one (bps_ret bpe_bl)) bpss_nil)
  (bpss_cons (bps_for PassesOwn.never rfl (bpi_enumK (K := K) rfl rfl T.enumerate (bpa_consF (bv 3) bpa_nil (by rfl)) (by rfl)) (bpg_tupK (K := K) (n := 2) rfl rfl (bpgs_cons (bpg_name (i := 4) nd_law_is_hedge rfl (Or.inl rfl) (by first | exact .inl rfl | exact .inr rfl | assumption)) (bpgs_cons (bpg_name (i := 5) nd_law_is_hedge rfl (Or.inl rfl) (by first | exact .inl rfl | exact .inr rfl | assumption)) bpgs_nil (by rfl)) (by rfl)) (by rfl) (by rfl))
   (bpss_cons (bps_if (bpw_or (bpt_not (bpt_truthK (K := K) rfl (bpe_callB (call_isiK (K := K) rfl) (by rfl) T.isinstance boot_isinstance (bpa_consF (bv 5) (bpa_consF (bpe_bltn (v := .ty "str") (by rfl) T.str boot_str rfl (by decide) (by decide)) bpa_nil (by rfl)) (by rfl)) (by decide) (by decide) (star_each (by rfl)) (by rfl)) (fun _ => rfl))) (bpw_or (bpt_cmp (bpc_dnotin hu (bv 5) (bv 0)) (by rfl)) (bpw_or1 (bpt_cmpR (op_inTx (K := K) rfl hr.units) (bv 5) (bpe_slice (sl_UK (K := K) rfl) (bv 3) bpo_none (bpo_some (bv 4))) (by rfl))))).pt (bpss_one (bps_ret bpe_bl)) bpss_nil)
  (bpss_one (bps_for PassesOwn.never rfl (bpi_seqK (K := K) rfl (bpe_dget hu (bv 0) (bv 5) (fun _ _ => rfl))) (bpg_name (i := 6) nd_law_is_hedge rfl (Or.inl rfl) (by first | exact .inl rfl | exact .inr rfl | assumption))
   (bpss_one (bps_if (bpt_cmpR (op_notInTx (K := K) rfl hr.units) (bv 6) (bv 3) (by rfl)) (bpss_one (bps_ret bpe_bl)) bpss_nil)) (by intro _; rfl)))) (by intro _; rfl))
  (bpss_one (bps_ret bpe_bl))))
  exact fn_d (f := F_law_is_hedge) ((ss_seq (ss_if (st_or (st_not (st_tru (se_isi (se_var 3) kit_list))) (st_or (st_t (se_op so_inTx (se_var 1) (se_var 3))) (st_t (se_op so_inTx (se_var 2) (se_var 3))))) (ss_ret (se_c fun _ => rp_mk_bool)) ss_nil) (ss_seq (ss_for (si_enum (sa_cons (se_var 3) sa_nil)) (sg_tup (sgs_cons (sgs_cons sgs_nil))) (ss_seq (ss_if (st_or (st_not (st_tru (se_isi (se_var 5) kit_str))) (st_or (st_b (se_dnotin (se_var 5) (se_var 0))) (st_t (se_op so_inTx (se_var 5) (se_sl (se_var 3) sp_none (sp_some (se_var 4))))))) (ss_ret (se_c fun _ => rp_mk_bool)) ss_nil) (ss_for (si_seq (se_dgetv (se_var 5))) sg_name (ss_if (st_t (se_op so_inTx (se_var 6) (se_var 3))) (ss_ret (se_c fun _ => rp_mk_bool)) ss_nil)))) (ss_ret (se_c fun _ => rp_mk_bool))))) h
theorem ok_law_is {f : Addr} {fd : FuncData} (F : Fun K "_law_is" "_law_is" s_law_is f fd) (T : Txt mg)  : FnOk P w K mg base CX0 1 f fd ["_law_found", "_law_due"] (spD 2 G_law_is) := by
  refine F.ok sc_law_is (fun vs H Q E h => spD_len h) (fun cdv A outer s H vs Q E hr h => ?_)
  have hu := hu_of hr
  apply Exists.intro
  apply And.intro
  · refine' Bx.out (bpss_one (bps_ret (bpe_and (bpe_callB (call_isiK (K := K) rfl) (by rfl) T.isinstance boot_isinstance (bpa_consF (bv 0) (bpa_consF (bpe_bltn (v := .ty "bool") (by rfl) T.bool boot_bool rfl (by decide) (by decide)) bpa_nil (by rfl)) (by rfl)) (by decide) (by decide) (star_each (by rfl)) (by rfl)) (bpe_one (bpe_cmpR (op_eqA (K := K) rfl hr.units) (bv 0) (bv 1) (nomark _))))))
  exact fn_d (f := F_law_is) ((ss_ret (se_and (se_isi (se_var 0) kit_bool) (se_op so_eq (se_var 0) (se_var 1))))) h
end
end Bc

namespace Bc
open PySem L2
/-! ### k09: whatever is looked at as a road -/
theorem eqv_str {d : PyData} {z : Str} : PyData.eqv d (.str z) = true ↔ d = .str z := by
  cases d <;> simp [PyData.eqv]
theorem eqv_strF {d : PyData} {z : Str} : PyData.eqv d (.str z) = false ↔ d ≠ .str z := by
  rw [← Bool.not_eq_true, eqv_str]
def knB (N : List Str) : PyData → Bool
  | .str z => decide (z ∈ N)
  | _ => false
def memS (ds : List PyData) (k : Str) : Bool := ds.any fun e => PyData.eqv e (.str k)
theorem memS_strs (xs : List Str) (k : Str) : memS (xs.map .str) k = decide (k ∈ xs) := any_strs xs k
theorem any_known (N : List Str) (d : PyData) : ((N.map PyData.str).any fun e => PyData.eqv e d) = knB N d := by
  cases d with
  | str z => exact any_strs N z
  | _ =>
    rw [List.any_map]
    exact List.any_eq_false.mpr fun x _ => by simp [PyData.eqv]
section
variable {a b : EF} {env : DEnv}
theorem e_eqT {neg : Bool} {d e : PyData} {f1 f2 : Bool} {b1 b2 : List Nat} (ha : a env = some ⟨d, f1, b1⟩) (hb : b env = some ⟨e, f2, b2⟩) (h : isStr d = true ∨ isStr e = true) : eOp (eqTD neg) a b env = some (vb (if neg then !PyData.eqv d e else PyData.eqv d e)) := by
  unfold eOp; rw [ha, hb]
  simp only [Option.bind_some, eqTD]
  rw [if_pos h]; rfl
theorem e_inT {neg : Bool} {d c : PyData} {ds : List PyData} {f1 f2 : Bool} {b1 b2 : List Nat} (ha : a env = some ⟨d, f1, b1⟩) (hb : b env = some ⟨c, f2, b2⟩) (hi : itemsD c = some ds) (h : isStr d = true ∨ ds.all isStr = true) : eOp (inTD neg) a b env = some (vb (if neg then !(ds.any fun e => PyData.eqv e d) else ds.any fun e => PyData.eqv e d)) := by
  unfold eOp; rw [ha, hb]
  simp only [Option.bind_some, inTD]
  rw [hi]
  simp only
  rw [if_pos h]; rfl
end
theorem all_isStr (xs : List Str) : (xs.map PyData.str).all isStr = true := by
  rw [List.all_map]; exact List.all_eq_true.mpr fun _ _ => rfl
/-- from c by the things: where it leads -/
def goR (W : Web) : Str → List PyData → Option Str
  | c, [] => some c
  | c, .str n :: r => if n ∈ upL W c then goR W n r else none
  | _, _ :: _ => none
def roadOf (W : Web) (k o : Str) : PyData → Bool
  | .list (.str c :: r) => (c == k) && (match goR W c r with | some z => z == o | none => false)
  | _ => false
theorem goR_walk {W : Web} : ∀ {r : List PyData} {c z : Str}, goR W c r = some z → ∃ q : List Str, r = q.map .str ∧ Walk W c q z
  | [], c, z, h => by
    cases h
    exact ⟨[], rfl, rfl⟩
  | d :: r, c, z, h => by
    cases d with
    | str n =>
      unfold goR at h
      split at h
      · rename_i hn
        obtain ⟨q, rfl, w⟩ := goR_walk h
        exact ⟨n :: q, rfl, hn, w⟩
      · cases h
    | _ => cases h
theorem goR_last {W : Web} {r : List PyData} {c z : Str} (h : goR W c r = some z) : (PyData.str c :: r).getLast (by simp) = .str z := by
  obtain ⟨q, rfl, w⟩ := goR_walk h
  have := walk_last w
  have e := strs_last (l := c :: q) (by simp)
  rw [this] at e
  exact e
theorem road_up {W : Web} (h : WebOk W) {k o : Str} {d : PyData} (hk : k ∈ nm W) (hr : roadOf W k o d = true) : o ∈ up W k := by
  unfold roadOf at hr
  split at hr
  · rename_i c r
    rw [Bool.and_eq_true] at hr
    have e : c = k := eq_of_beq hr.1
    subst e
    have h2 := hr.2
    split at h2
    · rename_i z hz
      have : z = o := eq_of_beq h2
      subst this
      obtain ⟨q, _, w⟩ := goR_walk hz
      exact walk_up h hk w
    · cases h2
  · cases hr
theorem eld_get {W : Web} {c : Str} (hc : c ∈ nm W) : dgetD (dS strsD W) (Sum.inr c) = some (strsD (upL W c)) := by
  obtain ⟨es, lk, _⟩ := lookup_nm hc
  rw [dget_dS, lk]
  unfold upL
  rw [lk]; rfl
/-- the law's own look -/
theorem law_road_loop {W : Web} (h : WebOk W) {K O T : Sl} : ∀ (r : List PyData) (c : Str) (s5 : Sl), c ∈ nm W →
    (∀ z, goR W c r = some z → ∃ s5', forL (gN 5) (sSeq (sIf (tBool (eOp (inTD true) (eVar 5) (eDGetV 0 (eVar 4)))) (sRet (eC (.bool false))) sNil) (sSet 4 (eVar 5))) r [.pl (.dict (dS strsD W)), K, O, T, .pl (.str c), s5] = some (.nx [.pl (.dict (dS strsD W)), K, O, T, .pl (.str z), s5'])) ∧
    (goR W c r = none → forL (gN 5) (sSeq (sIf (tBool (eOp (inTD true) (eVar 5) (eDGetV 0 (eVar 4)))) (sRet (eC (.bool false))) sNil) (sSet 4 (eVar 5))) r [.pl (.dict (dS strsD W)), K, O, T, .pl (.str c), s5] = some (.rt (.bool false) false))
  | [], c, s5, hc => ⟨fun z hz => by cases hz; exact ⟨s5, rfl⟩, fun hz => by cases hz⟩
  | d :: r, c, s5, hc => by
    have t : tBool (eOp (inTD true) (eVar 5) (eDGetV 0 (eVar 4))) [.pl (.dict (dS strsD W)), K, O, T, .pl (.str c), .pl d] = some (!knB (upL W c) d) := by
      have := t_bool (e_inT (neg := true) (a := eVar 5) (b := eDGetV 0 (eVar 4)) (env := [.pl (.dict (dS strsD W)), K, O, T, .pl (.str c), .pl d]) (d := d) (c := strsD (upL W c)) (ds := (upL W c).map .str) (f1 := false) (f2 := false) (b1 := []) (b2 := []) rfl (e_getV (.inl rfl) rfl (eld_get hc)) rfl (.inr (all_isStr _)))
      rw [any_known] at this
      exact this
    have no : knB (upL W c) d = false → forL (gN 5) (sSeq (sIf (tBool (eOp (inTD true) (eVar 5) (eDGetV 0 (eVar 4)))) (sRet (eC (.bool false))) sNil) (sSet 4 (eVar 5))) (d :: r) [.pl (.dict (dS strsD W)), K, O, T, .pl (.str c), s5] = some (.rt (.bool false) false) := fun hf => by
      rw [hf] at t
      unfold forL
      show Option.bind (sSeq _ _ [.pl (.dict (dS strsD W)), K, O, T, .pl (.str c), .pl d]) _ = _
      rw [seq_rt (if_t t rfl)]
      rfl
    cases d with
    | str n =>
      unfold goR
      by_cases hn : n ∈ upL W c
      · rw [if_pos hn]
        have hnn := (eld_lt h hn).1
        have t' := t
        rw [show knB (upL W c) (.str n) = true from decide_eq_true hn] at t'
        have st : forL (gN 5) (sSeq (sIf (tBool (eOp (inTD true) (eVar 5) (eDGetV 0 (eVar 4)))) (sRet (eC (.bool false))) sNil) (sSet 4 (eVar 5))) (.str n :: r) [.pl (.dict (dS strsD W)), K, O, T, .pl (.str c), s5] = forL (gN 5) (sSeq (sIf (tBool (eOp (inTD true) (eVar 5) (eDGetV 0 (eVar 4)))) (sRet (eC (.bool false))) sNil) (sSet 4 (eVar 5))) r [.pl (.dict (dS strsD W)), K, O, T, .pl (.str n), .pl (.str n)] := by
          conv => lhs; unfold forL
          show Option.bind (sSeq _ _ [.pl (.dict (dS strsD W)), K, O, T, .pl (.str c), .pl (.str n)]) _ = _
          rw [seq_nx (if_f t' rfl) (set_is (r := vs n) rfl)]
          rfl
        rw [st]
        exact law_road_loop h r n (.pl (.str n)) hnn
      · rw [if_neg hn]
        exact ⟨fun z hz => (nomatch hz), fun _ => no (decide_eq_false hn)⟩
    | _ => exact ⟨fun z hz => (nomatch hz), fun _ => no rfl⟩
theorem isList_no {k o : Sl} {D : Sl} {d : PyData} {f : TF} (h : ∀ ds, d ≠ .list ds) : tOrF (tNotF (tTru (eIsi "list" (eVar 3)))) f [D, k, o, .pl d, .no, .no] = some true := by
  cases d with
  | list ds => exact absurd rfl (h ds)
  | _ => rfl
theorem g_law_is_road {W : Web} (h : WebOk W) {k o : Str} (hk : k ∈ nm W) (d : PyData) : G_law_is_road [.dict (dS strsD W), .str k, .str o, d] = some (.bool (roadOf W k o d), false) := by
  by_cases hd : ∃ ds, d = .list ds
  · obtain ⟨ds, rfl⟩ := hd
    cases ds with
    | nil => exact fn_rt rfl (seq_rt (if_t rfl rfl))
    | cons x r =>
      have t0 : tBool (eOp (eqTD true) (eIxV 3 (eC (.int 0))) (eVar 1)) [.pl (.dict (dS strsD W)), .pl (.str k), .pl (.str o), .pl (.list (x :: r)), .no, .no] = some (!PyData.eqv x (.str k)) :=
        t_bool (e_eqT (neg := true) (f1 := false) (f2 := false) (b1 := []) (b2 := []) (e_ixV (n := 0) rfl rfl rfl) rfl (.inr rfl))
      have t1 : tOrF (tNotF (tTru (eIsi "list" (eVar 3)))) (tOrF (tBool (eOp eqD (eCB lenD (aCons (eVar 3) aNil)) (eC (.int 0)))) (tBool (eOp (eqTD true) (eIxV 3 (eC (.int 0))) (eVar 1)))) [.pl (.dict (dS strsD W)), .pl (.str k), .pl (.str o), .pl (.list (x :: r)), .no, .no] = some (!PyData.eqv x (.str k)) := by
        have l0 : tBool (eOp eqD (eCB lenD (aCons (eVar 3) aNil)) (eC (.int 0))) [.pl (.dict (dS strsD W)), .pl (.str k), .pl (.str o), .pl (.list (x :: r)), .no, .no] = some false := by
          rw [t_bool (e_eqi (e_lenL (fr := false) (bs := []) rfl) rfl)]
          congr 1
        unfold tOrF
        rw [show tNotF (tTru (eIsi "list" (eVar 3))) [.pl (.dict (dS strsD W)), .pl (.str k), .pl (.str o), .pl (.list (x :: r)), .no, .no] = some false from rfl, Option.bind_some, if_neg (by decide), l0, Option.bind_some, if_neg (by decide), t0]
      cases hx : PyData.eqv x (.str k) with
      | false =>
        rw [hx] at t1
        have : roadOf W k o (.list (x :: r)) = false := by
          have := eqv_strF.mp hx
          unfold roadOf
          split
          · rename_i c r' e
            cases e
            have : c ≠ k := fun e => this (by rw [e])
            simp [this]
          · rfl
        rw [this]
        exact fn_rt rfl (seq_rt (if_t t1 rfl))
      | true =>
        rw [hx] at t1
        have e := eqv_str.mp hx
        subst e
        have cut : cutD (PyData.str k :: r) (some 1) none = r := by
          unfold cutD
          have e1 : HT.sIx (PyData.str k :: r).length 0 (some 1) = 1 := by simp [HT.sIx]
          have e2 : HT.sIx (PyData.str k :: r).length (PyData.str k :: r).length none = (PyData.str k :: r).length := rfl
          rw [e1, e2]
          simp
        have it : iItems (eSl (eVar 3) (pSome (eC (.int 1))) pNone) [.pl (.dict (dS strsD W)), .pl (.str k), .pl (.str o), .pl (.list (.str k :: r)), .pl (.str k), .no] = some (r, []) := by
          unfold iItems
          rw [show eSl (eVar 3) (pSome (eC (.int 1))) pNone [.pl (.dict (dS strsD W)), .pl (.str k), .pl (.str o), .pl (.list (.str k :: r)), .pl (.str k), .no] = some ⟨.list (cutD (PyData.str k :: r) (some 1) none), true, bsOf (.list (cutD (PyData.str k :: r) (some 1) none)) []⟩ from rfl, cut]
          rfl
        have lp := law_road_loop h (K := .pl (.str k)) (O := .pl (.str o)) (T := .pl (.list (.str k :: r))) r k .no hk
        have rb : roadOf W k o (.list (.str k :: r)) = (match goR W k r with | some z => z == o | none => false) := by
          unfold roadOf; simp
        rw [rb]
        cases hg : goR W k r with
        | none => exact fn_rt rfl (seq_nx (if_f t1 rfl) (seq_nx (set_is (r := vs k) rfl) (seq_rt (for_is it (lp.2 hg)))))
        | some z =>
          obtain ⟨s5, l1⟩ := lp.1 z hg
          refine fn_rt rfl (seq_nx (if_f t1 rfl) (seq_nx (set_is (r := vs k) rfl) (seq_nx (for_is it l1) (ret_is (bs := []) ?_))))
          rw [e_eqT (neg := false) (d := .str z) (e := .str o) (f1 := false) (f2 := false) (b1 := []) (b2 := []) rfl rfl (.inr rfl)]
          simp [PyData.eqv]
  · have hd' : ∀ ds, d ≠ .list ds := fun ds e => hd ⟨ds, e⟩
    have : roadOf W k o d = false := by
      cases d with
      | list ds => exact absurd rfl (hd' ds)
      | _ => rfl
    rw [this]
    exact fn_rt rfl (seq_rt (if_t (isList_no hd') rfl))
end Bc

namespace Bc
open PySem L2
abbrev roadBody : SF := sIf (tBool (eOp (inTD true) (eIxV 3 (eVar 5)) (eDGetV 4 (eIxV 3 (eOp subD (eVar 5) (eC (.int 1))))))) (sRet (eC (.bool false))) sNil
theorem road_loop {W : Web} (h : WebOk W) {A B C : Sl} {ds : List PyData} : ∀ (r pre : List PyData) (c : Str) (s5 : Sl), ds = pre ++ .str c :: r → c ∈ nm W →
    ((goR W c r).isSome = true → ∃ s5', forL (gN 5) roadBody ((List.range r.length).map fun (k : Nat) => PyData.int ((pre.length + 1 + k : Nat) : Int)) [A, B, C, .pl (.list ds), .ac (.dict (dS strsD W)), s5] = some (.nx [A, B, C, .pl (.list ds), .ac (.dict (dS strsD W)), s5'])) ∧
    (goR W c r = none → forL (gN 5) roadBody ((List.range r.length).map fun (k : Nat) => PyData.int ((pre.length + 1 + k : Nat) : Int)) [A, B, C, .pl (.list ds), .ac (.dict (dS strsD W)), s5] = some (.rt (.bool false) false))
  | [], pre, c, s5, hd, hc => ⟨fun _ => ⟨s5, rfl⟩, fun hz => by cases hz⟩
  | d :: r, pre, c, s5, hd, hc => by
    have e1 : ds[pre.length]? = some (.str c) := by rw [hd]; simp
    have e2 : ds[pre.length + 1]? = some d := by rw [hd]; simp
    have t : tBool (eOp (inTD true) (eIxV 3 (eVar 5)) (eDGetV 4 (eIxV 3 (eOp subD (eVar 5) (eC (.int 1)))))) [A, B, C, .pl (.list ds), .ac (.dict (dS strsD W)), .pl (.int ((pre.length + 1 : Nat) : Int))] = some (!knB (upL W c) d) := by
      have i1 : eIxV 3 (eVar 5) [A, B, C, .pl (.list ds), .ac (.dict (dS strsD W)), .pl (.int ((pre.length + 1 : Nat) : Int))] = some ⟨d, false, []⟩ := e_ixV rfl rfl e2
      have i2 : eIxV 3 (eOp subD (eVar 5) (eC (.int 1))) [A, B, C, .pl (.list ds), .ac (.dict (dS strsD W)), .pl (.int ((pre.length + 1 : Nat) : Int))] = some (vs c) := by
        refine e_ixV (n := pre.length) rfl ?_ e1
        rw [e_sub (i := ((pre.length + 1 : Nat) : Int)) (j := 1) rfl rfl]
        congr 2
        have : ((pre.length + 1 : Nat) : Int) - 1 = (pre.length : Int) := by omega
        rw [this]
      have := t_bool (e_inT (neg := true) (c := strsD (upL W c)) (ds := (upL W c).map .str) (f2 := false) (b2 := []) i1 (e_getV (k := 4) (.inr rfl) i2 (eld_get hc)) rfl (.inr (all_isStr _)))
      rw [any_known] at this
      exact this
    have rg : ((List.range (d :: r).length).map fun (k : Nat) => PyData.int ((pre.length + 1 + k : Nat) : Int)) = PyData.int ((pre.length + 1 : Nat) : Int) :: ((List.range r.length).map fun (k : Nat) => PyData.int (((pre ++ [PyData.str c]).length + 1 + k : Nat) : Int)) := by
      rw [List.length_cons, List.range_succ_eq_map, List.map_cons, List.map_map]
      congr 1
      refine List.map_congr_left fun k _ => ?_
      simp only [Function.comp, List.length_append, List.length_cons, List.length_nil]
      congr 2
      omega
    rw [rg]
    have no : knB (upL W c) d = false → forL (gN 5) roadBody (PyData.int ((pre.length + 1 : Nat) : Int) :: ((List.range r.length).map fun (k : Nat) => PyData.int (((pre ++ [PyData.str c]).length + 1 + k : Nat) : Int))) [A, B, C, .pl (.list ds), .ac (.dict (dS strsD W)), s5] = some (.rt (.bool false) false) := fun hf => by
      rw [hf] at t
      unfold forL
      show Option.bind (sIf _ _ _ [A, B, C, .pl (.list ds), .ac (.dict (dS strsD W)), .pl (.int ((pre.length + 1 : Nat) : Int))]) _ = _
      rw [if_t t rfl]
      rfl
    cases d with
    | str n =>
      unfold goR
      by_cases hn : n ∈ upL W c
      · rw [if_pos hn]
        have hnn := (eld_lt h hn).1
        have t' := t
        rw [show knB (upL W c) (.str n) = true from decide_eq_true hn] at t'
        have ih := road_loop h (A := A) (B := B) (C := C) (ds := ds) r (pre ++ [.str c]) n (.pl (.int ((pre.length + 1 : Nat) : Int))) (by rw [hd]; simp) hnn
        have st : ∀ l, forL (gN 5) roadBody (PyData.int ((pre.length + 1 : Nat) : Int) :: l) [A, B, C, .pl (.list ds), .ac (.dict (dS strsD W)), s5] = forL (gN 5) roadBody l [A, B, C, .pl (.list ds), .ac (.dict (dS strsD W)), .pl (.int ((pre.length + 1 : Nat) : Int))] := fun l => by
          conv => lhs; unfold forL
          show Option.bind (sIf _ _ _ [A, B, C, .pl (.list ds), .ac (.dict (dS strsD W)), .pl (.int ((pre.length + 1 : Nat) : Int))]) _ = _
          rw [if_f t' rfl]
          rfl
        rw [st]
        exact ih
      · rw [if_neg hn]
        exact ⟨fun hz => (nomatch hz), fun _ => no (decide_eq_false hn)⟩
    | _ => exact ⟨fun hz => (nomatch hz), fun _ => no rfl⟩
theorem g_is_road_any {W : Web} (h : WebOk W) {k o : Str} (hk : k ∈ nm W) (ho : o ∈ nm W) (d : PyData) (hl : ∀ ds, d = .list ds → ds.length < 300) : G_is_road_k09 [webD W, .str k, .str o, d] = some (.bool (roadOf W k o d), false) := by
  have ck := chk2 h hk ho (env := [.pl (webD W), .pl (.str k), .pl (.str o), .pl d, .no, .no]) rfl rfl rfl
  by_cases hd : ∃ ds, d = .list ds
  · obtain ⟨ds, rfl⟩ := hd
    cases ds with
    | nil => exact fn_rt rfl (seq_nx ck (seq_rt (if_t rfl rfl)))
    | cons x r =>
      have hl := hl _ rfl
      have i1 : tOrF (tNotF (tTru (eIsi "list" (eVar 3)))) (tNotF (tTru (eVar 3))) [.pl (webD W), .pl (.str k), .pl (.str o), .pl (.list (x :: r)), .no, .no] = some false := rfl
      have f1 : tBool (eOp (eqTD true) (eIxV 3 (eC (.int 0))) (eVar 1)) [.pl (webD W), .pl (.str k), .pl (.str o), .pl (.list (x :: r)), .no, .no] = some (!PyData.eqv x (.str k)) :=
        t_bool (e_eqT (neg := true) (f1 := false) (f2 := false) (b1 := []) (b2 := []) (e_ixV (n := 0) rfl rfl rfl) rfl (.inr rfl))
      have f2 : tBool (eOp (eqTD true) (eIxV 3 (eNeg (eC (.int 1)))) (eVar 2)) [.pl (webD W), .pl (.str k), .pl (.str o), .pl (.list (x :: r)), .no, .no] = some (!PyData.eqv ((x :: r).getLast (by simp)) (.str o)) :=
        t_bool (e_eqT (neg := true) (f1 := false) (f2 := false) (b1 := []) (b2 := []) (e_lastP rfl (by simp)) rfl (.inr rfl))
      have i2 : tOrF (tBool (eOp (eqTD true) (eIxV 3 (eC (.int 0))) (eVar 1))) (tBool (eOp (eqTD true) (eIxV 3 (eNeg (eC (.int 1)))) (eVar 2))) [.pl (webD W), .pl (.str k), .pl (.str o), .pl (.list (x :: r)), .no, .no] = some (!(PyData.eqv x (.str k) && PyData.eqv ((x :: r).getLast (by simp)) (.str o))) := by
        unfold tOrF
        rw [f1, Option.bind_some, f2]
        cases PyData.eqv x (.str k) <;> cases PyData.eqv ((x :: r).getLast (by simp)) (.str o) <;> rfl
      cases hb : (PyData.eqv x (.str k) && PyData.eqv ((x :: r).getLast (by simp)) (.str o)) with
      | false =>
        rw [hb] at i2
        have : roadOf W k o (.list (x :: r)) = false := by
          cases hr : roadOf W k o (.list (x :: r)) with
          | false => rfl
          | true =>
            exfalso
            unfold roadOf at hr
            split at hr
            · rename_i c r' e
              cases e
              rw [Bool.and_eq_true] at hr
              have ec : c = k := eq_of_beq hr.1
              subst ec
              have h2 := hr.2
              split at h2
              · rename_i z hz
                have : z = o := eq_of_beq h2
                subst this
                rw [goR_last hz] at hb
                simp [PyData.eqv] at hb
              · cases h2
            · cases hr
        rw [this]
        exact fn_rt rfl (seq_nx ck (seq_nx (if_f i1 rfl) (seq_rt (if_t i2 rfl))))
      | true =>
        rw [hb] at i2
        rw [Bool.and_eq_true] at hb
        have ex := eqv_str.mp hb.1
        subst ex
        have s4 : sSet 4 (eCB dictD (aCons (eVar 0) aNil)) [.pl (webD W), .pl (.str k), .pl (.str o), .pl (.list (.str k :: r)), .no, .no] = some (.nx [.pl (webD W), .pl (.str k), .pl (.str o), .pl (.list (.str k :: r)), .ac (.dict (dS strsD W)), .no]) := by
          refine set_is (r := ⟨.dict (dS strsD W), true, []⟩) ?_
          unfold eCB
          rw [args1 (r := ⟨webD W, false, []⟩) rfl]
          show ((dictD [webD W]).bind _) = _
          rw [dict_web h.nd]; rfl
        have hlr : r.length + 1 < 300 := hl
        have it : iRange2 (aCons (eC (.int 1)) (aCons (eCB lenD (aCons (eVar 3) aNil)) aNil)) [.pl (webD W), .pl (.str k), .pl (.str o), .pl (.list (.str k :: r)), .ac (.dict (dS strsD W)), .no] = some ((List.range r.length).map (fun (k : Nat) => PyData.int ((([] : List PyData).length + 1 + k : Nat) : Int)), []) := by
          rw [it2 (i := 1) (j := ((r.length + 1 : Nat) : Int)) rfl (e_lenL (ds := .str k :: r) (fr := false) (bs := []) rfl) ⟨c1, c2, c3 (by omega), c4 (by omega)⟩]
          have : (((r.length + 1 : Nat) : Int) - 1).toNat = r.length := by omega
          rw [this, range1_map]
          congr 2
          refine List.map_congr_left fun k _ => ?_
          congr 2
          simp; omega
        have lp := road_loop h (A := .pl (webD W)) (B := .pl (.str k)) (C := .pl (.str o)) (ds := .str k :: r) r [] k .no rfl hk
        have rb : roadOf W k o (.list (.str k :: r)) = (goR W k r).isSome := by
          unfold roadOf
          cases hg : goR W k r with
          | none => simp [hg]
          | some z =>
            have := goR_last hg
            have h2 := hb.2
            rw [this, eqv_str] at h2
            cases h2
            simp [hg]
        rw [rb]
        cases hg : goR W k r with
        | none => exact fn_rt rfl (seq_nx ck (seq_nx (if_f i1 rfl) (seq_nx (if_f i2 rfl) (seq_nx s4 (seq_rt (for_is it (lp.2 hg)))))))
        | some z =>
          obtain ⟨s5, l1⟩ := lp.1 (by rw [hg]; rfl)
          exact fn_rt rfl (seq_nx ck (seq_nx (if_f i1 rfl) (seq_nx (if_f i2 rfl) (seq_nx s4 (seq_nx (for_is it l1) rfl)))))
  · have hd' : ∀ ds, d ≠ .list ds := fun ds e => hd ⟨ds, e⟩
    have : roadOf W k o d = false := by
      cases d with
      | list ds => exact absurd rfl (hd' ds)
      | _ => rfl
    rw [this]
    exact fn_rt rfl (seq_nx ck (seq_rt (if_t (isList_no hd') rfl)))
end Bc

namespace Bc
open PySem L2
/-! ### k09: whatever is looked at as a hedge -/
def unS : List PyData → Option (List Str)
  | [] => some []
  | .str x :: r => (unS r).map fun xs => x :: xs
  | _ :: _ => none
theorem unS_some : ∀ {ds : List PyData} {xs : List Str}, unS ds = some xs → ds = xs.map .str
  | [], xs, h => by cases h; rfl
  | d :: r, xs, h => by
    cases d with
    | str x =>
      obtain ⟨ys, hy, rfl⟩ := Option.map_eq_some_iff.mp h
      rw [unS_some hy]; rfl
    | _ => cases h
theorem unS_none : ∀ {ds : List PyData}, unS ds = none → ∃ d ∈ ds, isStr d = false
  | [], h => by cases h
  | d :: r, h => by
    cases d with
    | str x =>
      have : unS r = none := by
        cases hr : unS r with
        | none => rfl
        | some xs => unfold unS at h; rw [hr] at h; cases h
      obtain ⟨e, he, f⟩ := unS_none this
      exact ⟨e, List.mem_cons_of_mem _ he, f⟩
    | _ => exact ⟨_, List.mem_cons_self, rfl⟩
def hedgeOf (W : Web) (k o : Str) : PyData → Bool
  | .list ds => match unS ds with
    | some xs => isH W k o xs
    | none => false
  | _ => false
/-- what the law's own loop asks of the item at a number -/
def itB (W : Web) (ds : List PyData) (p : PyData × Nat) : Bool := match p.1 with
  | .str n => (decide (n ∈ nm W) && !memS (ds.take p.2) n) && (upL W n).all fun e => memS ds e
  | _ => false
theorem itB_no {W : Web} {ds : List PyData} {d : PyData} (h : isStr d = false) (i : Nat) : itB W ds (d, i) = false := by
  cases d <;> first
    | rfl
    | exact absurd (show true = false from h) (by decide)
theorem mem_zip {α : Type} {l : List α} {x : α} (h : x ∈ l) : ∃ i, (x, i) ∈ l.zipIdx := by
  obtain ⟨i, hi⟩ := List.getElem?_of_mem h
  exact ⟨i, List.mem_zipIdx_iff_getElem?.mpr hi⟩
theorem hedge_same (W : Web) (k o : Str) (ds : List PyData) : ((memS ds k && !memS ds o) && ds.zipIdx.all (itB W ds)) = hedgeOf W k o (.list ds) := by
  show _ = (match unS ds with | some xs => isH W k o xs | none => false)
  cases hu : unS ds with
  | none =>
    obtain ⟨d, hd, f⟩ := unS_none hu
    obtain ⟨i, hi⟩ := mem_zip hd
    have : ds.zipIdx.all (itB W ds) = false := by
      rw [← Bool.not_eq_true, List.all_eq_true]
      intro h
      have := h _ hi
      rw [itB_no f] at this
      cases this
    rw [this, Bool.and_false]
  | some xs =>
    have e := unS_some hu
    subst e
    show _ = isH W k o xs
    rw [memS_strs, memS_strs]
    unfold isH
    rw [Bool.eq_iff_iff]
    simp only [Bool.and_eq_true, List.all_eq_true, decide_eq_true_eq]
    constructor
    · rintro ⟨⟨hk, ho⟩, ha⟩
      have get : ∀ (i : Nat) (hi : i < xs.length), xs[i] ∈ nm W ∧ xs[i] ∉ xs.take i ∧ ∀ e ∈ upL W xs[i], e ∈ xs := fun i hi => by
        have hm : (PyData.str xs[i], i) ∈ (xs.map PyData.str).zipIdx := List.mem_zipIdx_iff_getElem?.mpr (by simp [hi])
        have := ha _ hm
        unfold itB at this
        simp only [Bool.and_eq_true, List.all_eq_true, decide_eq_true_eq, ← List.map_take, memS_strs, Bool.not_eq_true', decide_eq_false_iff_not] at this
        exact ⟨this.1.1, this.1.2, this.2⟩
      refine ⟨⟨fun x hx => ?_, ?_⟩, ⟨hk, ho⟩, fun x hx e he => ?_⟩
      · obtain ⟨i, hi, rfl⟩ := List.getElem_of_mem hx
        exact (get i hi).1
      · refine List.pairwise_iff_getElem.mpr fun i j hi hj hij e => ?_
        refine (get j hj).2.1 ?_
        rw [← e]
        exact List.mem_take_iff_getElem.mpr ⟨i, by omega, rfl⟩
      · obtain ⟨i, hi, rfl⟩ := List.getElem_of_mem hx
        exact (get i hi).2.2 e he
    · rintro ⟨⟨hn, nd⟩, ⟨hk, ho⟩, hc⟩
      refine ⟨⟨hk, ho⟩, fun p hp => ?_⟩
      obtain ⟨d, i⟩ := p
      have hp := List.mem_zipIdx_iff_getElem?.mp hp
      rw [List.getElem?_map] at hp
      obtain ⟨x, hx, rfl⟩ := Option.map_eq_some_iff.mp hp
      have hi : i < xs.length := (List.getElem?_eq_some_iff.mp hx).1
      have ex : xs[i] = x := (List.getElem?_eq_some_iff.mp hx).2
      have hm : x ∈ xs := List.mem_of_getElem? hx
      unfold itB
      simp only [Bool.and_eq_true, List.all_eq_true, decide_eq_true_eq, ← List.map_take, memS_strs, Bool.not_eq_true', decide_eq_false_iff_not]
      refine ⟨⟨hn x hm, fun ht => ?_⟩, fun e he => hc x hm e he⟩
      obtain ⟨j, hj, e⟩ := List.mem_take_iff_getElem.mp ht
      have := nd_inj nd (i := j) (j := i) (hi := by omega) (hj := hi) (by rw [e, ex])
      omega
theorem hedge_not_up {W : Web} (h : WebOk W) {k o : Str} {d : PyData} (hk : k ∈ nm W) (hh : hedgeOf W k o d = true) : ¬ o ∈ up W k := by
  unfold hedgeOf at hh
  split at hh
  · split at hh
    · rename_i xs hu
      unfold isH at hh
      simp only [Bool.and_eq_true, List.all_eq_true, decide_eq_true_eq, Bool.not_eq_true', decide_eq_false_iff_not] at hh
      obtain ⟨_, ⟨hkx, hox⟩, hc⟩ := hh
      have sub : ∀ (m : Nat) (n : Str), (nm W).idxOf n < m → n ∈ nm W → n ∈ xs → ∀ x ∈ up W n, x ∈ xs := fun m => by
        induction m with
        | zero => intro n h; omega
        | succ m ih =>
          intro n hm hn hx x hu
          rcases (up_eld h hn).mp hu with rfl | ⟨e, he, hxe⟩
          · exact hx
          · have := eld_lt h he
            exact ih e (by omega) this.1 (hc n hx e he) x hxe
      exact fun ho => hox (sub _ k (Nat.lt_succ_self _) hk hkx o ho)
    · cases hh
  · cases hh
theorem g_law_is_hedge {W : Web} (h : WebOk W) {k o : Str} (d : PyData) (hl : ∀ ds, d = .list ds → ds.length < 300) : G_law_is_hedge [.dict (dS strsD W), .str k, .str o, d] = some (.bool (hedgeOf W k o d), false) := by
  by_cases hd : ∃ ds, d = .list ds
  · obtain ⟨ds, rfl⟩ := hd
    have hl := hl _ rfl
    have f1 : tBool (eOp (inTD true) (eVar 1) (eVar 3)) [.pl (.dict (dS strsD W)), .pl (.str k), .pl (.str o), .pl (.list ds), .no, .no, .no] = some (!memS ds k) := t_bool (e_inT (neg := true) (f1 := false) (f2 := false) (b1 := []) (b2 := []) rfl rfl rfl (.inl rfl))
    have f2 : tBool (eOp (inTD false) (eVar 2) (eVar 3)) [.pl (.dict (dS strsD W)), .pl (.str k), .pl (.str o), .pl (.list ds), .no, .no, .no] = some (memS ds o) := t_bool (e_inT (neg := false) (f1 := false) (f2 := false) (b1 := []) (b2 := []) rfl rfl rfl (.inl rfl))
    have i1 : tOrF (tNotF (tTru (eIsi "list" (eVar 3)))) (tOrF (tBool (eOp (inTD true) (eVar 1) (eVar 3))) (tBool (eOp (inTD false) (eVar 2) (eVar 3)))) [.pl (.dict (dS strsD W)), .pl (.str k), .pl (.str o), .pl (.list ds), .no, .no, .no] = some (!(memS ds k && !memS ds o)) := by
      unfold tOrF
      rw [show tNotF (tTru (eIsi "list" (eVar 3))) [.pl (.dict (dS strsD W)), .pl (.str k), .pl (.str o), .pl (.list ds), .no, .no, .no] = some false from rfl, Option.bind_some, if_neg (by decide), f1, Option.bind_some, f2]
      cases memS ds k <;> cases memS ds o <;> rfl
    rw [← hedge_same]
    cases hb : (memS ds k && !memS ds o) with
    | false =>
      rw [hb] at i1
      exact fn_rt rfl (seq_rt (if_t i1 rfl))
    | true =>
      rw [hb] at i1
      rw [Bool.true_and]
      have lp := forL_find (enc := fun (p : PyData × Nat) => PyData.tuple [.int (p.2 : Int), p.1]) (g := gT 2 (gsCons 4 (gsCons 5 gsNil)))
        (body := (sSeq (sIf (tOrF (tNotF (tTru (eIsi "str" (eVar 5)))) (tOrF (tBool (eDIn true (eVar 5) (eVar 0))) (tBool (eOp (inTD false) (eVar 5) (eSl (eVar 3) pNone (pSome (eVar 4))))))) (sRet (eC (.bool false))) sNil) (sFor (iItems (eDGetV 0 (eVar 5))) (gN 6) (sIf (tBool (eOp (inTD true) (eVar 6) (eVar 3))) (sRet (eC (.bool false))) sNil))))
        (itB W ds) (.bool false) false (fun env => ∃ s4 s5 s6, env = [.pl (.dict (dS strsD W)), .pl (.str k), .pl (.str o), .pl (.list ds), s4, s5, s6]) ds.zipIdx [.pl (.dict (dS strsD W)), .pl (.str k), .pl (.str o), .pl (.list ds), .no, .no, .no] ⟨_, _, _, rfl⟩ (by
          rintro ⟨d, i⟩ hp env ⟨s4, s5, s6, rfl⟩
          have hi : i < ds.length := (List.getElem?_eq_some_iff.mp (List.mem_zipIdx_iff_getElem?.mp hp)).1
          refine ⟨[.pl (.dict (dS strsD W)), .pl (.str k), .pl (.str o), .pl (.list ds), .pl (.int (i : Int)), .pl d, s6], rfl, ?_⟩
          cases hs : isStr d with
          | false =>
            rw [itB_no hs]
            refine ⟨fun z => (nomatch z), fun _ => seq_rt (if_t (f := sRet (eC (.bool false))) ?_ rfl)⟩
            unfold tOrF
            rw [show tNotF (tTru (eIsi "str" (eVar 5))) [.pl (.dict (dS strsD W)), .pl (.str k), .pl (.str o), .pl (.list ds), .pl (.int (i : Int)), .pl d, s6] = some true from by cases d <;> first | rfl | (exact absurd (show true = false from hs) (by decide))]
            rfl
          | true =>
            obtain ⟨n, rfl⟩ := isStr_ex hs
            have sl : eSl (eVar 3) pNone (pSome (eVar 4)) [.pl (.dict (dS strsD W)), .pl (.str k), .pl (.str o), .pl (.list ds), .pl (.int (i : Int)), .pl (.str n), s6] = some ⟨.list (ds.take i), true, []⟩ := by
              rw [show eSl (eVar 3) pNone (pSome (eVar 4)) [.pl (.dict (dS strsD W)), .pl (.str k), .pl (.str o), .pl (.list ds), .pl (.int (i : Int)), .pl (.str n), s6] = some ⟨.list (cutD ds none (some (i : Int))), true, []⟩ from rfl, cut_pre ds i (by omega)]
            have g2 : tBool (eOp (inTD false) (eVar 5) (eSl (eVar 3) pNone (pSome (eVar 4)))) [.pl (.dict (dS strsD W)), .pl (.str k), .pl (.str o), .pl (.list ds), .pl (.int (i : Int)), .pl (.str n), s6] = some (memS (ds.take i) n) := t_bool (e_inT (neg := false) (f1 := false) (b1 := []) rfl sl rfl (.inl rfl))
            have g1 : tBool (eDIn true (eVar 5) (eVar 0)) [.pl (.dict (dS strsD W)), .pl (.str k), .pl (.str o), .pl (.list ds), .pl (.int (i : Int)), .pl (.str n), s6] = some (!decide (n ∈ nm W)) := by
              refine t_bool ?_
              show some (vb (!dhasD (dS strsD W) (Sum.inr n))) = _
              congr 3
              unfold dhasD
              rw [dget_dS, Option.isSome_map]
              by_cases hn : n ∈ nm W
              · obtain ⟨es, lk, _⟩ := lookup_nm hn
                rw [lk, decide_eq_true hn]; rfl
              · rw [lookup_none hn, decide_eq_false hn]; rfl
            have g0 : tOrF (tNotF (tTru (eIsi "str" (eVar 5)))) (tOrF (tBool (eDIn true (eVar 5) (eVar 0))) (tBool (eOp (inTD false) (eVar 5) (eSl (eVar 3) pNone (pSome (eVar 4)))))) [.pl (.dict (dS strsD W)), .pl (.str k), .pl (.str o), .pl (.list ds), .pl (.int (i : Int)), .pl (.str n), s6] = some (!(decide (n ∈ nm W) && !memS (ds.take i) n)) := by
              unfold tOrF
              rw [show tNotF (tTru (eIsi "str" (eVar 5))) [.pl (.dict (dS strsD W)), .pl (.str k), .pl (.str o), .pl (.list ds), .pl (.int (i : Int)), .pl (.str n), s6] = some false from rfl, Option.bind_some, if_neg (by decide), g1, Option.bind_some, g2]
              cases decide (n ∈ nm W) <;> cases memS (ds.take i) n <;> rfl
            have ib : itB W ds (.str n, i) = ((decide (n ∈ nm W) && !memS (ds.take i) n) && (upL W n).all fun e => memS ds e) := rfl
            rw [ib]
            cases hq : (decide (n ∈ nm W) && !memS (ds.take i) n) with
            | false =>
              rw [hq] at g0
              exact ⟨fun z => (nomatch z), fun _ => seq_rt (if_t g0 rfl)⟩
            | true =>
              rw [hq] at g0
              rw [Bool.true_and]
              have hn : n ∈ nm W := of_decide_eq_true (Bool.and_eq_true_iff.mp hq).1
              have it : iItems (eDGetV 0 (eVar 5)) [.pl (.dict (dS strsD W)), .pl (.str k), .pl (.str o), .pl (.list ds), .pl (.int (i : Int)), .pl (.str n), s6] = some ((upL W n).map .str, []) := by
                unfold iItems
                rw [e_getV (k := 0) (.inl rfl) rfl (eld_get hn)]; rfl
              have inn := forL_find (enc := PyData.str) (g := gN 6) (body := sIf (tBool (eOp (inTD true) (eVar 6) (eVar 3))) (sRet (eC (.bool false))) sNil) (fun e => memS ds e) (.bool false) false (fun env => ∃ s6, env = [.pl (.dict (dS strsD W)), .pl (.str k), .pl (.str o), .pl (.list ds), .pl (.int (i : Int)), .pl (.str n), s6]) (upL W n) [.pl (.dict (dS strsD W)), .pl (.str k), .pl (.str o), .pl (.list ds), .pl (.int (i : Int)), .pl (.str n), s6] ⟨_, rfl⟩ (by
                rintro e he env ⟨s6, rfl⟩
                have t6 : tBool (eOp (inTD true) (eVar 6) (eVar 3)) [.pl (.dict (dS strsD W)), .pl (.str k), .pl (.str o), .pl (.list ds), .pl (.int (i : Int)), .pl (.str n), .pl (.str e)] = some (!memS ds e) := t_bool (e_inT (neg := true) (f1 := false) (f2 := false) (b1 := []) (b2 := []) rfl rfl rfl (.inl rfl))
                refine ⟨_, rfl, fun hm => ?_, fun hm => ?_⟩
                · rw [hm] at t6
                  exact ⟨_, if_f t6 rfl, _, rfl⟩
                · rw [hm] at t6
                  exact if_t t6 rfl)
              refine ⟨fun ha => ?_, fun ha => seq_nx (if_f g0 rfl) (for_is it (inn.2 ha))⟩
              obtain ⟨env', l1, s6', rfl⟩ := inn.1 ha
              exact ⟨_, seq_nx (if_f g0 rfl) (for_is it l1), _, _, _, rfl⟩)
      have it : iEnumF (aCons (eVar 3) aNil) [.pl (.dict (dS strsD W)), .pl (.str k), .pl (.str o), .pl (.list ds), .no, .no, .no] = some (ds.zipIdx.map fun (p : PyData × Nat) => PyData.tuple [.int (p.2 : Int), p.1], []) := rfl
      cases ha : ds.zipIdx.all (itB W ds) with
      | false => exact fn_rt rfl (seq_nx (if_f i1 rfl) (seq_rt (for_is it (lp.2 ha))))
      | true =>
        obtain ⟨env', l1, _⟩ := lp.1 ha
        exact fn_rt rfl (seq_nx (if_f i1 rfl) (seq_nx (for_is it l1) rfl))
  · have hd' : ∀ ds, d ≠ .list ds := fun ds e => hd ⟨ds, e⟩
    have : hedgeOf W k o d = false := by
      cases d with
      | list ds => exact absurd rfl (hd' ds)
      | _ => rfl
    rw [this]
    refine fn_rt rfl (seq_rt (if_t (f := sRet (eC (.bool false))) ?_ rfl))
    cases d with
    | list ds => exact absurd rfl (hd' ds)
    | _ => rfl
theorem g_unlike_any {N : List Str} {ds : List PyData} (hl : ds.length < 4000) : G_are_unlike_of_k09 [strsD N, .list ds] = some (.bool (match unS ds with | some xs => (xs.all fun x => decide (x ∈ N)) && decide xs.Nodup | none => false), false) := by
  have c : compL (gN 0) tAllF (eOp (inTD false) (eVar 0) (eVar 1)) [.no, .pl (strsD N)] (ds.map id) = some (ds.map fun d => PyData.bool (knB N d)) := by
    refine compL_map (enc := id) (out := fun d => PyData.bool (knB N d)) fun d _ => ⟨[.pl d, .pl (strsD N)], rfl, rfl, vb (knB N d), ?_, rfl⟩
    rw [e_inT (neg := false) (c := strsD N) (ds := N.map .str) (f1 := false) (f2 := false) (b1 := []) (b2 := []) rfl rfl rfl (.inr (all_isStr _)), any_known]
    rfl
  rw [List.map_id] at c
  have al := e_all (f := knB N) (comp_is (env := [.pl (strsD N), .pl (.list ds)]) (own := ["thing"]) (fr := [0]) (fi := iItems (eVar 1)) (ds := ds) (bs := []) rfl (by omega) c)
  have t := tnot_t al
  cases hu : unS ds with
  | none =>
    obtain ⟨d, hd, f⟩ := unS_none hu
    have : ds.all (knB N) = false := by
      rw [← Bool.not_eq_true, List.all_eq_true]
      intro h
      have := h d hd
      cases d <;> first | cases this | (exact absurd (show true = false from f) (by decide))
    rw [this] at t
    exact fn_rt rfl (seq_rt (if_t t rfl))
  | some xs =>
    have e := unS_some hu
    subst e
    have ea : (xs.map PyData.str).all (knB N) = xs.all fun x => decide (x ∈ N) := by rw [List.all_map]; rfl
    rw [ea] at t
    show _ = some (PyData.bool ((xs.all fun x => decide (x ∈ N)) && decide xs.Nodup), false)
    cases hx : (xs.all fun x => decide (x ∈ N)) with
    | false =>
      rw [hx] at t
      exact fn_rt rfl (seq_rt (if_t t rfl))
    | true =>
      rw [hx] at t
      refine fn_rt rfl (seq_nx (if_f t rfl) (ret_is (bs := []) ?_))
      rw [List.length_map] at hl
      show eOp eqD (eLenSet (eVar 1)) (eCB lenD (aCons (eVar 1) aNil)) [.pl (strsD N), .pl (strsD xs)] = _
      have e1 : eLenSet (eVar 1) [.pl (strsD N), .pl (strsD xs)] = some (vi (unl [] (xs.map Sum.inr))) := by
        show ((keysD (xs.map .str)).bind fun ks => if (xs.map PyData.str).length < 4000 then some (⟨.int (unl [] ks), false, []⟩ : Val) else none) = _
        rw [keys_strs, Option.bind_some, if_pos (by rw [List.length_map]; exact hl)]
      have e2 : eCB lenD (aCons (eVar 1) aNil) [.pl (strsD N), .pl (strsD xs)] = some (vi (xs.map PyData.str).length) := e_lenL rfl
      rw [e_eqi e1 e2, Bool.true_and]
      have : (((unl [] (xs.map Sum.inr) : Nat) : Int) == (((xs.map PyData.str).length : Nat) : Int)) = decide xs.Nodup := by
        rw [Bool.eq_iff_iff, beq_iff_eq, decide_eq_true_iff, List.length_map]
        have q := unl_eq (xs.map Sum.inr) []
        rw [List.length_map] at q
        constructor
        · intro z; exact (nd_inr xs).mp (q.mp (by omega)).1
        · intro z
          have := q.mpr ⟨(nd_inr xs).mpr z, fun _ _ y => by simp at y⟩
          omega
      rw [this]
theorem g_is_hedge_any {W : Web} (h : WebOk W) {k o : Str} (hk : k ∈ nm W) (ho : o ∈ nm W) (d : PyData) (hl : ∀ ds, d = .list ds → ds.length < 300) : G_is_hedge_k09 [webD W, .str k, .str o, d] = some (.bool (hedgeOf W k o d), false) := by
  have hW : W.length ≤ 12 := h.len
  have ck := chk2 h hk ho (env := [.pl (webD W), .pl (.str k), .pl (.str o), .pl d, .no]) rfl rfl rfl
  by_cases hd : ∃ ds, d = .list ds
  · obtain ⟨ds, rfl⟩ := hd
    have hl := hl _ rfl
    have gu := g_unlike_any (N := nm W) (ds := ds) (by omega)
    have i1 : tOrF (tNotF (tTru (eIsi "list" (eVar 3)))) (tNotF (tTru (eCall 2 G_are_unlike_of_k09 (aCons (eCall 1 G_names_of (aCons (eVar 0) aNil)) (aCons (eVar 3) aNil))))) [.pl (webD W), .pl (.str k), .pl (.str o), .pl (.list ds), .no] = some (!(match unS ds with | some xs => (xs.all fun x => decide (x ∈ nm W)) && decide xs.Nodup | none => false)) := by
      have f1 : tNotF (tTru (eIsi "list" (eVar 3))) [.pl (webD W), .pl (.str k), .pl (.str o), .pl (.list ds), .no] = some false := rfl
      unfold tOrF
      rw [f1, Option.bind_some, if_neg (by decide)]
      exact tnot_t (call_is (n := 2) (rs := [⟨strsD (nm W), true, []⟩, ⟨.list ds, false, []⟩]) (args_cons (call_is (n := 1) (rs := [⟨webD W, false, []⟩]) rfl rfl (g_names_of (by omega))) (args1 rfl)) rfl gu)
    show _ = some (PyData.bool (match unS ds with | some xs => isH W k o xs | none => false), false)
    cases hu : unS ds with
    | none =>
      rw [hu] at i1
      exact fn_rt (env := [.pl (webD W), .pl (.str k), .pl (.str o), .pl (.list ds), .no]) rfl (seq_nx ck (seq_rt (if_t i1 rfl)))
    | some xs =>
      rw [hu] at i1
      have e := unS_some hu
      subst e
      rw [List.length_map] at hl
      have i1 : tOrF (tNotF (tTru (eIsi "list" (eVar 3)))) (tNotF (tTru (eCall 2 G_are_unlike_of_k09 (aCons (eCall 1 G_names_of (aCons (eVar 0) aNil)) (aCons (eVar 3) aNil))))) [.pl (webD W), .pl (.str k), .pl (.str o), .pl (strsD xs), .no] = some (!((xs.all fun x => decide (x ∈ nm W)) && decide xs.Nodup)) := i1
      show _ = some (PyData.bool (isH W k o xs), false)
      have mem : ∀ {a : EF} {env : DEnv} {x : Str} {neg : Bool} {b : EF}, a env = some (vs x) → b env = some ⟨strsD xs, false, []⟩ → eOp (inTD neg) a b env = some (vb (if neg then !decide (x ∈ xs) else decide (x ∈ xs))) := fun {a env x neg b} ha hb => by
        rw [e_inT (neg := neg) (c := strsD xs) (ds := xs.map .str) ha hb rfl (.inl rfl), any_strs]
      have i2 : tOrF (tBool (eOp (inTD true) (eVar 1) (eVar 3))) (tBool (eOp (inTD false) (eVar 2) (eVar 3))) [.pl (webD W), .pl (.str k), .pl (.str o), .pl (strsD xs), .no] = some (!(decide (k ∈ xs) && !decide (o ∈ xs))) := by
        have f1 : tBool (eOp (inTD true) (eVar 1) (eVar 3)) [.pl (webD W), .pl (.str k), .pl (.str o), .pl (strsD xs), .no] = some (!decide (k ∈ xs)) := t_bool (mem (neg := true) rfl rfl)
        have f2 : tBool (eOp (inTD false) (eVar 2) (eVar 3)) [.pl (webD W), .pl (.str k), .pl (.str o), .pl (strsD xs), .no] = some (decide (o ∈ xs)) := t_bool (mem (neg := false) rfl rfl)
        unfold tOrF
        rw [f1, Option.bind_some, f2]
        cases decide (k ∈ xs) <;> cases decide (o ∈ xs) <;> rfl
      unfold isH
      cases hA : (xs.all fun x => decide (x ∈ nm W)) && decide xs.Nodup with
      | false =>
        rw [hA] at i1
        exact fn_rt (env := [.pl (webD W), .pl (.str k), .pl (.str o), .pl (strsD xs), .no]) rfl (seq_nx ck (seq_rt (if_t i1 rfl)))
      | true =>
        rw [hA] at i1
        rw [Bool.true_and]
        cases hB : decide (k ∈ xs) && !decide (o ∈ xs) with
        | false =>
          rw [hB] at i2
          exact fn_rt (env := [.pl (webD W), .pl (.str k), .pl (.str o), .pl (strsD xs), .no]) rfl (seq_nx ck (seq_nx (if_f i1 rfl) (seq_rt (if_t i2 rfl))))
        | true =>
          rw [hB] at i2
          rw [Bool.true_and]
          have s4 : sSet 4 (eCB dictD (aCons (eVar 0) aNil)) [.pl (webD W), .pl (.str k), .pl (.str o), .pl (strsD xs), .no] = some (.nx [.pl (webD W), .pl (.str k), .pl (.str o), .pl (strsD xs), .ac (.dict (dS strsD W))]) := by
            refine set_is (r := ⟨.dict (dS strsD W), true, []⟩) ?_
            unfold eCB
            rw [args1 (r := ⟨webD W, false, []⟩) rfl]
            show ((dictD [webD W]).bind _) = _
            rw [dict_web h.nd]; rfl
          have c : compL2 (gN 0) tAllF (iItems (eDGetV 3 (eVar 0))) (gN 1) tAllF (eOp (inTD false) (eVar 1) (eVar 2)) [.no, .no, .pl (strsD xs), .pl (.dict (dS strsD W))] (xs.map .str) = some (xs.flatMap fun x => (upL W x).map fun e => .bool (decide (e ∈ xs))) := by
            refine compL2_flat fun x hx => ⟨[.pl (.str x), .no, .pl (strsD xs), .pl (.dict (dS strsD W))], rfl, rfl, ?_⟩
            have hxn : x ∈ nm W := by
              have := (Bool.and_eq_true _ _ ▸ hA).1
              exact of_decide_eq_true (List.all_eq_true.mp this x hx)
            obtain ⟨es, lk, hm⟩ := lookup_nm hxn
            have eu : upL W x = es := by unfold upL; rw [lk]; rfl
            have few : es.length ≤ 4 := h.few (x, es) hm
            rw [eu]
            unfold innL iItems
            rw [e_getV (d := strsD es) (.inl rfl) rfl (by rw [dget_dS, lk]; rfl)]
            show (if (es.map PyData.str).length < 300 then compL (gN 1) tAllF (eOp (inTD false) (eVar 1) (eVar 2)) [.pl (.str x), .no, .pl (strsD xs), .pl (.dict (dS strsD W))] (es.map .str) else none) = _
            rw [if_pos (by rw [List.length_map]; omega)]
            exact compL_map fun e _ => ⟨[.pl (.str x), .pl (.str e), .pl (strsD xs), .pl (.dict (dS strsD W))], rfl, rfl, vb (decide (e ∈ xs)), mem (neg := false) rfl rfl, rfl⟩
          rw [flat_bools (upL W) (fun _ e => decide (e ∈ xs))] at c
          have al := e_all (f := fun z : Str × Str => decide (z.2 ∈ xs)) (comp2_is (env := [.pl (webD W), .pl (.str k), .pl (.str o), .pl (strsD xs), .ac (.dict (dS strsD W))]) (own := ["name", "elder"]) (fr := [3, 4]) (fi := iItems (eVar 3)) (ds := xs.map .str) (bs := []) rfl (by rw [List.length_map]; exact hl) c)
          rw [all_flat (upL W) (fun _ e => decide (e ∈ xs))] at al
          exact fn_rt (env := [.pl (webD W), .pl (.str k), .pl (.str o), .pl (strsD xs), .no]) rfl (seq_nx ck (seq_nx (if_f i1 rfl) (seq_nx (if_f i2 rfl) (seq_nx s4 (ret_is (bs := []) al)))))
  · have hd' : ∀ ds, d ≠ .list ds := fun ds e => hd ⟨ds, e⟩
    have : hedgeOf W k o d = false := by
      cases d with
      | list ds => exact absurd rfl (hd' ds)
      | _ => rfl
    rw [this]
    refine fn_rt rfl (seq_nx ck (seq_rt (if_t (f := sRet (eC (.bool false))) ?_ rfl)))
    cases d with
    | list ds => exact absurd rfl (hd' ds)
    | _ => rfl
end Bc

namespace Bc
open PySem L2
theorem upL_few {W : Web} (h : WebOk W) {n : Str} (hn : n ∈ nm W) : (upL W n).length ≤ 4 := by
  obtain ⟨es, lk, hm⟩ := lookup_nm hn
  have eu : upL W n = es := by unfold upL; rw [lk]; rfl
  rw [eu]
  exact h.few (n, es) hm
theorem g_law_way {W : Web} (h : WebOk W) {n : Str} (hn : n ∈ nm W) {c : Int} (c0 : 0 ≤ c) : ∃ q : List Str, G_law_way [.dict (dS strsD W), .str n, .int c] = some (strsD (n :: q), true) ∧ (∀ x ∈ n :: q, x ∈ nm W) ∧ (n :: q).length ≤ 10 := by
  have m0 := Int.emod_nonneg c (show (10 : Int) ≠ 0 by decide)
  have m1 := Int.emod_lt_of_pos c (show (0 : Int) < 10 by decide)
  generalize hm : c % 10 = m at m0 m1
  have lp : ∃ env', forL (gN 5) (sSeq (sSet 6 (eDGetV 0 (eIxV 3 (eNeg (eC (.int 1)))))) (sIf (tBool (eOp gtD (eCB lenD (aCons (eVar 6) aNil)) (eC (.int 0)))) (sSeq (sApp 3 (eIxV 6 (eOp modD (eVar 4) (eCB lenD (aCons (eVar 6) aNil))))) (sSet 4 (eOp fdivD (eVar 4) (eCB lenD (aCons (eVar 6) aNil))))) sNil)) ((List.range m.toNat).map (fun (k : Nat) => PyData.int (k : Int)))
      [.pl (.dict (dS strsD W)), .pl (.str n), .pl (.int c), .ac (strsD [n]), .pl (.int (c / 10)), .no, .no] = some (.nx env') ∧ ∃ q rs s5 s6, env' = [.pl (.dict (dS strsD W)), .pl (.str n), .pl (.int c), .ac (strsD (n :: q)), .pl (.int rs), s5, s6] ∧ 0 ≤ rs ∧ (∀ x ∈ n :: q, x ∈ nm W) ∧ (n :: q).length ≤ (List.range m.toNat).length + 1 := by
    refine forL_runs (enc := fun (k : Nat) => PyData.int (k : Int)) (fun pre env => ∃ q rs s5 s6, env = [.pl (.dict (dS strsD W)), .pl (.str n), .pl (.int c), .ac (strsD (n :: q)), .pl (.int rs), s5, s6] ∧ 0 ≤ rs ∧ (∀ x ∈ n :: q, x ∈ nm W) ∧ (n :: q).length ≤ pre.length + 1) ⟨[], c / 10, .no, .no, rfl, Int.ediv_nonneg c0 (by decide), fun x hx => by rw [List.mem_singleton.mp hx]; exact hn, Nat.le_refl _⟩ ?_
    rintro pre k post env hk ⟨q, rs, s5, s6, rfl, r0, hq, hl⟩
    have hpl : pre.length < 11 := by
      have := congrArg List.length hk
      simp at this
      omega
    have hz : (n :: q).getLast (by simp) ∈ nm W := hq _ (List.getLast_mem _)
    generalize hzz : (n :: q).getLast (by simp) = z at hz
    have e3 : eIxV 3 (eNeg (eC (.int 1))) [.pl (.dict (dS strsD W)), .pl (.str n), .pl (.int c), .ac (strsD (n :: q)), .pl (.int rs), .pl (.int (k : Int)), s6] = some (vs z) := by
      rw [e_lastA (ds := (n :: q).map .str) rfl (by simp), strs_last (l := n :: q) (by simp), hzz]
    have e6 : sSet 6 (eDGetV 0 (eIxV 3 (eNeg (eC (.int 1))))) [.pl (.dict (dS strsD W)), .pl (.str n), .pl (.int c), .ac (strsD (n :: q)), .pl (.int rs), .pl (.int (k : Int)), s6] = some (.nx [.pl (.dict (dS strsD W)), .pl (.str n), .pl (.int c), .ac (strsD (n :: q)), .pl (.int rs), .pl (.int (k : Int)), .pl (strsD (upL W z))]) := set_is (r := ⟨strsD (upL W z), false, []⟩) (e_getV (k := 0) (.inl rfl) e3 (eld_get hz))
    have el : eCB lenD (aCons (eVar 6) aNil) [.pl (.dict (dS strsD W)), .pl (.str n), .pl (.int c), .ac (strsD (n :: q)), .pl (.int rs), .pl (.int (k : Int)), .pl (strsD (upL W z))] = some (vi ((upL W z).length : Int)) := by
      have := e_lenL (a := eVar 6) (env := [.pl (.dict (dS strsD W)), .pl (.str n), .pl (.int c), .ac (strsD (n :: q)), .pl (.int rs), .pl (.int (k : Int)), .pl (strsD (upL W z))]) (ds := (upL W z).map .str) (fr := false) (bs := []) rfl
      rw [List.length_map] at this
      exact this
    have t6 : tBool (eOp gtD (eCB lenD (aCons (eVar 6) aNil)) (eC (.int 0))) [.pl (.dict (dS strsD W)), .pl (.str n), .pl (.int c), .ac (strsD (n :: q)), .pl (.int rs), .pl (.int (k : Int)), .pl (strsD (upL W z))] = some (decide (0 < ((upL W z).length : Int))) := by
      refine t_bool ?_
      unfold eOp
      rw [el]
      rfl
    by_cases h0 : 0 < ((upL W z).length : Int)
    · rw [decide_eq_true h0] at t6
      have f4 := upL_few h hz
      have i0 := Int.emod_nonneg rs (show ((upL W z).length : Int) ≠ 0 by omega)
      have i1 := Int.emod_lt_of_pos rs h0
      have hj : (rs % ((upL W z).length : Int)).toNat < (upL W z).length := by omega
      have ei : eIxV 6 (eOp modD (eVar 4) (eCB lenD (aCons (eVar 6) aNil))) [.pl (.dict (dS strsD W)), .pl (.str n), .pl (.int c), .ac (strsD (n :: q)), .pl (.int rs), .pl (.int (k : Int)), .pl (strsD (upL W z))] = some (vs ((upL W z)[(rs % ((upL W z).length : Int)).toNat])) := by
        refine e_ixV (n := (rs % ((upL W z).length : Int)).toNat) rfl ?_ (by rw [List.getElem?_map, List.getElem?_eq_getElem hj]; rfl)
        rw [e_mod rfl el h0]
        congr 2
        rw [Int.toNat_of_nonneg i0]
      generalize hw : (upL W z)[(rs % ((upL W z).length : Int)).toNat] = wz at ei
      have hwm : wz ∈ upL W z := by rw [← hw]; exact List.getElem_mem _
      have ap : sApp 3 (eIxV 6 (eOp modD (eVar 4) (eCB lenD (aCons (eVar 6) aNil)))) [.pl (.dict (dS strsD W)), .pl (.str n), .pl (.int c), .ac (strsD (n :: q)), .pl (.int rs), .pl (.int (k : Int)), .pl (strsD (upL W z))] = some (.nx [.pl (.dict (dS strsD W)), .pl (.str n), .pl (.int c), .ac (strsD (n :: (q ++ [wz]))), .pl (.int rs), .pl (.int (k : Int)), .pl (strsD (upL W z))]) := by
        rw [app_is (ds := (n :: q).map .str) (d := .str wz) (fr := false) rfl ei (by rw [List.length_map]; simp at hl ⊢; omega)]
        congr 2
        unfold strsD
        simp
      have el2 : eCB lenD (aCons (eVar 6) aNil) [.pl (.dict (dS strsD W)), .pl (.str n), .pl (.int c), .ac (strsD (n :: (q ++ [wz]))), .pl (.int rs), .pl (.int (k : Int)), .pl (strsD (upL W z))] = some (vi ((upL W z).length : Int)) := by
        have := e_lenL (a := eVar 6) (env := [.pl (.dict (dS strsD W)), .pl (.str n), .pl (.int c), .ac (strsD (n :: (q ++ [wz]))), .pl (.int rs), .pl (.int (k : Int)), .pl (strsD (upL W z))]) (ds := (upL W z).map .str) (fr := false) (bs := []) rfl
        rw [List.length_map] at this
        exact this
      refine ⟨_, _, rfl, .inl (seq_nx e6 (if_t t6 (seq_nx ap (set_is (e_fdiv rfl el2 h0 (by omega)))))), q ++ [wz], rs / ((upL W z).length : Int), _, _, rfl, Int.ediv_nonneg r0 (by omega), fun x hx => ?_, by simp at hl ⊢; omega⟩
      rcases List.mem_cons.mp hx with rfl | hx
      · exact hn
      · rcases List.mem_append.mp hx with hx | hx
        · exact hq x (List.mem_cons_of_mem _ hx)
        · rw [List.mem_singleton.mp hx]; exact (eld_lt h hwm).1
    · rw [decide_eq_false h0] at t6
      exact ⟨_, _, rfl, .inl (seq_nx e6 (if_f t6 rfl)), q, rs, _, _, rfl, r0, hq, by simp at hl ⊢; omega⟩
  obtain ⟨env', lp, q, rs, s5, s6, rfl, _, hq, hl⟩ := lp
  have it : iRange1 (aCons (eOp modD (eVar 2) (eC (.int 10))) aNil) [.pl (.dict (dS strsD W)), .pl (.str n), .pl (.int c), .ac (strsD [n]), .pl (.int (c / 10)), .no, .no] = some ((List.range m.toNat).map (fun (k : Nat) => PyData.int (k : Int)), []) := by
    unfold iRange1
    rw [args1 (r := vi m) (by rw [e_mod (i := c) (j := 10) rfl rfl (by decide), hm]), Option.bind_some]
    simp only
    rw [if_pos (by omega), range_map]
  refine ⟨q, fn_rt rfl (seq_nx (set_is (r := ⟨strsD [n], true, []⟩) rfl) (seq_nx (set_is (r := vi (c / 10)) rfl) (seq_nx (for_is it lp) rfl))), hq, ?_⟩
  rw [List.length_range] at hl
  omega
end Bc

namespace Bc
open PySem L2
def short (d : PyData) : Prop := ∀ ds, d = .list ds → ds.length < 300
def IsL (e : EF) (env : DEnv) (n : Nat) : Prop := ∃ ds fr bs, e env = some ⟨.list ds, fr, bs⟩ ∧ ds.length ≤ n
theorem cutD_len (ds : List PyData) (lo hi : Option Int) : (cutD ds lo hi).length ≤ ds.length := by
  unfold cutD
  rw [List.length_take, List.length_drop]
  omega
theorem isL_sl {e : EF} {env : DEnv} {n : Nat} {l h : PF'} {lo hi : Option Int} (he : IsL e env n) (hl : l env = some lo) (hh : h env = some hi) : IsL (eSl e l h) env n := by
  obtain ⟨ds, fr, bs, h1, h2⟩ := he
  refine ⟨cutD ds lo hi, true, bsOf (.list (cutD ds lo hi)) bs, ?_, Nat.le_trans (cutD_len ..) h2⟩
  unfold eSl
  rw [h1, hl, hh]
  rfl
theorem isL_add {a b : EF} {env : DEnv} {n m : Nat} (ha : IsL a env n) (hb : IsL b env m) (h : n + m ≤ 100000) : IsL (eOp addD a b) env (n + m) := by
  obtain ⟨ds, fr, bs, h1, h2⟩ := ha
  obtain ⟨es, fr', bs', h3, h4⟩ := hb
  refine ⟨ds ++ es, true, bsOf (.list (ds ++ es)) (bs ++ bs'), ?_, by rw [List.length_append]; omega⟩
  unfold eOp
  rw [h1, h3]
  simp only [Option.bind_some, addD]
  rw [if_pos (by omega)]
  rfl
theorem sp_step {e : EF} {rest : SF} {env : DEnv} {ch j : Int} {n : Nat} (h1 : env[1]? = some (.pl (.int ch))) (he : IsL e env n) (hn : n < 300) (hr : ∃ d fr, rest env = some (.rt d fr) ∧ short d) : ∃ d fr, sSeq (sIf (tBool (eOp eqD (eVar 1) (eC (.int j)))) (sRet e) sNil) rest env = some (.rt d fr) ∧ short d := by
  have ev : eVar 1 env = some (vi ch) := by unfold eVar; rw [h1]
  have t := t_bool (e_eqi (b := eC (.int j)) (j := j) ev rfl)
  cases hc : (ch == j) with
  | true =>
    rw [hc] at t
    obtain ⟨ds, fr, bs, h1, h2⟩ := he
    exact ⟨_, _, seq_rt (if_t t (ret_is h1)), fun es e => by cases e; omega⟩
  | false =>
    rw [hc] at t
    obtain ⟨d, fr, h1, h2⟩ := hr
    exact ⟨d, fr, seq_nx (if_f t rfl) h1, h2⟩
theorem sp_stepD {e : EF} {rest : SF} {env : DEnv} {ch j : Int} {d0 : PyData} {f0 : Bool} {b0 : List Nat} (h1 : env[1]? = some (.pl (.int ch))) (he : e env = some ⟨d0, f0, b0⟩) (hn : short d0) (hr : ∃ d fr, rest env = some (.rt d fr) ∧ short d) : ∃ d fr, sSeq (sIf (tBool (eOp eqD (eVar 1) (eC (.int j)))) (sRet e) sNil) rest env = some (.rt d fr) ∧ short d := by
  have ev : eVar 1 env = some (vi ch) := by unfold eVar; rw [h1]
  have t := t_bool (e_eqi (b := eC (.int j)) (j := j) ev rfl)
  cases hc : (ch == j) with
  | true =>
    rw [hc] at t
    exact ⟨_, _, seq_rt (if_t t (ret_is he)), hn⟩
  | false =>
    rw [hc] at t
    obtain ⟨d, fr, h1, h2⟩ := hr
    exact ⟨d, fr, seq_nx (if_f t rfl) h1, h2⟩
theorem e_ixL {a b : EF} {env : DEnv} {ds : List PyData} {fr : Bool} {bs : List Nat} {i : Int} {d : PyData} (ha : a env = some ⟨.list ds, fr, bs⟩) (hb : b env = some (vi i)) (h : atI ds i = some d) : eOp ixD a b env = some ⟨d, false, bsOf d bs⟩ := by
  unfold eOp
  rw [ha, hb]
  simp only [Option.bind_some, ixD]
  rw [h]
  simp
theorem g_law_spoilt {xs : List Str} {n : Str} {ch c : Int} (hl : xs.length ≤ 60) (hn : n.length ≤ 30) (c0 : 0 ≤ c) : ∃ d fr, G_law_spoilt [strsD xs, .int ch, .int c, .str n] = some (d, fr) ∧ short d := by
  have el : eCB lenD (aCons (eVar 0) aNil) [.pl (strsD xs), .pl (.int ch), .pl (.int c), .pl (.str n), .no, .no] = some (vi (xs.map PyData.str).length) := e_lenL rfl
  have e4 : sSet 4 (eOp modD (eVar 2) (eOp addD (eCB lenD (aCons (eVar 0) aNil)) (eC (.int 1)))) [.pl (strsD xs), .pl (.int ch), .pl (.int c), .pl (.str n), .no, .no] = some (.nx [.pl (strsD xs), .pl (.int ch), .pl (.int c), .pl (.str n), .pl (.int (c % (((xs.map PyData.str).length : Nat) + 1))), .no]) := set_is (r := vi _) (e_mod rfl (e_add el rfl) (by omega))
  generalize c % (((xs.map PyData.str).length : Nat) + 1) = at_ at e4
  have i0 := Int.emod_nonneg (c / 11) (show (8 : Int) ≠ 0 by decide)
  have i1 := Int.emod_lt_of_pos (c / 11) (show (0 : Int) < 8 by decide)
  obtain ⟨odd, ho, hm⟩ := at_some (l := [PyData.none, .int 0, .str "", .list [.str n], .tuple [.str n], .str (n ++ n), .dict [], .bool true]) i0 i1
  have hsh : short odd := by
    intro ds e
    subst e
    simp only [List.mem_cons, List.not_mem_nil, or_false, reduceCtorEq, false_or, PyData.list.injEq] at hm
    rw [hm]; exact Nat.lt_of_lt_of_le (Nat.lt_succ_self 1) (by decide)
  have hv : eOp addD (eVar 3) (eVar 3) [.pl (strsD xs), .pl (.int ch), .pl (.int c), .pl (.str n), .pl (.int at_), .no] = some (vs (n ++ n)) := e_addS rfl rfl (by omega)
  have e5 : sSet 5 (eOp ixD (eLst (aCons (eC .none) (aCons (eC (.int 0)) (aCons (eC (.str "")) (aCons (eLst (aCons (eVar 3) aNil)) (aCons (eTup (aCons (eVar 3) aNil)) (aCons (eOp addD (eVar 3) (eVar 3)) (aCons eDNew (aCons (eC (.bool true)) aNil))))))))) (eOp modD (eOp fdivD (eVar 2) (eC (.int 11))) (eC (.int 8)))) [.pl (strsD xs), .pl (.int ch), .pl (.int c), .pl (.str n), .pl (.int at_), .no] = some (.nx [.pl (strsD xs), .pl (.int ch), .pl (.int c), .pl (.str n), .pl (.int at_), .pl odd]) := by
    have ll : eLst (aCons (eC .none) (aCons (eC (.int 0)) (aCons (eC (.str "")) (aCons (eLst (aCons (eVar 3) aNil)) (aCons (eTup (aCons (eVar 3) aNil)) (aCons (eOp addD (eVar 3) (eVar 3)) (aCons eDNew (aCons (eC (.bool true)) aNil)))))))) [.pl (strsD xs), .pl (.int ch), .pl (.int c), .pl (.str n), .pl (.int at_), .no] = some ⟨.list [PyData.none, .int 0, .str "", .list [.str n], .tuple [.str n], .str (n ++ n), .dict [], .bool true], true, []⟩ := by
      unfold eLst
      rw [args_cons (r := ⟨.none, false, []⟩) rfl (args_cons (r := vi 0) rfl (args_cons (r := vs "") rfl (args_cons (r := ⟨.list [.str n], true, []⟩) rfl (args_cons (r := ⟨.tuple [.str n], false, []⟩) rfl (args_cons hv (args_cons (r := ⟨.dict [], true, []⟩) rfl (args1 (r := vb true) rfl)))))))]
      rfl
    rw [set_is (e_ixL ll (e_mod (e_fdiv (i := c) (j := 11) rfl rfl (by decide) (by decide)) rfl (by decide)) ho)]
    have : bsOf odd [] = [] := by unfold bsOf; split <;> rfl
    rw [this]
    rfl
  have R : IsL (eVar 0) [.pl (strsD xs), .pl (.int ch), .pl (.int c), .pl (.str n), .pl (.int at_), .pl odd] 60 := ⟨xs.map .str, false, [], rfl, by rw [List.length_map]; exact hl⟩
  have pre := isL_sl (l := pNone) (h := pSome (eVar 4)) R rfl rfl
  have from4 := isL_sl (l := pSome (eVar 4)) (h := pNone) R rfl rfl
  have from5 := isL_sl (l := pSome (eOp addD (eVar 4) (eC (.int 1)))) (h := pNone) R rfl rfl
  have one : IsL (eLst (aCons (eVar 3) aNil)) [.pl (strsD xs), .pl (.int ch), .pl (.int c), .pl (.str n), .pl (.int at_), .pl odd] 1 := ⟨_, _, _, rfl, Nat.le_refl _⟩
  have oneO : IsL (eLst (aCons (eVar 5) aNil)) [.pl (strsD xs), .pl (.int ch), .pl (.int c), .pl (.str n), .pl (.int at_), .pl odd] 1 := ⟨_, _, _, rfl, Nat.le_refl _⟩
  have rev : IsL (eRev (eVar 0) (pSome (eNeg (eC (.int 1))))) [.pl (strsD xs), .pl (.int ch), .pl (.int c), .pl (.str n), .pl (.int at_), .pl odd] 60 := ⟨(xs.map PyData.str).reverse, true, [], rfl, by rw [List.length_reverse, List.length_map]; exact hl⟩
  have j0 := Int.emod_nonneg c (show (5 : Int) ≠ 0 by decide)
  have j1 := Int.emod_lt_of_pos c (show (0 : Int) < 5 by decide)
  obtain ⟨odd2, ho2, hm2⟩ := at_some (l := [odd, .list [], .none, .str n, .dict [(.str n, .str n)]]) j0 j1
  have hsh2 : short odd2 := by
    simp only [List.mem_cons, List.not_mem_nil, or_false] at hm2
    rcases hm2 with rfl | rfl | rfl | rfl | rfl
    · exact hsh
    · intro ds e; cases e; decide
    · intro ds e; cases e
    · intro ds e; cases e
    · intro ds e; cases e
  have l9 : eLst (aCons (eVar 5) (aCons (eLst aNil) (aCons (eC .none) (aCons (eVar 3) (aCons (eD1 (eVar 3) (eVar 3)) aNil))))) [.pl (strsD xs), .pl (.int ch), .pl (.int c), .pl (.str n), .pl (.int at_), .pl odd] = some ⟨.list [odd, .list [], .none, .str n, .dict [(.str n, .str n)]], true, []⟩ := rfl
  have tail := sp_step (env := [.pl (strsD xs), .pl (.int ch), .pl (.int c), .pl (.str n), .pl (.int at_), .pl odd]) (ch := ch) (j := 1) rfl (isL_add pre from5 (by decide)) (by decide) <| sp_step (ch := ch) (j := 2) rfl (isL_add (isL_add pre one (by decide)) from4 (by decide)) (by decide) <| sp_step (ch := ch) (j := 3) rfl (isL_add (isL_add pre one (by decide)) from5 (by decide)) (by decide) <| sp_step (ch := ch) (j := 4) rfl (isL_add from4 pre (by decide)) (by decide) <| sp_step (ch := ch) (j := 5) rfl rev (by decide) <| sp_step (ch := ch) (j := 6) rfl (isL_add R from4 (by decide)) (by decide) <|
    sp_stepD (ch := ch) (j := 7) (e := eCB tupleD (aCons (eVar 0) aNil)) (d0 := .tuple (xs.map .str)) (f0 := false) (b0 := []) rfl rfl (fun ds e => by cases e) <| sp_step (ch := ch) (j := 8) rfl (isL_add (isL_add pre oneO (by decide)) from5 (by decide)) (by decide) <| sp_stepD (ch := ch) (j := 9) rfl (e_ixL l9 (e_mod (a := eVar 2) (b := eC (.int 5)) (i := c) (j := 5) rfl rfl (by decide)) ho2) hsh2 <|
    (⟨.list (xs.map .str), true, ret_is (f := eCB listD (aCons (eVar 0) aNil)) (bs := []) rfl, fun ds e => by cases e; rw [List.length_map]; omega⟩ : ∃ d fr, sRet (eCB listD (aCons (eVar 0) aNil)) [.pl (strsD xs), .pl (.int ch), .pl (.int c), .pl (.str n), .pl (.int at_), .pl odd] = some (.rt d fr) ∧ short d)
  obtain ⟨d, fr, h1, h2⟩ := tail
  exact ⟨d, fr, fn_rt rfl (seq_nx e4 (seq_nx e5 h1)), h2⟩
end Bc

namespace Bc
open PySem L2
def F_law_k09 : SF := (sSeq (sSet 2 (eCall 2 G_law_names (aCons (eOp addD (eC (.int 1)) (eOp modD (eIxV 1 (eC (.int 0))) (eC (.int 10)))) (aCons (eIxV 1 (eC (.int 1))) aNil))))
    (sSeq (sSet 3 (eCall 2 G_law_net (aCons (eSl (eVar 1) (pSome (eC (.int 10))) (pSome (eC (.int 20)))) (aCons (eVar 2) aNil))))
    (sSeq (sSet 4 eDNew)
    (sSeq (sFor (iItems (eVar 3)) (gT 2 (gsCons 5 (gsCons 6 gsNil)))
    (sPut 4 (eVar 5) (eVar 6)))
    (sSeq (sSet 7 (eCall 1 G_law_up (aCons (eVar 3) aNil)))
    (sSeq (sSet 8 (eIxV 2 (eOp modD (eOp fdivD (eIxV 1 (eC (.int 2))) (eC (.int 12))) (eCB lenD (aCons (eVar 2) aNil)))))
    (sSeq (sSet 9 (eCall 3 G_law_way (aCons (eVar 4) (aCons (eVar 8) (aCons (eIxV 1 (eC (.int 3))) aNil)))))
    (sSeq (sSet 10 (eIxV 2 (eOp modD (eIxV 1 (eC (.int 4))) (eCB lenD (aCons (eVar 2) aNil)))))
    (sSeq (sSet 11 (eIxV 2 (eOp modD (eIxV 1 (eC (.int 5))) (eCB lenD (aCons (eVar 2) aNil)))))
    (sSeq (sIf (tBool (eOp gtD (eOp modD (eIxV 1 (eC (.int 2))) (eC (.int 3))) (eC (.int 0)))) (sSeq (sSet 10 (eIxV 9 (eC (.int 0))))
    (sSet 11 (eIxV 9 (eNeg (eC (.int 1)))))) sNil)
    (sSeq (sSet 12 (eCall 4 G_law_spoilt (aCons (eVar 9) (aCons (eOp modD (eOp fdivD (eIxV 1 (eC (.int 4))) (eC (.int 10))) (eC (.int 13))) (aCons (eIxV 1 (eC (.int 6))) (aCons (eIxV 2 (eOp modD (eIxV 1 (eC (.int 7))) (eCB lenD (aCons (eVar 2) aNil)))) aNil))))))
    (sSeq (sSet 13 (eCall 4 G_law_is_road (aCons (eVar 4) (aCons (eVar 10) (aCons (eVar 11) (aCons (eVar 12) aNil))))))
    (sSeq (sIf (tAndF (tTru (eVar 13)) (tBool (eOp (inD true) (eVar 11) (eDGetV 7 (eVar 10))))) (sRet (eC (.bool false))) sNil)
    (sSeq (sIf (tNotF (tTru (eCall 2 G_law_is (aCons (eCall 4 G_is_road_k09 (aCons (eVar 3) (aCons (eVar 10) (aCons (eVar 11) (aCons (eVar 12) aNil))))) (aCons (eVar 13) aNil))))) (sRet (eC (.bool false))) sNil)
    (sSeq (sSet 14 (eIxV 2 (eOp modD (eIxV 1 (eC (.int 8))) (eCB lenD (aCons (eVar 2) aNil)))))
    (sSeq (sSet 15 (eIxV 2 (eOp modD (eOp fdivD (eIxV 1 (eC (.int 8))) (eC (.int 10))) (eCB lenD (aCons (eVar 2) aNil)))))
    (sSeq (sSet 16 (eIxV 2 (eOp modD (eIxV 1 (eC (.int 9))) (eCB lenD (aCons (eVar 2) aNil)))))
    (sSeq (sSet 17 (eComp ["_law_name"] [1, 7, 14, 16] (iItems (eVar 2)) (gN 0) (tOrF (tBool (eOp (inD false) (eVar 0) (eDGetV 2 (eVar 3)))) (tAndF (tBool (eOp eqD (eOp modD (eOp fdivD (eIxV 1 (eC (.int 9))) (eC (.int 10))) (eC (.int 2))) (eC (.int 1)))) (tBool (eOp (inD false) (eVar 0) (eDGetV 2 (eVar 4)))))) (eVar 0)))
    (sSeq (sSet 18 (eCall 4 G_law_spoilt (aCons (eVar 17) (aCons (eOp modD (eOp fdivD (eIxV 1 (eC (.int 5))) (eC (.int 10))) (eC (.int 13))) (aCons (eOp fdivD (eIxV 1 (eC (.int 9))) (eC (.int 20))) (aCons (eIxV 2 (eOp modD (eOp fdivD (eIxV 1 (eC (.int 7))) (eC (.int 10))) (eCB lenD (aCons (eVar 2) aNil)))) aNil))))))
    (sSeq (sSet 19 (eCall 4 G_law_is_hedge (aCons (eVar 4) (aCons (eVar 14) (aCons (eVar 15) (aCons (eVar 18) aNil))))))
    (sSeq (sIf (tAndF (tTru (eVar 19)) (tBool (eOp (inD false) (eVar 15) (eDGetV 7 (eVar 14))))) (sRet (eC (.bool false))) sNil)
    (sSeq (sIf (tNotF (tTru (eCall 2 G_law_is (aCons (eCall 4 G_is_hedge_k09 (aCons (eVar 3) (aCons (eVar 14) (aCons (eVar 15) (aCons (eVar 18) aNil))))) (aCons (eVar 19) aNil))))) (sRet (eC (.bool false))) sNil)
    (sRet (eAnd (eCall 2 G_law_is (aCons (eCall 4 G_is_road_k09 (aCons (eVar 3) (aCons (eVar 10) (aCons (eVar 11) (aCons (eVar 12) aNil))))) (aCons (eVar 13) aNil))) (eCall 2 G_law_is (aCons (eCall 4 G_is_hedge_k09 (aCons (eVar 3) (aCons (eVar 14) (aCons (eVar 15) (aCons (eVar 18) aNil))))) (aCons (eVar 19) aNil)))))))))))))))))))))))))))
theorem pickN {env : DEnv} {b : EF} {z : Int} {xs : List Str} (h2 : env[2]? = some (.pl (strsD xs))) (hx : 0 < xs.length) (hb : b env = some (vi z)) (z0 : 0 ≤ z) : ∃ x ∈ xs, eIxV 2 (eOp modD b (eCB lenD (aCons (eVar 2) aNil))) env = some (vs x) := by
  have hv : eVar 2 env = some ⟨strsD xs, false, []⟩ := by unfold eVar; rw [h2]
  have el : eCB lenD (aCons (eVar 2) aNil) env = some (vi (xs.length : Int)) := by
    have := e_lenL (ds := xs.map .str) hv
    rw [List.length_map] at this
    exact this
  have i0 := Int.emod_nonneg z (show (xs.length : Int) ≠ 0 by omega)
  have i1 := Int.emod_lt_of_pos z (show (0 : Int) < (xs.length : Int) by omega)
  have hj : (z % (xs.length : Int)).toNat < xs.length := by omega
  refine ⟨xs[(z % (xs.length : Int)).toNat], List.getElem_mem _, e_ixV (n := (z % (xs.length : Int)).toNat) h2 ?_ (by rw [List.getElem?_map, List.getElem?_eq_getElem hj]; rfl)⟩
  rw [e_mod hb el (by omega), Int.toNat_of_nonneg i0]
def Hd (d : PyData) (s : Sl) : Prop := s = .pl d ∨ s = .ac d
theorem e_hd {env : DEnv} {i : Nat} {d : PyData} {s : Sl} (h : env[i]? = some s) (hs : Hd d s) : ∃ bs, eVar i env = some ⟨d, false, bs⟩ := by
  unfold eVar
  rw [h]
  rcases hs with rfl | rfl
  · exact ⟨_, rfl⟩
  · exact ⟨_, rfl⟩
theorem hd_sl {d : PyData} {fr : Bool} {bs : List Nat} : Hd d (slOf ⟨d, fr, bs⟩) := by
  cases fr
  · exact .inl rfl
  · exact .inr rfl
/-- the env of the law, its first slots -/
abbrev ev (cs : List Int) (l : List Sl) : DEnv := .no :: .pl (intsD cs) :: l
theorem dict_loop {cs : List Int} {A B : Sl} {T : List Sl} : ∀ (post pre : Web) (s5 s6 : Sl), WebOk (pre ++ post) → ∃ s5' s6', forL (gT 2 (gsCons 5 (gsCons 6 gsNil))) (sPut 4 (eVar 5) (eVar 6)) (post.map rowD) (ev cs (A :: B :: .ac (.dict (dS strsD pre)) :: s5 :: s6 :: T)) = some (.nx (ev cs (A :: B :: .ac (.dict (dS strsD (pre ++ post))) :: s5' :: s6' :: T)))
  | [], pre, s5, s6, h => ⟨s5, s6, by rw [List.append_nil]; rfl⟩
  | p :: post, pre, s5, s6, h => by
    have h1 : WebOk (pre ++ [p]) := webOk_pre (post := post) (by rw [List.append_assoc]; exact h)
    have hn := (webOk_snoc h1).2.1
    have hl : pre.length ≤ 12 := (webOk_snoc h1).1.len
    obtain ⟨s5', s6', ih⟩ := dict_loop (cs := cs) (A := A) (B := B) (T := T) post (pre ++ [p]) (.pl (.str p.1)) (.pl (strsD p.2)) (by rw [List.append_assoc]; exact h)
    refine ⟨s5', s6', ?_⟩
    rw [List.append_assoc] at ih
    rw [List.map_cons]
    unfold forL
    have st : sPut 4 (eVar 5) (eVar 6) (ev cs (A :: B :: .ac (.dict (dS strsD pre)) :: .pl (.str p.1) :: .pl (strsD p.2) :: T)) = some (.nx (ev cs (A :: B :: .ac (.dict (dS strsD (pre ++ [p]))) :: .pl (.str p.1) :: .pl (strsD p.2) :: T))) := by
      show (if (dS strsD pre).length < 100000 ∧ 4 ∉ ([] : List Nat) then some (Out.nx (ev cs (A :: B :: .ac (.dict (dputD (dS strsD pre) (.str p.1) (strsD p.2))) :: .pl (.str p.1) :: .pl (strsD p.2) :: T))) else none) = _
      rw [if_pos ⟨by unfold dS; rw [List.length_map]; omega, by simp⟩, dput_dS strsD hn]
    show Option.bind (sPut 4 (eVar 5) (eVar 6) (ev cs (A :: B :: .ac (.dict (dS strsD pre)) :: .pl (.str p.1) :: .pl (strsD p.2) :: T))) _ = _
    rw [st, Option.bind_some]
    exact ih
theorem t_is2 {f fd : EF} {env : DEnv} {b : Bool} (hf : f env = some (vb b)) (hd : fd env = some (vb b)) : eCall 2 G_law_is (aCons f (aCons fd aNil)) env = some (vb true) := by
  have := call_is (n := 2) (g := G_law_is) (rs := [vb b, vb b]) (args_cons hf (args1 hd)) rfl (g_law_is b b)
  rw [beq_self_eq_true] at this
  exact this
theorem pure_k09 {cs : List Int} (hl : cs.length = 20) (h0 : ∀ c ∈ cs, 0 ≤ c) : F_law_k09 (envL 18 cs) = some (.rt (.bool true) false) := by
  have gc := fun (n : Nat) (hn : n < cs.length) => h0 (cs[n]'hn) (List.getElem_mem _)
  have m10 := Int.emod_nonneg (cs[0]'(by omega)) (show (10 : Int) ≠ 0 by decide)
  have m10' := Int.emod_lt_of_pos (cs[0]'(by omega)) (show (0 : Int) < 10 by decide)
  obtain ⟨xs, gx, lx, nx, lo, ln⟩ := g_law_namesL (m := 1 + cs[0]'(by omega) % 10) (c := cs[1]'(by omega)) (by omega) (by omega) (gc 1 (by omega))
  have hx : 1 ≤ xs.length ∧ xs.length ≤ 10 := by omega
  obtain ⟨W, gw, hnm, ok⟩ := g_law_net (cs := (cs.drop 10).take 10) (xs := xs) (by rw [List.length_take, List.length_drop]; omega) (by omega) nx
  have hW := ok.len
  have cell : ∀ {env : DEnv} {n : Nat}, env[1]? = some (.pl (intsD cs)) → (hn : n < cs.length) → eIxV 1 (eC (.int (n : Int))) env = some (vi (cs[n]'hn)) := fun h1 hn => e_cell h1 rfl hn
  have nz : ∀ n, List.replicate (n + 1) Sl.no = Sl.no :: List.replicate n Sl.no := fun n => rfl
  -- names, web, elders
  have e2 : sSet 2 (eCall 2 G_law_names (aCons (eOp addD (eC (.int 1)) (eOp modD (eIxV 1 (eC (.int 0))) (eC (.int 10)))) (aCons (eIxV 1 (eC (.int 1))) aNil))) (envL 18 cs) = some (.nx (ev cs (.ac (strsD xs) :: List.replicate 17 .no))) :=
    set_is (r := ⟨strsD xs, true, []⟩) (call_is (n := 2) (rs := [vi (1 + cs[0]'(by omega) % 10), vi (cs[1]'(by omega))]) (args_cons (e_add rfl (e_mod (e_cell (n := 0) rfl rfl (by omega)) rfl (by decide))) (args1 (e_cell (n := 1) rfl rfl (by omega)))) rfl gx)
  have e3 : sSet 3 (eCall 2 G_law_net (aCons (eSl (eVar 1) (pSome (eC (.int 10))) (pSome (eC (.int 20)))) (aCons (eVar 2) aNil))) (ev cs (.ac (strsD xs) :: List.replicate 17 .no)) = some (.nx (ev cs (.pl (strsD xs) :: .ac (webD W) :: List.replicate 16 .no))) := by
    have es : eSl (eVar 1) (pSome (eC (.int 10))) (pSome (eC (.int 20))) (ev cs (.ac (strsD xs) :: List.replicate 17 .no)) = some ⟨intsD ((cs.drop 10).take 10), true, []⟩ := by
      rw [show eSl (eVar 1) (pSome (eC (.int 10))) (pSome (eC (.int 20))) (ev cs (.ac (strsD xs) :: List.replicate 17 .no)) = some ⟨.list (cutD (cs.map .int) (some ((10 : Nat) : Int)) (some ((20 : Nat) : Int))), true, []⟩ from rfl, cut_ints cs 10 20 (by omega) (by omega)]
      rfl
    exact set_is (r := ⟨webD W, true, [2]⟩) (call_is (n := 2) (rs := [⟨intsD ((cs.drop 10).take 10), true, []⟩, ⟨strsD xs, false, [2]⟩]) (args_cons es (args1 rfl)) rfl gw)
  have e4 : sSet 4 eDNew (ev cs (.pl (strsD xs) :: .ac (webD W) :: List.replicate 16 .no)) = some (.nx (ev cs (.pl (strsD xs) :: .ac (webD W) :: .ac (.dict []) :: List.replicate 15 .no))) := rfl
  obtain ⟨s5, s6, lp⟩ := dict_loop (cs := cs) (A := .pl (strsD xs)) (B := .pl (webD W)) (T := List.replicate 13 .no) W [] .no .no ok
  have e5 : sFor (iItems (eVar 3)) (gT 2 (gsCons 5 (gsCons 6 gsNil))) (sPut 4 (eVar 5) (eVar 6)) (ev cs (.pl (strsD xs) :: .ac (webD W) :: .ac (.dict []) :: List.replicate 15 .no)) = some (.nx (ev cs (.pl (strsD xs) :: .pl (webD W) :: .ac (.dict (dS strsD W)) :: s5 :: s6 :: List.replicate 13 .no))) := for_list (ds := W.map rowD) (fr := false) (bs := [3]) rfl lp
  have e7 : sSet 7 (eCall 1 G_law_up (aCons (eVar 3) aNil)) (ev cs (.pl (strsD xs) :: .pl (webD W) :: .ac (.dict (dS strsD W)) :: s5 :: s6 :: List.replicate 13 .no)) = some (.nx (ev cs (.pl (strsD xs) :: .pl (webD W) :: .ac (.dict (dS strsD W)) :: s5 :: s6 :: .ac (.dict (dS strsD (ups W))) :: List.replicate 12 .no))) :=
    set_is (r := ⟨.dict (dS strsD (ups W)), true, []⟩) (call_is (n := 1) (rs := [⟨webD W, false, []⟩]) (args1 rfl) rfl (g_law_up ok))
  obtain ⟨one, h1m, p8⟩ := pickN (env := ev cs (.pl (strsD xs) :: .pl (webD W) :: .ac (.dict (dS strsD W)) :: s5 :: s6 :: .ac (.dict (dS strsD (ups W))) :: List.replicate 12 .no)) (b := eOp fdivD (eIxV 1 (eC (.int 2))) (eC (.int 12))) (xs := xs) rfl (by omega) (e_fdiv (e_cell (n := 2) rfl rfl (by omega)) rfl (by decide) (by decide)) (Int.ediv_nonneg (gc 2 (by omega)) (by decide))
  have e8 := set_is (i := 8) p8
  have h1n : one ∈ nm W := by rw [hnm]; exact h1m
  obtain ⟨q, gq, hq, hql⟩ := g_law_way ok h1n (c := cs[3]'(by omega)) (gc 3 (by omega))
  have e9 : sSet 9 (eCall 3 G_law_way (aCons (eVar 4) (aCons (eVar 8) (aCons (eIxV 1 (eC (.int 3))) aNil)))) (ev cs (.pl (strsD xs) :: .pl (webD W) :: .ac (.dict (dS strsD W)) :: s5 :: s6 :: .ac (.dict (dS strsD (ups W))) :: .pl (.str one) :: List.replicate 11 .no)) = some (.nx (ev cs (.pl (strsD xs) :: .pl (webD W) :: .pl (.dict (dS strsD W)) :: s5 :: s6 :: .ac (.dict (dS strsD (ups W))) :: .pl (.str one) :: .ac (strsD (one :: q)) :: List.replicate 10 .no))) :=
    set_is (r := ⟨strsD (one :: q), true, [4]⟩) (call_is (n := 3) (rs := [⟨.dict (dS strsD W), false, [4]⟩, vs one, vi (cs[3]'(by omega))]) (args_cons rfl (args_cons rfl (args1 (e_cell (n := 3) rfl rfl (by omega))))) rfl gq)
  obtain ⟨k0, hk0, p10⟩ := pickN (env := ev cs (.pl (strsD xs) :: .pl (webD W) :: .pl (.dict (dS strsD W)) :: s5 :: s6 :: .ac (.dict (dS strsD (ups W))) :: .pl (.str one) :: .ac (strsD (one :: q)) :: List.replicate 10 .no)) (b := eIxV 1 (eC (.int 4))) (xs := xs) rfl (by omega) (e_cell (n := 4) rfl rfl (by omega)) (gc 4 (by omega))
  have e10 := set_is (i := 10) p10
  obtain ⟨o0, ho0, p11⟩ := pickN (env := ev cs (.pl (strsD xs) :: .pl (webD W) :: .pl (.dict (dS strsD W)) :: s5 :: s6 :: .ac (.dict (dS strsD (ups W))) :: .pl (.str one) :: .ac (strsD (one :: q)) :: .pl (.str k0) :: List.replicate 9 .no)) (b := eIxV 1 (eC (.int 5))) (xs := xs) rfl (by omega) (e_cell (n := 5) rfl rfl (by omega)) (gc 5 (by omega))
  have e11 := set_is (i := 11) p11
  -- the ends
  have e12 : ∃ k o, k ∈ nm W ∧ o ∈ nm W ∧ sIf (tBool (eOp gtD (eOp modD (eIxV 1 (eC (.int 2))) (eC (.int 3))) (eC (.int 0)))) (sSeq (sSet 10 (eIxV 9 (eC (.int 0)))) (sSet 11 (eIxV 9 (eNeg (eC (.int 1)))))) sNil (ev cs (.pl (strsD xs) :: .pl (webD W) :: .pl (.dict (dS strsD W)) :: s5 :: s6 :: .ac (.dict (dS strsD (ups W))) :: .pl (.str one) :: .ac (strsD (one :: q)) :: .pl (.str k0) :: .pl (.str o0) :: List.replicate 8 .no)) = some (.nx (ev cs (.pl (strsD xs) :: .pl (webD W) :: .pl (.dict (dS strsD W)) :: s5 :: s6 :: .ac (.dict (dS strsD (ups W))) :: .pl (.str one) :: .ac (strsD (one :: q)) :: .pl (.str k) :: .pl (.str o) :: List.replicate 8 .no))) := by
    have t : tBool (eOp gtD (eOp modD (eIxV 1 (eC (.int 2))) (eC (.int 3))) (eC (.int 0))) (ev cs (.pl (strsD xs) :: .pl (webD W) :: .pl (.dict (dS strsD W)) :: s5 :: s6 :: .ac (.dict (dS strsD (ups W))) :: .pl (.str one) :: .ac (strsD (one :: q)) :: .pl (.str k0) :: .pl (.str o0) :: List.replicate 8 .no)) = some (decide (0 < cs[2]'(by omega) % 3)) := by
      refine t_bool ?_
      unfold eOp
      have := e_mod (e_cell (env := ev cs (.pl (strsD xs) :: .pl (webD W) :: .pl (.dict (dS strsD W)) :: s5 :: s6 :: .ac (.dict (dS strsD (ups W))) :: .pl (.str one) :: .ac (strsD (one :: q)) :: .pl (.str k0) :: .pl (.str o0) :: List.replicate 8 .no)) (cs := cs) (b := eC (.int 2)) (n := 2) rfl rfl (by omega)) (b := eC (.int 3)) (j := 3) rfl (by decide)
      unfold eOp at this
      rw [this]
      rfl
    by_cases hz : 0 < cs[2]'(by omega) % 3
    · rw [decide_eq_true hz] at t
      have l1 : sSet 10 (eIxV 9 (eC (.int 0))) (ev cs (.pl (strsD xs) :: .pl (webD W) :: .pl (.dict (dS strsD W)) :: s5 :: s6 :: .ac (.dict (dS strsD (ups W))) :: .pl (.str one) :: .ac (strsD (one :: q)) :: .pl (.str k0) :: .pl (.str o0) :: List.replicate 8 .no)) = some (.nx (ev cs (.pl (strsD xs) :: .pl (webD W) :: .pl (.dict (dS strsD W)) :: s5 :: s6 :: .ac (.dict (dS strsD (ups W))) :: .pl (.str one) :: .ac (strsD (one :: q)) :: .pl (.str one) :: .pl (.str o0) :: List.replicate 8 .no))) := set_is (r := vs one) (e_ixA (n := 0) rfl rfl rfl)
      have l2 : eIxV 9 (eNeg (eC (.int 1))) (ev cs (.pl (strsD xs) :: .pl (webD W) :: .pl (.dict (dS strsD W)) :: s5 :: s6 :: .ac (.dict (dS strsD (ups W))) :: .pl (.str one) :: .ac (strsD (one :: q)) :: .pl (.str one) :: .pl (.str o0) :: List.replicate 8 .no)) = some (vs ((one :: q).getLast (by simp))) := by
        rw [e_lastA (ds := (one :: q).map .str) rfl (by simp), strs_last (l := one :: q) (by simp)]
      exact ⟨one, (one :: q).getLast (by simp), h1n, hq _ (List.getLast_mem _), if_t t (seq_nx l1 (set_is l2))⟩
    · rw [decide_eq_false hz] at t
      exact ⟨k0, o0, by rw [hnm]; exact hk0, by rw [hnm]; exact ho0, if_f t rfl⟩
  obtain ⟨k, o, hk, ho, e12⟩ := e12
  -- the thing
  obtain ⟨n7, hn7, p7⟩ := pickN (env := ev cs (.pl (strsD xs) :: .pl (webD W) :: .pl (.dict (dS strsD W)) :: s5 :: s6 :: .ac (.dict (dS strsD (ups W))) :: .pl (.str one) :: .ac (strsD (one :: q)) :: .pl (.str k) :: .pl (.str o) :: List.replicate 8 .no)) (b := eIxV 1 (eC (.int 7))) (xs := xs) rfl (by omega) (e_cell (n := 7) rfl rfl (by omega)) (gc 7 (by omega))
  obtain ⟨d, fr, gd, sd⟩ := g_law_spoilt (xs := one :: q) (n := n7) (ch := cs[4]'(by omega) / 10 % 13) (c := cs[6]'(by omega)) (by omega) (ln n7 hn7) (gc 6 (by omega))
  have e13 : ∃ s9 s12, Hd d s12 ∧ sSet 12 (eCall 4 G_law_spoilt (aCons (eVar 9) (aCons (eOp modD (eOp fdivD (eIxV 1 (eC (.int 4))) (eC (.int 10))) (eC (.int 13))) (aCons (eIxV 1 (eC (.int 6))) (aCons (eIxV 2 (eOp modD (eIxV 1 (eC (.int 7))) (eCB lenD (aCons (eVar 2) aNil)))) aNil))))) (ev cs (.pl (strsD xs) :: .pl (webD W) :: .pl (.dict (dS strsD W)) :: s5 :: s6 :: .ac (.dict (dS strsD (ups W))) :: .pl (.str one) :: .ac (strsD (one :: q)) :: .pl (.str k) :: .pl (.str o) :: List.replicate 8 .no)) = some (.nx (ev cs (.pl (strsD xs) :: .pl (webD W) :: .pl (.dict (dS strsD W)) :: s5 :: s6 :: .ac (.dict (dS strsD (ups W))) :: .pl (.str one) :: s9 :: .pl (.str k) :: .pl (.str o) :: s12 :: List.replicate 7 .no))) := by
    have c := call_is (n := 4) (g := G_law_spoilt) (f := aCons (eVar 9) (aCons (eOp modD (eOp fdivD (eIxV 1 (eC (.int 4))) (eC (.int 10))) (eC (.int 13))) (aCons (eIxV 1 (eC (.int 6))) (aCons (eIxV 2 (eOp modD (eIxV 1 (eC (.int 7))) (eCB lenD (aCons (eVar 2) aNil)))) aNil)))) (rs := [⟨strsD (one :: q), false, [9]⟩, vi (cs[4]'(by omega) / 10 % 13), vi (cs[6]'(by omega)), vs n7]) (env := ev cs (.pl (strsD xs) :: .pl (webD W) :: .pl (.dict (dS strsD W)) :: s5 :: s6 :: .ac (.dict (dS strsD (ups W))) :: .pl (.str one) :: .ac (strsD (one :: q)) :: .pl (.str k) :: .pl (.str o) :: List.replicate 8 .no)) (args_cons (a := eVar 9) rfl (args_cons (e_mod (e_fdiv (e_cell (n := 4) rfl rfl (by omega)) rfl (by decide) (by decide)) rfl (by decide)) (args_cons (e_cell (n := 6) rfl rfl (by omega)) (args1 p7)))) rfl gd
    have hb : bsOf d (bss [⟨strsD (one :: q), false, [9]⟩, vi (cs[4]'(by omega) / 10 % 13), vi (cs[6]'(by omega)), vs n7]) = [] ∨ bsOf d (bss [⟨strsD (one :: q), false, [9]⟩, vi (cs[4]'(by omega) / 10 % 13), vi (cs[6]'(by omega)), vs n7]) = [9] := by
      unfold bsOf
      split
      · exact .inl rfl
      · exact .inr rfl
    rcases hb with hb | hb
    · rw [hb] at c
      exact ⟨.ac (strsD (one :: q)), slOf ⟨d, fr, []⟩, hd_sl, set_is c⟩
    · rw [hb] at c
      exact ⟨.pl (strsD (one :: q)), slOf ⟨d, fr, [9]⟩, hd_sl, set_is c⟩
  obtain ⟨s9, s12, hd12, e13⟩ := e13
  have gr1 := g_law_is_road ok hk (o := o) d
  have gr2 := g_is_road_any ok hk ho d sd
  have hup := road_up ok (k := k) (o := o) (d := d) hk
  generalize hrb : roadOf W k o d = rb at gr1 gr2 hup
  have e14 : sSet 13 (eCall 4 G_law_is_road (aCons (eVar 4) (aCons (eVar 10) (aCons (eVar 11) (aCons (eVar 12) aNil))))) (ev cs (.pl (strsD xs) :: .pl (webD W) :: .pl (.dict (dS strsD W)) :: s5 :: s6 :: .ac (.dict (dS strsD (ups W))) :: .pl (.str one) :: s9 :: .pl (.str k) :: .pl (.str o) :: s12 :: List.replicate 7 .no)) = some (.nx (ev cs (.pl (strsD xs) :: .pl (webD W) :: .pl (.dict (dS strsD W)) :: s5 :: s6 :: .ac (.dict (dS strsD (ups W))) :: .pl (.str one) :: s9 :: .pl (.str k) :: .pl (.str o) :: s12 :: .pl (.bool rb) :: List.replicate 6 .no))) := by
    obtain ⟨bs, hv⟩ := e_hd (env := ev cs (.pl (strsD xs) :: .pl (webD W) :: .pl (.dict (dS strsD W)) :: s5 :: s6 :: .ac (.dict (dS strsD (ups W))) :: .pl (.str one) :: s9 :: .pl (.str k) :: .pl (.str o) :: s12 :: List.replicate 7 .no)) (i := 12) rfl hd12
    exact set_is (r := vb rb) (call_is (n := 4) (rs := [⟨.dict (dS strsD W), false, []⟩, vs k, vs o, ⟨d, false, bs⟩]) (args_cons rfl (args_cons rfl (args_cons rfl (args1 hv)))) rfl gr1)
  have road2 : ∀ (T : List Sl), eCall 2 G_law_is (aCons (eCall 4 G_is_road_k09 (aCons (eVar 3) (aCons (eVar 10) (aCons (eVar 11) (aCons (eVar 12) aNil))))) (aCons (eVar 13) aNil)) (ev cs (.pl (strsD xs) :: .pl (webD W) :: .pl (.dict (dS strsD W)) :: s5 :: s6 :: .ac (.dict (dS strsD (ups W))) :: .pl (.str one) :: s9 :: .pl (.str k) :: .pl (.str o) :: s12 :: .pl (.bool rb) :: T)) = some (vb true) := fun T => by
    obtain ⟨bs, hv⟩ := e_hd (env := ev cs (.pl (strsD xs) :: .pl (webD W) :: .pl (.dict (dS strsD W)) :: s5 :: s6 :: .ac (.dict (dS strsD (ups W))) :: .pl (.str one) :: s9 :: .pl (.str k) :: .pl (.str o) :: s12 :: .pl (.bool rb) :: T)) (i := 12) rfl hd12
    exact t_is2 (call_is (n := 4) (rs := [⟨webD W, false, []⟩, vs k, vs o, ⟨d, false, bs⟩]) (args_cons rfl (args_cons rfl (args_cons rfl (args1 hv)))) rfl gr2) rfl
  have upg : ∀ {x : Str}, x ∈ nm W → dgetD (dS strsD (ups W)) (Sum.inr x) = some (strsD (up W x)) := fun {x} hx => by rw [dget_dS, ups_lookup hx]; rfl
  have e15 : sIf (tAndF (tTru (eVar 13)) (tBool (eOp (inD true) (eVar 11) (eDGetV 7 (eVar 10))))) (sRet (eC (.bool false))) sNil (ev cs (.pl (strsD xs) :: .pl (webD W) :: .pl (.dict (dS strsD W)) :: s5 :: s6 :: .ac (.dict (dS strsD (ups W))) :: .pl (.str one) :: s9 :: .pl (.str k) :: .pl (.str o) :: s12 :: .pl (.bool rb) :: List.replicate 6 .no)) = some (.nx (ev cs (.pl (strsD xs) :: .pl (webD W) :: .pl (.dict (dS strsD W)) :: s5 :: s6 :: .ac (.dict (dS strsD (ups W))) :: .pl (.str one) :: s9 :: .pl (.str k) :: .pl (.str o) :: s12 :: .pl (.bool rb) :: List.replicate 6 .no))) := by
    refine if_f ?_ rfl
    have t2 : tBool (eOp (inD true) (eVar 11) (eDGetV 7 (eVar 10))) (ev cs (.pl (strsD xs) :: .pl (webD W) :: .pl (.dict (dS strsD W)) :: s5 :: s6 :: .ac (.dict (dS strsD (ups W))) :: .pl (.str one) :: s9 :: .pl (.str k) :: .pl (.str o) :: s12 :: .pl (.bool rb) :: List.replicate 6 .no)) = some (!decide (o ∈ up W k)) := t_bool (e_in (neg := true) rfl (e_getV (k := 7) (.inr rfl) rfl (upg hk)))
    cases hrb' : rb with
    | false => rfl
    | true =>
      rw [hrb'] at t2
      rw [decide_eq_true (hup hrb')] at t2
      exact t2
  have e16 : sIf (tNotF (tTru (eCall 2 G_law_is (aCons (eCall 4 G_is_road_k09 (aCons (eVar 3) (aCons (eVar 10) (aCons (eVar 11) (aCons (eVar 12) aNil))))) (aCons (eVar 13) aNil))))) (sRet (eC (.bool false))) sNil (ev cs (.pl (strsD xs) :: .pl (webD W) :: .pl (.dict (dS strsD W)) :: s5 :: s6 :: .ac (.dict (dS strsD (ups W))) :: .pl (.str one) :: s9 :: .pl (.str k) :: .pl (.str o) :: s12 :: .pl (.bool rb) :: List.replicate 6 .no)) = some (.nx (ev cs (.pl (strsD xs) :: .pl (webD W) :: .pl (.dict (dS strsD W)) :: s5 :: s6 :: .ac (.dict (dS strsD (ups W))) :: .pl (.str one) :: s9 :: .pl (.str k) :: .pl (.str o) :: s12 :: .pl (.bool rb) :: List.replicate 6 .no))) := if_f (tnot_t (road2 _)) rfl
  -- the second half
  obtain ⟨lw, hlw, p14⟩ := pickN (env := ev cs (.pl (strsD xs) :: .pl (webD W) :: .pl (.dict (dS strsD W)) :: s5 :: s6 :: .ac (.dict (dS strsD (ups W))) :: .pl (.str one) :: s9 :: .pl (.str k) :: .pl (.str o) :: s12 :: .pl (.bool rb) :: List.replicate 6 .no)) (b := eIxV 1 (eC (.int 8))) (xs := xs) rfl (by omega) (e_cell (n := 8) rfl rfl (by omega)) (gc 8 (by omega))
  have e17 := set_is (i := 14) p14
  obtain ⟨hg, hhg, p15⟩ := pickN (env := ev cs (.pl (strsD xs) :: .pl (webD W) :: .pl (.dict (dS strsD W)) :: s5 :: s6 :: .ac (.dict (dS strsD (ups W))) :: .pl (.str one) :: s9 :: .pl (.str k) :: .pl (.str o) :: s12 :: .pl (.bool rb) :: .pl (.str lw) :: List.replicate 5 .no)) (b := eOp fdivD (eIxV 1 (eC (.int 8))) (eC (.int 10))) (xs := xs) rfl (by omega) (e_fdiv (e_cell (n := 8) rfl rfl (by omega)) rfl (by decide) (by decide)) (Int.ediv_nonneg (gc 8 (by omega)) (by decide))
  have e18 := set_is (i := 15) p15
  obtain ⟨un, hun, p16⟩ := pickN (env := ev cs (.pl (strsD xs) :: .pl (webD W) :: .pl (.dict (dS strsD W)) :: s5 :: s6 :: .ac (.dict (dS strsD (ups W))) :: .pl (.str one) :: s9 :: .pl (.str k) :: .pl (.str o) :: s12 :: .pl (.bool rb) :: .pl (.str lw) :: .pl (.str hg) :: List.replicate 4 .no)) (b := eIxV 1 (eC (.int 9))) (xs := xs) rfl (by omega) (e_cell (n := 9) rfl rfl (by omega)) (gc 9 (by omega))
  have e19 := set_is (i := 16) p16
  have hlw' : lw ∈ nm W := by rw [hnm]; exact hlw
  have hhg' : hg ∈ nm W := by rw [hnm]; exact hhg
  have hun' : un ∈ nm W := by rw [hnm]; exact hun
  have e20 : ∃ sh : List Str, sh.length ≤ 10 ∧ sSet 17 (eComp ["_law_name"] [1, 7, 14, 16] (iItems (eVar 2)) (gN 0) (tOrF (tBool (eOp (inD false) (eVar 0) (eDGetV 2 (eVar 3)))) (tAndF (tBool (eOp eqD (eOp modD (eOp fdivD (eIxV 1 (eC (.int 9))) (eC (.int 10))) (eC (.int 2))) (eC (.int 1)))) (tBool (eOp (inD false) (eVar 0) (eDGetV 2 (eVar 4)))))) (eVar 0)) (ev cs (.pl (strsD xs) :: .pl (webD W) :: .pl (.dict (dS strsD W)) :: s5 :: s6 :: .ac (.dict (dS strsD (ups W))) :: .pl (.str one) :: s9 :: .pl (.str k) :: .pl (.str o) :: s12 :: .pl (.bool rb) :: .pl (.str lw) :: .pl (.str hg) :: .pl (.str un) :: List.replicate 3 .no)) = some (.nx (ev cs (.pl (strsD xs) :: .pl (webD W) :: .pl (.dict (dS strsD W)) :: s5 :: s6 :: .ac (.dict (dS strsD (ups W))) :: .pl (.str one) :: s9 :: .pl (.str k) :: .pl (.str o) :: s12 :: .pl (.bool rb) :: .pl (.str lw) :: .pl (.str hg) :: .pl (.str un) :: .ac (strsD sh) :: List.replicate 2 .no))) := by
    let p : Str → Bool := fun x => decide (x ∈ up W lw) || ((cs[9]'(by omega) / 10 % 2 == 1) && decide (x ∈ up W un))
    have c : compL (gN 0) (tOrF (tBool (eOp (inD false) (eVar 0) (eDGetV 2 (eVar 3)))) (tAndF (tBool (eOp eqD (eOp modD (eOp fdivD (eIxV 1 (eC (.int 9))) (eC (.int 10))) (eC (.int 2))) (eC (.int 1)))) (tBool (eOp (inD false) (eVar 0) (eDGetV 2 (eVar 4)))))) (eVar 0) [.no, .pl (intsD cs), .pl (.dict (dS strsD (ups W))), .pl (.str lw), .pl (.str un)] (xs.map .str) = some ((xs.filter p).map .str) := by
      refine compL_filter p fun x hx => ⟨[.pl (.str x), .pl (intsD cs), .pl (.dict (dS strsD (ups W))), .pl (.str lw), .pl (.str un)], rfl, ?_, fun _ => ⟨vs x, rfl, rfl⟩⟩
      have t1 : tBool (eOp (inD false) (eVar 0) (eDGetV 2 (eVar 3))) [.pl (.str x), .pl (intsD cs), .pl (.dict (dS strsD (ups W))), .pl (.str lw), .pl (.str un)] = some (decide (x ∈ up W lw)) := t_bool (e_in (neg := false) rfl (e_getV (k := 2) (.inl rfl) rfl (upg hlw')))
      have t3 : tBool (eOp (inD false) (eVar 0) (eDGetV 2 (eVar 4))) [.pl (.str x), .pl (intsD cs), .pl (.dict (dS strsD (ups W))), .pl (.str lw), .pl (.str un)] = some (decide (x ∈ up W un)) := t_bool (e_in (neg := false) rfl (e_getV (k := 2) (.inl rfl) rfl (upg hun')))
      have t2 : tBool (eOp eqD (eOp modD (eOp fdivD (eIxV 1 (eC (.int 9))) (eC (.int 10))) (eC (.int 2))) (eC (.int 1))) [.pl (.str x), .pl (intsD cs), .pl (.dict (dS strsD (ups W))), .pl (.str lw), .pl (.str un)] = some (cs[9]'(by omega) / 10 % 2 == 1) := t_bool (e_eqi (e_mod (e_fdiv (e_cell (n := 9) rfl rfl (by omega)) rfl (by decide) (by decide)) rfl (by decide)) rfl)
      unfold tOrF tAndF
      rw [t1, Option.bind_some, t2, Option.bind_some, t3]
      show _ = some (decide (x ∈ up W lw) || ((cs[9]'(by omega) / 10 % 2 == 1) && decide (x ∈ up W un)))
      cases decide (x ∈ up W lw) <;> cases (cs[9]'(by omega) / 10 % 2 == 1) <;> rfl
    refine ⟨xs.filter p, Nat.le_trans (List.length_filter_le _ _) hx.2, set_is (r := ⟨strsD (xs.filter p), true, []⟩) ?_⟩
    rw [comp_is (own := ["_law_name"]) (fr := [1, 7, 14, 16]) (fi := iItems (eVar 2)) (ds := xs.map .str) (bs := []) rfl (by rw [List.length_map]; omega) c, flats_strs]
    rfl
  obtain ⟨sh, hsh, e20⟩ := e20
  obtain ⟨n8, hn8, p8'⟩ := pickN (env := ev cs (.pl (strsD xs) :: .pl (webD W) :: .pl (.dict (dS strsD W)) :: s5 :: s6 :: .ac (.dict (dS strsD (ups W))) :: .pl (.str one) :: s9 :: .pl (.str k) :: .pl (.str o) :: s12 :: .pl (.bool rb) :: .pl (.str lw) :: .pl (.str hg) :: .pl (.str un) :: .ac (strsD sh) :: List.replicate 2 .no)) (b := eOp fdivD (eIxV 1 (eC (.int 7))) (eC (.int 10))) (xs := xs) rfl (by omega) (e_fdiv (e_cell (n := 7) rfl rfl (by omega)) rfl (by decide) (by decide)) (Int.ediv_nonneg (gc 7 (by omega)) (by decide))
  obtain ⟨d2, fr2, gd2, sd2⟩ := g_law_spoilt (xs := sh) (n := n8) (ch := cs[5]'(by omega) / 10 % 13) (c := cs[9]'(by omega) / 20) (by omega) (ln n8 hn8) (Int.ediv_nonneg (gc 9 (by omega)) (by decide))
  have e21 : ∃ s17 s18, Hd d2 s18 ∧ sSet 18 (eCall 4 G_law_spoilt (aCons (eVar 17) (aCons (eOp modD (eOp fdivD (eIxV 1 (eC (.int 5))) (eC (.int 10))) (eC (.int 13))) (aCons (eOp fdivD (eIxV 1 (eC (.int 9))) (eC (.int 20))) (aCons (eIxV 2 (eOp modD (eOp fdivD (eIxV 1 (eC (.int 7))) (eC (.int 10))) (eCB lenD (aCons (eVar 2) aNil)))) aNil))))) (ev cs (.pl (strsD xs) :: .pl (webD W) :: .pl (.dict (dS strsD W)) :: s5 :: s6 :: .ac (.dict (dS strsD (ups W))) :: .pl (.str one) :: s9 :: .pl (.str k) :: .pl (.str o) :: s12 :: .pl (.bool rb) :: .pl (.str lw) :: .pl (.str hg) :: .pl (.str un) :: .ac (strsD sh) :: List.replicate 2 .no)) = some (.nx (ev cs (.pl (strsD xs) :: .pl (webD W) :: .pl (.dict (dS strsD W)) :: s5 :: s6 :: .ac (.dict (dS strsD (ups W))) :: .pl (.str one) :: s9 :: .pl (.str k) :: .pl (.str o) :: s12 :: .pl (.bool rb) :: .pl (.str lw) :: .pl (.str hg) :: .pl (.str un) :: s17 :: s18 :: List.replicate 1 .no))) := by
    have c := call_is (n := 4) (g := G_law_spoilt) (f := aCons (eVar 17) (aCons (eOp modD (eOp fdivD (eIxV 1 (eC (.int 5))) (eC (.int 10))) (eC (.int 13))) (aCons (eOp fdivD (eIxV 1 (eC (.int 9))) (eC (.int 20))) (aCons (eIxV 2 (eOp modD (eOp fdivD (eIxV 1 (eC (.int 7))) (eC (.int 10))) (eCB lenD (aCons (eVar 2) aNil)))) aNil)))) (rs := [⟨strsD sh, false, [17]⟩, vi (cs[5]'(by omega) / 10 % 13), vi (cs[9]'(by omega) / 20), vs n8]) (env := ev cs (.pl (strsD xs) :: .pl (webD W) :: .pl (.dict (dS strsD W)) :: s5 :: s6 :: .ac (.dict (dS strsD (ups W))) :: .pl (.str one) :: s9 :: .pl (.str k) :: .pl (.str o) :: s12 :: .pl (.bool rb) :: .pl (.str lw) :: .pl (.str hg) :: .pl (.str un) :: .ac (strsD sh) :: List.replicate 2 .no)) (args_cons (a := eVar 17) rfl (args_cons (e_mod (e_fdiv (e_cell (n := 5) rfl rfl (by omega)) rfl (by decide) (by decide)) rfl (by decide)) (args_cons (e_fdiv (e_cell (n := 9) rfl rfl (by omega)) rfl (by decide) (by decide)) (args1 p8')))) rfl gd2
    have hb : bsOf d2 (bss [⟨strsD sh, false, [17]⟩, vi (cs[5]'(by omega) / 10 % 13), vi (cs[9]'(by omega) / 20), vs n8]) = [] ∨ bsOf d2 (bss [⟨strsD sh, false, [17]⟩, vi (cs[5]'(by omega) / 10 % 13), vi (cs[9]'(by omega) / 20), vs n8]) = [17] := by
      unfold bsOf
      split
      · exact .inl rfl
      · exact .inr rfl
    rcases hb with hb | hb
    · rw [hb] at c
      exact ⟨.ac (strsD sh), slOf ⟨d2, fr2, []⟩, hd_sl, set_is c⟩
    · rw [hb] at c
      exact ⟨.pl (strsD sh), slOf ⟨d2, fr2, [17]⟩, hd_sl, set_is c⟩
  obtain ⟨s17, s18, hd18, e21⟩ := e21
  have gh1 := g_law_is_hedge ok (k := lw) (o := hg) d2 sd2
  have gh2 := g_is_hedge_any ok hlw' hhg' d2 sd2
  have hnu := hedge_not_up ok (k := lw) (o := hg) (d := d2) hlw'
  generalize hedgeOf W lw hg d2 = hb at gh1 gh2 hnu
  have e22 : sSet 19 (eCall 4 G_law_is_hedge (aCons (eVar 4) (aCons (eVar 14) (aCons (eVar 15) (aCons (eVar 18) aNil))))) (ev cs (.pl (strsD xs) :: .pl (webD W) :: .pl (.dict (dS strsD W)) :: s5 :: s6 :: .ac (.dict (dS strsD (ups W))) :: .pl (.str one) :: s9 :: .pl (.str k) :: .pl (.str o) :: s12 :: .pl (.bool rb) :: .pl (.str lw) :: .pl (.str hg) :: .pl (.str un) :: s17 :: s18 :: List.replicate 1 .no)) = some (.nx (ev cs (.pl (strsD xs) :: .pl (webD W) :: .pl (.dict (dS strsD W)) :: s5 :: s6 :: .ac (.dict (dS strsD (ups W))) :: .pl (.str one) :: s9 :: .pl (.str k) :: .pl (.str o) :: s12 :: .pl (.bool rb) :: .pl (.str lw) :: .pl (.str hg) :: .pl (.str un) :: s17 :: s18 :: [.pl (.bool hb)]))) := by
    obtain ⟨bs, hv⟩ := e_hd (env := ev cs (.pl (strsD xs) :: .pl (webD W) :: .pl (.dict (dS strsD W)) :: s5 :: s6 :: .ac (.dict (dS strsD (ups W))) :: .pl (.str one) :: s9 :: .pl (.str k) :: .pl (.str o) :: s12 :: .pl (.bool rb) :: .pl (.str lw) :: .pl (.str hg) :: .pl (.str un) :: s17 :: s18 :: List.replicate 1 .no)) (i := 18) rfl hd18
    exact set_is (r := vb hb) (call_is (n := 4) (rs := [⟨.dict (dS strsD W), false, []⟩, vs lw, vs hg, ⟨d2, false, bs⟩]) (args_cons rfl (args_cons rfl (args_cons rfl (args1 hv)))) rfl gh1)
  have hedge2 : eCall 2 G_law_is (aCons (eCall 4 G_is_hedge_k09 (aCons (eVar 3) (aCons (eVar 14) (aCons (eVar 15) (aCons (eVar 18) aNil))))) (aCons (eVar 19) aNil)) (ev cs (.pl (strsD xs) :: .pl (webD W) :: .pl (.dict (dS strsD W)) :: s5 :: s6 :: .ac (.dict (dS strsD (ups W))) :: .pl (.str one) :: s9 :: .pl (.str k) :: .pl (.str o) :: s12 :: .pl (.bool rb) :: .pl (.str lw) :: .pl (.str hg) :: .pl (.str un) :: s17 :: s18 :: [.pl (.bool hb)])) = some (vb true) := by
    obtain ⟨bs, hv⟩ := e_hd (env := ev cs (.pl (strsD xs) :: .pl (webD W) :: .pl (.dict (dS strsD W)) :: s5 :: s6 :: .ac (.dict (dS strsD (ups W))) :: .pl (.str one) :: s9 :: .pl (.str k) :: .pl (.str o) :: s12 :: .pl (.bool rb) :: .pl (.str lw) :: .pl (.str hg) :: .pl (.str un) :: s17 :: s18 :: [.pl (.bool hb)])) (i := 18) rfl hd18
    exact t_is2 (call_is (n := 4) (rs := [⟨webD W, false, []⟩, vs lw, vs hg, ⟨d2, false, bs⟩]) (args_cons rfl (args_cons rfl (args_cons rfl (args1 hv)))) rfl gh2) rfl
  have e23 : sIf (tAndF (tTru (eVar 19)) (tBool (eOp (inD false) (eVar 15) (eDGetV 7 (eVar 14))))) (sRet (eC (.bool false))) sNil (ev cs (.pl (strsD xs) :: .pl (webD W) :: .pl (.dict (dS strsD W)) :: s5 :: s6 :: .ac (.dict (dS strsD (ups W))) :: .pl (.str one) :: s9 :: .pl (.str k) :: .pl (.str o) :: s12 :: .pl (.bool rb) :: .pl (.str lw) :: .pl (.str hg) :: .pl (.str un) :: s17 :: s18 :: [.pl (.bool hb)])) = some (.nx (ev cs (.pl (strsD xs) :: .pl (webD W) :: .pl (.dict (dS strsD W)) :: s5 :: s6 :: .ac (.dict (dS strsD (ups W))) :: .pl (.str one) :: s9 :: .pl (.str k) :: .pl (.str o) :: s12 :: .pl (.bool rb) :: .pl (.str lw) :: .pl (.str hg) :: .pl (.str un) :: s17 :: s18 :: [.pl (.bool hb)]))) := by
    refine if_f ?_ rfl
    have t2 : tBool (eOp (inD false) (eVar 15) (eDGetV 7 (eVar 14))) (ev cs (.pl (strsD xs) :: .pl (webD W) :: .pl (.dict (dS strsD W)) :: s5 :: s6 :: .ac (.dict (dS strsD (ups W))) :: .pl (.str one) :: s9 :: .pl (.str k) :: .pl (.str o) :: s12 :: .pl (.bool rb) :: .pl (.str lw) :: .pl (.str hg) :: .pl (.str un) :: s17 :: s18 :: [.pl (.bool hb)])) = some (decide (hg ∈ up W lw)) := t_bool (e_in (neg := false) rfl (e_getV (k := 7) (.inr rfl) rfl (upg hlw')))
    cases hb' : hb with
    | false => rfl
    | true =>
      rw [hb'] at t2
      rw [decide_eq_false (hnu hb')] at t2
      exact t2
  refine seq_nx e2 (seq_nx e3 (seq_nx e4 (seq_nx e5 (seq_nx e7 (seq_nx e8 (seq_nx e9 (seq_nx e10 (seq_nx e11 (seq_nx e12 (seq_nx e13 (seq_nx e14 (seq_nx e15 (seq_nx e16 (seq_nx e17 (seq_nx e18 (seq_nx e19 (seq_nx e20 (seq_nx e21 (seq_nx e22 (seq_nx e23 (seq_nx (if_f (tnot_t hedge2) rfl) (ret_is (bs := []) ?_))))))))))))))))))))))
  have r1 := road2 [.pl (.str lw), .pl (.str hg), .pl (.str un), s17, s18, .pl (.bool hb)]
  unfold eAnd
  rw [r1]
  exact hedge2
end Bc

namespace Bc
open PySem L2

section
variable {P : Program} {w : World} {K : PySem.W.Frag} {mg : Str → Option Value} {base : Heap}
theorem drawB {s k : Int} (h1 : 0 ≤ s) (h2 : s < 2147483647) (h3 : 0 ≤ k) (h4 : k ≤ 64) : 0 ≤ s * (k + 2) + 7919 * k * k + 11 ∧ s * (k + 2) + 7919 * k * k + 11 < 200000000000 := by
  have a1 : 0 ≤ s * (k + 2) := Int.mul_nonneg h1 (by omega)
  have a2 : s * (k + 2) ≤ 2147483647 * 66 := Int.mul_le_mul (by omega) (by omega) (by omega) (by omega)
  have a3 : 0 ≤ 7919 * k * k := Int.mul_nonneg (by omega) h3
  have a4 : 7919 * k * k ≤ 7919 * 64 * 64 := Int.mul_le_mul (by omega) h4 h3 (by omega)
  omega
def spDraws (K : PySem.W.Frag) : Sp := fun vs H Q _ => ∃ (a : Addr) (ns : List Int) (m : Int), vs = [.ref a, .int m] ∧ SqL K H a (ns.map .int) ∧ 0 ≤ m ∧ m ≤ 64 ∧
  ∀ p H' (cs : List Int), H p = none → Same H H' → H' p = some (.lst (cs.map .int)) → cs.length = m.toNat → (∀ c ∈ cs, 0 ≤ c ∧ c < 1000000000000) → Q (.ref p) H'
theorem ok_law_draws {f : Addr} {fd : FuncData} (F : Fun K "_law_draws" "_law_draws" s_law_draws f fd) (T : Txt mg) : FnOk P w K mg base CX0 1 f fd ["_law_script", "_law_many"] (spDraws K) := by
  refine F.ok sc_law_draws (fun vs H Q E h => ?_) (fun cdv A outer s H vs Q E hr h => ?_)
  · obtain ⟨a, ns, m, rfl, _⟩ := h
    rfl
  · obtain ⟨a, ns, m, rfl, hS, h0, h64, k⟩ := h
    apply Exists.intro
    apply And.intro
    · refine' (pss_cons (ps_set (i := 2) nd_law_draws rfl (Or.inl rfl) pe_int)
  (pss_cons (ps_for PassesOwn.never rfl (pi_listK (K := K) rfl (pe_slice (sl_UK (K := K) rfl) (pv 0) po_none (po_some pe_int))) (pg_name (i := 3) nd_law_draws rfl (Or.inl rfl))
   (pss_one (ps_set (i := 2) nd_law_draws rfl (Or.inl rfl) (pe_op op_mod (pe_op (op_addUK (K := K) rfl) (pe_op op_mulU (pv 2) pe_int) (pe_op op_mod (pv 3) pe_int)) pe_int))))
  (pss_cons (ps_set (i := 4) nd_law_draws rfl (Or.inl rfl) (pe_lst pa_nil))
  (pss_cons (ps_for PassesOwn.never rfl (pi_range1 rfl T.range (pa_cons (pv 1) pa_nil)) (pg_name (i := 5) nd_law_draws rfl (Or.inl rfl))
   (pss_one (ps_if (pt_cmpR op_lt (pv 5) (pe_callB (call_lenK (K := K) rfl) (by rfl) T.len boot_len (pa_cons (pv 0) pa_nil)) (nomark _)) (pss_one (ps_expr (pe_bmK (K := K) rfl PySem.F.plainAttrs_list PySem.F.slot_list_append PySem.F.type_list_append mt_append (pv 4) (pa_cons (pe_op op_mod (pe_ix (ix_UK (K := K) rfl) (pv 0) (pv 5) (fun _ _ => rfl)) (pe_op op_pow pe_int pe_int)) pa_nil)))) (pss_one (ps_expr (pe_bmK (K := K) rfl PySem.F.plainAttrs_list PySem.F.slot_list_append PySem.F.type_list_append mt_append (pv 4) (pa_cons (pe_op op_fdiv (pe_op op_mod (pe_op op_pow (pe_op (op_addUK (K := K) rfl) (pe_op (op_addUK (K := K) rfl) (pe_op op_mulU (pv 2) (pe_op (op_addUK (K := K) rfl) (pv 5) pe_int)) (pe_op op_mulU (pe_op op_mulU pe_int (pv 5)) (pv 5))) pe_int) pe_int) pe_int) pe_int) pa_nil)))))))
  (pss_one (ps_ret (pv 4)))))))
    refine ⟨_, rfl, _, rfl, a, _, rfl, hS, fun p hp => ⟨p, rfl, ⟨_, SqL.of upd_same⟩, L2.for_list (xs := cutV (ns.map V.int) none (some 63)) (fun i σ H1 => ∃ (sd : Int) (v3 : Option V), σ = [some (.ref a), some (.int m), some (.int sd), v3, none, none] ∧ H1 = upd H p (.lst (cutV (ns.map V.int) none (some 63))) ∧ 0 ≤ sd ∧ sd < 2147483647)
      ⟨7, none, rfl, rfl, by decide, by decide⟩ (fun i σ H1 _ ⟨_, _, _, e, _⟩ => e ▸ SqL.of upd_same) ?_ ?_⟩⟩
    · rintro i x σ H1 hi ⟨sd, v3, rfl, rfl, b0, b1⟩
      obtain ⟨z, rfl⟩ : ∃ z, x = V.int z := by
        have hm := List.mem_of_getElem? hi
        unfold cutV at hm
        obtain ⟨z, _, e⟩ := List.mem_map.mp (List.mem_of_mem_drop (List.mem_of_mem_take hm))
        exact ⟨z, e.symm⟩
      refine ⟨_, rfl, .inl ⟨by omega, by omega⟩, _, rfl, _, _, rfl, rfl, (by show (0 : Int) < 2147483629; decide), _, _, rfl, rfl, (by show (0 : Int) < 2147483647; decide), ?_⟩
      exact ⟨_, _, rfl, rfl, Int.emod_nonneg _ (by decide), Int.emod_lt_of_pos _ (by decide)⟩
    · rintro σ H1 ⟨sd, v3, rfl, rfl, b0, b1⟩
      refine ⟨Nat.zero_le _, fun q hq => ?_⟩
      have hqH : H q = none := (Same.new hp).free hq
      have sH : ∀ o, Same H (upd (upd H p (.lst (cutV (ns.map V.int) none (some 63)))) q o) := fun o => (Same.new hp).upd hqH
      refine ⟨_, rfl, m, rfl, by omega, by omega, L2.for_range (n := m.toNat) (fun i σ H2 => ∃ (cs : List Int) (v5 : Option V), σ = [some (.ref a), some (.int m), some (.int sd), v3, some (.ref q), v5] ∧ H2 = upd (upd H p (.lst (cutV (ns.map V.int) none (some 63)))) q (.lst (cs.map .int)) ∧ cs.length = i ∧ ∀ c ∈ cs, 0 ≤ c ∧ c < 1000000000000)
        ⟨[], none, rfl, rfl, rfl, fun _ h => nomatch h⟩ ?_ ?_⟩
      · rintro i σ H2 hi ⟨cs, v5, rfl, rfl, hc, hp0⟩
        have hi64 : (i : Int) ≤ 64 := by omega
        refine ⟨_, rfl, _, rfl, _, _, rfl, .inl ⟨_, (sH _).seq hS, rfl⟩, _, _, rfl, rfl, _, rfl, ?_⟩
        have lz : (cs.map V.int).length < sizeLine := by rw [List.length_map, hc]; exact Nat.lt_of_le_of_lt (show i ≤ 64 by omega) (by decide)
        have fin : ∀ v : Int, 0 ≤ v → v < 1000000000000 → ∃ (cs' : List Int) (v5 : Option V), [some (.ref a), some (.int m), some (.int sd), v3, some (.ref q), some (.int (0 + (i : Int)))] = [some (.ref a), some (.int m), some (.int sd), v3, some (.ref q), v5] ∧
            upd (upd (upd H p (.lst (cutV (ns.map V.int) none (some 63)))) q (.lst (cs.map .int))) q (.lst (cs.map V.int ++ [.int v])) = upd (upd H p (.lst (cutV (ns.map V.int) none (some 63)))) q (.lst (cs'.map .int)) ∧ cs'.length = i + 1 ∧ ∀ c ∈ cs', 0 ≤ c ∧ c < 1000000000000 := fun v hv hv2 => by
          refine ⟨cs ++ [v], _, rfl, ?_, by simp [hc], fun c h => ?_⟩
          · rw [upd_upd, List.map_append]; rfl
          · rcases List.mem_append.mp h with h | h
            · exact hp0 c h
            · rw [List.mem_singleton.mp h]; exact ⟨hv, hv2⟩
        refine ite2 (fun h => ?_) (fun h => ?_)
        · have h : (0 : Int) + i < ((ns.map V.int).length : Nat) := of_decide_eq_true h
          rw [List.length_map] at h
          have hin : i < ns.length := by omega
          have ga : atI (ns.map V.int) (0 + (i : Int)) = some (.int ns[i]) := by
            rw [Int.zero_add]
            exact atI_nat (by rw [List.getElem?_map, List.getElem?_eq_getElem hin]; rfl)
          refine ⟨_, rfl, .inl ⟨rfl, _, SqL.of upd_same⟩, _, rfl, _, rfl, _, _, .inl ((sH _).seq hS), ga, _, _, rfl, rfl, ⟨by decide, by decide, by decide⟩, _, _, rfl, rfl, (by show (0 : Int) < 10 ^ 12; decide), q, _, _, rfl, rfl, upd_same, lz, ?_⟩
          exact fin _ (Int.emod_nonneg _ (by decide)) (Int.emod_lt_of_pos _ (by decide))
        · obtain ⟨d1, d2⟩ := drawB (s := sd) (k := 0 + (i : Int)) b0 b1 (by omega) (by omega)
          refine ⟨_, rfl, .inl ⟨rfl, _, SqL.of upd_same⟩, _, rfl, _, rfl, .inl ⟨by omega, by omega⟩, _, rfl, .inl ⟨by decide, by decide⟩, _, rfl, .inr ⟨by omega, by omega⟩, ?_⟩
          refine ⟨_, _, rfl, rfl, ⟨by decide, by decide, ?_⟩, _, _, rfl, rfl, (by show (0 : Int) < 2147483647; decide), _, _, rfl, rfl, ⟨by decide, by decide⟩, q, _, _, rfl, rfl, upd_same, lz, ?_⟩
          · show (sd * (0 + (i : Int) + 2) + 7919 * (0 + (i : Int)) * (0 + (i : Int)) + 11).natAbs < 2 ^ 64
            omega
          · refine fin _ (Int.ediv_nonneg (Int.emod_nonneg _ (by decide)) (by decide)) ?_
            have h9 : ∀ z : Int, z % 2147483647 / 7 < 1000000000000 := fun z => by have := Int.emod_lt_of_pos z (show (0 : Int) < 2147483647 by decide); omega
            exact h9 _
      · rintro σ H2 ⟨cs, v5, rfl, rfl, hc, hp0⟩
        exact ⟨_, rfl, k q _ cs hqH (sH _) upd_same hc hp0⟩
end

section
variable {P : Program} {w : World} {K : PySem.W.Frag} {mg : Str → Option Value} {base : Heap}
def spLaw (K : PySem.W.Frag) : Sp := fun vs H Q _ => ∃ (a : Addr) (ns : List Int), vs = [.ref a] ∧ SqL K H a (ns.map V.int) ∧ ∀ H', Q (.bl true) H'
theorem ok_law {f : Addr} {fd : FuncData} (F : Fun K "law" "law" s_law f fd) (T : Txt mg) (D_law_draws : Dn P w K mg base "_law_draws" ["_law_script", "_law_many"] 1 (spDraws K)) (D_law_is : Dn P w K mg base "_law_is" ["_law_found", "_law_due"] 1 (spD 2 G_law_is)) (D_law_is_hedge : Dn P w K mg base "_law_is_hedge" ["_law_elders_by", "_law_kind", "_law_other", "_law_thing"] 1 (spD 4 G_law_is_hedge)) (D_law_is_road : Dn P w K mg base "_law_is_road" ["_law_elders_by", "_law_kind", "_law_other", "_law_thing"] 1 (spD 4 G_law_is_road)) (D_law_names : Dn P w K mg base "_law_names" ["_law_many", "_law_cell"] 1 (spD 2 G_law_names)) (D_law_spoilt : Dn P w K mg base "_law_spoilt" ["_law_row", "_law_choice", "_law_cell", "_law_name"] 1 (spD 4 G_law_spoilt)) (D_law_up : Dn P w K mg base "_law_up" ["_law_web_here"] 1 (spD 1 G_law_up)) (D_law_way : Dn P w K mg base "_law_way" ["_law_elders_by", "_law_name", "_law_cell"] 1 (spD 3 G_law_way)) (D_law_web : Dn P w K mg base "_law_web" ["_law_cells", "_law_names_here"] 1 (spD 2 G_law_net)) (D_is_hedge : Dn P w K mg base "is_hedge" ["web", "kind", "other", "thing"] 3 (spD 4 G_is_hedge_k09)) (D_is_road : Dn P w K mg base "is_road" ["web", "kind", "other", "thing"] 3 (spD 4 G_is_road_k09)) : FnOk P w K mg base CX0 4 f fd ["_law_script"] (spLaw K) := by
  refine F.ok sc_law (fun vs H Q E h => ?_) (fun cdv A outer s H vs Q E hr h => ?_)
  · obtain ⟨a, ns, rfl, _⟩ := h
    rfl
  · obtain ⟨a, ns, rfl, hS, k⟩ := h
    have hu := hu_of hr
    apply Exists.intro
    apply And.intro
    · refine' Bx.out (bpss_cons (bps_set (i := 1) nd_law rfl (Or.inr rfl) (bpe_dn D_law_draws (hr.mono (by decide)) (by rfl) (bpa_consF (bv 0) (bpa_consF bpe_int bpa_nil (by rfl)) (by rfl)) (by decide) (star_each (by rfl)) (by rfl)) (by rfl) (by first | exact .inl rfl | exact .inr rfl | assumption))
  (bpss_cons (bps_set (i := 2) nd_law rfl (Or.inl rfl) (bpe_dn D_law_names (hr.mono (by decide)) (by rfl) (bpa_consF (bpe_op (op_addUK (K := K) rfl) bpe_int (bpe_op op_mod (bpe_ix (ix_UK (K := K) rfl) (bv 1) bpe_int (fun _ _ => rfl)) bpe_int)) (bpa_consF (bpe_ix (ix_UK (K := K) rfl) (bv 1) bpe_int (fun _ _ => rfl)) bpa_nil (by rfl)) (by rfl)) (by decide) (star_each (by rfl)) (by rfl)) (by rfl) (by first | exact .inl rfl | exact .inr rfl | assumption))
  (bpss_cons (bps_set (i := 3) nd_law rfl (Or.inl rfl) (bpe_dn D_law_web (hr.mono (by decide)) (by rfl) (bpa_consF (bpe_slice (sl_UK (K := K) rfl) (bv 1) (bpo_some bpe_int) (bpo_some bpe_int)) (bpa_consF (bv 2) bpa_nil (by rfl)) (by rfl)) (by decide) (star_each (by rfl)) (by rfl)) (by rfl) (by first | exact .inl rfl | exact .inr rfl | assumption))
  (bpss_cons (bps_set (i := 4) nd_law rfl (Or.inl rfl) bpe_dnewK (by rfl) (by first | exact .inl rfl | exact .inr rfl | assumption))
  (bpss_cons (bps_for PassesOwn.never rfl (bpi_seqK (K := K) rfl (bv 3)) (bpg_tupK (K := K) (n := 2) rfl rfl (bpgs_cons (bpg_name (i := 5) nd_law rfl (Or.inl rfl) (by first | exact .inl rfl | exact .inr rfl | assumption)) (bpgs_cons (bpg_name (i := 6) nd_law rfl (Or.inl rfl) (by first | exact .inl rfl | exact .inr rfl | assumption)) bpgs_nil (by rfl)) (by rfl)) (by rfl) (by rfl))
   (bpss_one (bps_dput hu (bv 4) (bv 5) (bv 6) rfl)) (by intro _; rfl))
  (bpss_cons (bps_set (i := 7) nd_law rfl (Or.inr rfl) (bpe_dn D_law_up (hr.mono (by decide)) (by rfl) (bpa_consF (bv 3) bpa_nil (by rfl)) (by decide) (star_each (by rfl)) (by rfl)) (by rfl) (by first | exact .inl rfl | exact .inr rfl | assumption))
  (bpss_cons (bps_set (i := 8) nd_law rfl (Or.inl rfl) (bpe_ix (ix_UK (K := K) rfl) (bv 2) (bpe_op op_mod (bpe_op op_fdiv (bpe_ix (ix_UK (K := K) rfl) (bv 1) bpe_int (fun _ _ => rfl)) bpe_int) (bpe_callB (call_lenK (K := K) rfl) (by rfl) T.len boot_len (bpa_consF (bv 2) bpa_nil (by rfl)) (by decide) (by decide) (star_each (by rfl)) (by rfl))) (fun _ _ => rfl)) (by rfl) (by first | exact .inl rfl | exact .inr rfl | assumption))
  (bpss_cons (bps_set (i := 9) nd_law rfl (Or.inl rfl) (bpe_dn D_law_way (hr.mono (by decide)) (by rfl) (bpa_consF (bv 4) (bpa_consF (bv 8) (bpa_consF (bpe_ix (ix_UK (K := K) rfl) (bv 1) bpe_int (fun _ _ => rfl)) bpa_nil (by rfl)) (by rfl)) (by rfl)) (by decide) (star_each (by rfl)) (by rfl)) (by rfl) (by first | exact .inl rfl | exact .inr rfl | assumption))
  (bpss_cons (bps_set (i := 10) nd_law rfl (Or.inl rfl) (bpe_ix (ix_UK (K := K) rfl) (bv 2) (bpe_op op_mod (bpe_ix (ix_UK (K := K) rfl) (bv 1) bpe_int (fun _ _ => rfl)) (bpe_callB (call_lenK (K := K) rfl) (by rfl) T.len boot_len (bpa_consF (bv 2) bpa_nil (by rfl)) (by decide) (by decide) (star_each (by rfl)) (by rfl))) (fun _ _ => rfl)) (by rfl) (by first | exact .inl rfl | exact .inr rfl | assumption))
  (bpss_cons (bps_set (i := 11) nd_law rfl (Or.inl rfl) (bpe_ix (ix_UK (K := K) rfl) (bv 2) (bpe_op op_mod (bpe_ix (ix_UK (K := K) rfl) (bv 1) bpe_int (fun _ _ => rfl)) (bpe_callB (call_lenK (K := K) rfl) (by rfl) T.len boot_len (bpa_consF (bv 2) bpa_nil (by rfl)) (by decide) (by decide) (star_each (by rfl)) (by rfl))) (fun _ _ => rfl)) (by rfl) (by first | exact .inl rfl | exact .inr rfl | assumption))
  (bpss_cons (bps_if (bpt_cmpR op_gt (bpe_op op_mod (bpe_ix (ix_UK (K := K) rfl) (bv 1) bpe_int (fun _ _ => rfl)) bpe_int) bpe_int (nomark _)) (bpss_cons (bps_set (i := 10) nd_law rfl (Or.inl rfl) (bpe_ix (ix_UK (K := K) rfl) (bv 9) bpe_int (fun _ _ => rfl)) (by rfl) (by first | exact .inl rfl | exact .inr rfl | assumption))
  (bpss_one (bps_set (i := 11) nd_law rfl (Or.inl rfl) (bpe_ix (ix_UK (K := K) rfl) (bv 9) (bpe_un un_neg bpe_int) (fun _ _ => rfl)) (by rfl) (by first | exact .inl rfl | exact .inr rfl | assumption)))) bpss_nil)
  (bpss_cons (bps_set (i := 12) nd_law rfl (Or.inl rfl) (bpe_dn D_law_spoilt (hr.mono (by decide)) (by rfl) (bpa_consF (bv 9) (bpa_consF (bpe_op op_mod (bpe_op op_fdiv (bpe_ix (ix_UK (K := K) rfl) (bv 1) bpe_int (fun _ _ => rfl)) bpe_int) bpe_int) (bpa_consF (bpe_ix (ix_UK (K := K) rfl) (bv 1) bpe_int (fun _ _ => rfl)) (bpa_consF (bpe_ix (ix_UK (K := K) rfl) (bv 2) (bpe_op op_mod (bpe_ix (ix_UK (K := K) rfl) (bv 1) bpe_int (fun _ _ => rfl)) (bpe_callB (call_lenK (K := K) rfl) (by rfl) T.len boot_len (bpa_consF (bv 2) bpa_nil (by rfl)) (by decide) (by decide) (star_each (by rfl)) (by rfl))) (fun _ _ => rfl)) bpa_nil (by rfl)) (by rfl)) (by rfl)) (by rfl)) (by decide) (star_each (by rfl)) (by rfl)) (by rfl) (by first | exact .inl rfl | exact .inr rfl | assumption))
  (bpss_cons (bps_set (i := 13) nd_law rfl (Or.inl rfl) (bpe_dn D_law_is_road (hr.mono (by decide)) (by rfl) (bpa_consF (bv 4) (bpa_consF (bv 10) (bpa_consF (bv 11) (bpa_consF (bv 12) bpa_nil (by rfl)) (by rfl)) (by rfl)) (by rfl)) (by decide) (star_each (by rfl)) (by rfl)) (by rfl) (by first | exact .inl rfl | exact .inr rfl | assumption))
  (bpss_cons (bps_if (bpw_and (bpt_truthK (K := K) rfl (bv 13) (fun _ => rfl)) (bpw_and1 (bpt_cmpR (op_notInK (K := K) rfl) (bv 11) (bpe_dget hu (bv 7) (bv 10) (fun _ _ => rfl)) (by rfl)))).pt (bpss_one (bps_ret bpe_bl)) bpss_nil)
  (bpss_cons (bps_if (bpt_not (bpt_truthK (K := K) rfl (bpe_dn D_law_is (hr.mono (by decide)) (by rfl) (bpa_consF (bpe_dn D_is_road (hr.mono (by decide)) (by rfl) (bpa_consF (bv 3) (bpa_consF (bv 10) (bpa_consF (bv 11) (bpa_consF (bv 12) bpa_nil (by rfl)) (by rfl)) (by rfl)) (by rfl)) (by decide) (star_each (by rfl)) (by rfl)) (bpa_consF (bv 13) bpa_nil (by rfl)) (by rfl)) (by decide) (star_each (by rfl)) (by rfl)) (fun _ => rfl))) (bpss_one (bps_ret bpe_bl)) bpss_nil)
  (bpss_cons (bps_set (i := 14) nd_law rfl (Or.inr rfl) (bpe_ix (ix_UK (K := K) rfl) (bv 2) (bpe_op op_mod (bpe_ix (ix_UK (K := K) rfl) (bv 1) bpe_int (fun _ _ => rfl)) (bpe_callB (call_lenK (K := K) rfl) (by rfl) T.len boot_len (bpa_consF (bv 2) bpa_nil (by rfl)) (by decide) (by decide) (star_each (by rfl)) (by rfl))) (fun _ _ => rfl)) (by rfl) (by first | exact .inl rfl | exact .inr rfl | assumption))
  (bpss_cons (bps_set (i := 15) nd_law rfl (Or.inl rfl) (bpe_ix (ix_UK (K := K) rfl) (bv 2) (bpe_op op_mod (bpe_op op_fdiv (bpe_ix (ix_UK (K := K) rfl) (bv 1) bpe_int (fun _ _ => rfl)) bpe_int) (bpe_callB (call_lenK (K := K) rfl) (by rfl) T.len boot_len (bpa_consF (bv 2) bpa_nil (by rfl)) (by decide) (by decide) (star_each (by rfl)) (by rfl))) (fun _ _ => rfl)) (by rfl) (by first | exact .inl rfl | exact .inr rfl | assumption))
  (bpss_cons (bps_set (i := 16) nd_law rfl (Or.inr rfl) (bpe_ix (ix_UK (K := K) rfl) (bv 2) (bpe_op op_mod (bpe_ix (ix_UK (K := K) rfl) (bv 1) bpe_int (fun _ _ => rfl)) (bpe_callB (call_lenK (K := K) rfl) (by rfl) T.len boot_len (bpa_consF (bv 2) bpa_nil (by rfl)) (by decide) (by decide) (star_each (by rfl)) (by rfl))) (fun _ _ => rfl)) (by rfl) (by first | exact .inl rfl | exact .inr rfl | assumption))
  (bpss_cons (bps_comp1 (i := 17) (compOk_of (N' := ["_law_name", "_law_cells", "_law_up_here", "_law_low", "_law_under"]) (own := ["_law_name"]) (fr := [1, 7, 14, 16]) (by kernel_rfl)) rfl (bpi_seqK (K := K) rfl (bv 2)) ?hb1 (by rfl) nd_law rfl rfl (by intro _; rfl))
  (bpss_cons (bps_set (i := 18) nd_law rfl (Or.inl rfl) (bpe_dn D_law_spoilt (hr.mono (by decide)) (by rfl) (bpa_consF (bv 17) (bpa_consF (bpe_op op_mod (bpe_op op_fdiv (bpe_ix (ix_UK (K := K) rfl) (bv 1) bpe_int (fun _ _ => rfl)) bpe_int) bpe_int) (bpa_consF (bpe_op op_fdiv (bpe_ix (ix_UK (K := K) rfl) (bv 1) bpe_int (fun _ _ => rfl)) bpe_int) (bpa_consF (bpe_ix (ix_UK (K := K) rfl) (bv 2) (bpe_op op_mod (bpe_op op_fdiv (bpe_ix (ix_UK (K := K) rfl) (bv 1) bpe_int (fun _ _ => rfl)) bpe_int) (bpe_callB (call_lenK (K := K) rfl) (by rfl) T.len boot_len (bpa_consF (bv 2) bpa_nil (by rfl)) (by decide) (by decide) (star_each (by rfl)) (by rfl))) (fun _ _ => rfl)) bpa_nil (by rfl)) (by rfl)) (by rfl)) (by rfl)) (by decide) (star_each (by rfl)) (by rfl)) (by rfl) (by first | exact .inl rfl | exact .inr rfl | assumption))
  (bpss_cons (bps_set (i := 19) nd_law rfl (Or.inl rfl) (bpe_dn D_law_is_hedge (hr.mono (by decide)) (by rfl) (bpa_consF (bv 4) (bpa_consF (bv 14) (bpa_consF (bv 15) (bpa_consF (bv 18) bpa_nil (by rfl)) (by rfl)) (by rfl)) (by rfl)) (by decide) (star_each (by rfl)) (by rfl)) (by rfl) (by first | exact .inl rfl | exact .inr rfl | assumption))
  (bpss_cons (bps_if (bpw_and (bpt_truthK (K := K) rfl (bv 19) (fun _ => rfl)) (bpw_and1 (bpt_cmpR (op_inK (K := K) rfl) (bv 15) (bpe_dget hu (bv 7) (bv 14) (fun _ _ => rfl)) (by rfl)))).pt (bpss_one (bps_ret bpe_bl)) bpss_nil)
  (bpss_cons (bps_if (bpt_not (bpt_truthK (K := K) rfl (bpe_dn D_law_is (hr.mono (by decide)) (by rfl) (bpa_consF (bpe_dn D_is_hedge (hr.mono (by decide)) (by rfl) (bpa_consF (bv 3) (bpa_consF (bv 14) (bpa_consF (bv 15) (bpa_consF (bv 18) bpa_nil (by rfl)) (by rfl)) (by rfl)) (by rfl)) (by decide) (star_each (by rfl)) (by rfl)) (bpa_consF (bv 19) bpa_nil (by rfl)) (by rfl)) (by decide) (star_each (by rfl)) (by rfl)) (fun _ => rfl))) (bpss_one (bps_ret bpe_bl)) bpss_nil)
  (bpss_one (bps_ret (bpe_and (bpe_dn D_law_is (hr.mono (by decide)) (by rfl) (bpa_consF (bpe_dn D_is_road (hr.mono (by decide)) (by rfl) (bpa_consF (bv 3) (bpa_consF (bv 10) (bpa_consF (bv 11) (bpa_consF (bv 12) bpa_nil (by rfl)) (by rfl)) (by rfl)) (by rfl)) (by decide) (star_each (by rfl)) (by rfl)) (bpa_consF (bv 13) bpa_nil (by rfl)) (by rfl)) (by decide) (star_each (by rfl)) (by rfl)) (bpe_one (bpe_dn D_law_is (hr.mono (by decide)) (by rfl) (bpa_consF (bpe_dn D_is_hedge (hr.mono (by decide)) (by rfl) (bpa_consF (bv 3) (bpa_consF (bv 14) (bpa_consF (bv 15) (bpa_consF (bv 18) bpa_nil (by rfl)) (by rfl)) (by rfl)) (by rfl)) (by decide) (star_each (by rfl)) (by rfl)) (bpa_consF (bv 19) bpa_nil (by rfl)) (by rfl)) (by decide) (star_each (by rfl)) (by rfl)))))))))))))))))))))))))))))
      case hb1 => (intro cl C s H fp; refine' ⟨Bx.out (bpg_name (i := 0) nd_law_c1 rfl (Or.inl rfl) (by first | exact .inl rfl | exact .inr rfl | assumption)), Bx.out (bpf_one (bpw_or (bpt_cmpR (op_inK (K := K) rfl) (bv 0) (bpe_dget hu (bv 2) (bv 3) (fun _ _ => rfl)) (by rfl)) (bpw_or1 (bpw_and (bpt_cmpR (op_eqA (K := K) rfl hr.units) (bpe_op op_mod (bpe_op op_fdiv (bpe_ix (ix_UK (K := K) rfl) (bv 1) bpe_int (fun _ _ => rfl)) bpe_int) bpe_int) bpe_int (nomark _)) (bpw_and1 (bpt_cmpR (op_inK (K := K) rfl) (bv 0) (bpe_dget hu (bv 2) (bv 4) (fun _ _ => rfl)) (by rfl)))).pt)).pt), Bx.out (bv 0)⟩)
    refine ⟨_, rfl, a, ns, 20, rfl, hS, by decide, by decide, fun pc H1 cs hpc s1 e1 lc p1 => ?_⟩
    exact law_end (F := F_law_k09) ((ss_seq (ss_set (se_call (sa_cons (se_op so_add (se_c fun _ => rp_mk_int) (se_op so_mod (se_ixv (se_c fun _ => rp_mk_int)) (se_c fun _ => rp_mk_int))) (sa_cons (se_ixv (se_c fun _ => rp_mk_int)) sa_nil)))) (ss_seq (ss_set (se_call (sa_cons (se_sl (se_var 1) (sp_some (se_c fun _ => rp_mk_int)) (sp_some (se_c fun _ => rp_mk_int))) (sa_cons (se_var 2) sa_nil)))) (ss_seq (ss_set se_dnew) (ss_seq (ss_for (si_seq (se_var 3)) (sg_tup (sgs_cons (sgs_cons sgs_nil))) (ss_put (se_var 5) (se_var 6))) (ss_seq (ss_set (se_call (sa_cons (se_var 3) sa_nil))) (ss_seq (ss_set (se_ixv (se_op so_mod (se_op so_fdiv (se_ixv (se_c fun _ => rp_mk_int)) (se_c fun _ => rp_mk_int)) (se_cb sc_len (sa_cons (se_var 2) sa_nil))))) (ss_seq (ss_set (se_call (sa_cons (se_var 4) (sa_cons (se_var 8) (sa_cons (se_ixv (se_c fun _ => rp_mk_int)) sa_nil))))) (ss_seq (ss_set (se_ixv (se_op so_mod (se_ixv (se_c fun _ => rp_mk_int)) (se_cb sc_len (sa_cons (se_var 2) sa_nil))))) (ss_seq (ss_set (se_ixv (se_op so_mod (se_ixv (se_c fun _ => rp_mk_int)) (se_cb sc_len (sa_cons (se_var 2) sa_nil))))) (ss_seq (ss_if (st_t (se_op so_gt (se_op so_mod (se_ixv (se_c fun _ => rp_mk_int)) (se_c fun _ => rp_mk_int)) (se_c fun _ => rp_mk_int))) (ss_seq (ss_set (se_ixv (se_c fun _ => rp_mk_int))) (ss_set (se_ixv (se_neg (se_c fun _ => rp_mk_int))))) ss_nil) (ss_seq (ss_set (se_call (sa_cons (se_var 9) (sa_cons (se_op so_mod (se_op so_fdiv (se_ixv (se_c fun _ => rp_mk_int)) (se_c fun _ => rp_mk_int)) (se_c fun _ => rp_mk_int)) (sa_cons (se_ixv (se_c fun _ => rp_mk_int)) (sa_cons (se_ixv (se_op so_mod (se_ixv (se_c fun _ => rp_mk_int)) (se_cb sc_len (sa_cons (se_var 2) sa_nil)))) sa_nil)))))) (ss_seq (ss_set (se_call (sa_cons (se_var 4) (sa_cons (se_var 10) (sa_cons (se_var 11) (sa_cons (se_var 12) sa_nil)))))) (ss_seq (ss_if (st_and (st_tru (se_var 13)) (st_t (se_op so_in (se_var 11) (se_dgetv (se_var 10))))) (ss_ret (se_c fun _ => rp_mk_bool)) ss_nil) (ss_seq (ss_if (st_not (st_tru (se_call (sa_cons (se_call (sa_cons (se_var 3) (sa_cons (se_var 10) (sa_cons (se_var 11) (sa_cons (se_var 12) sa_nil))))) (sa_cons (se_var 13) sa_nil))))) (ss_ret (se_c fun _ => rp_mk_bool)) ss_nil) (ss_seq (ss_set (se_ixv (se_op so_mod (se_ixv (se_c fun _ => rp_mk_int)) (se_cb sc_len (sa_cons (se_var 2) sa_nil))))) (ss_seq (ss_set (se_ixv (se_op so_mod (se_op so_fdiv (se_ixv (se_c fun _ => rp_mk_int)) (se_c fun _ => rp_mk_int)) (se_cb sc_len (sa_cons (se_var 2) sa_nil))))) (ss_seq (ss_set (se_ixv (se_op so_mod (se_ixv (se_c fun _ => rp_mk_int)) (se_cb sc_len (sa_cons (se_var 2) sa_nil))))) (ss_seq (ss_set (se_comp (si_seq (se_var 2)) sg_name (gx_name (by decide)) (st_or (st_t (se_op so_in (se_var 0) (se_dgetv (se_var 3)))) (st_and (st_t (se_op so_eq (se_op so_mod (se_op so_fdiv (se_ixv (se_c fun _ => rp_mk_int)) (se_c fun _ => rp_mk_int)) (se_c fun _ => rp_mk_int)) (se_c fun _ => rp_mk_int))) (st_t (se_op so_in (se_var 0) (se_dgetv (se_var 4)))))) (se_var 0))) (ss_seq (ss_set (se_call (sa_cons (se_var 17) (sa_cons (se_op so_mod (se_op so_fdiv (se_ixv (se_c fun _ => rp_mk_int)) (se_c fun _ => rp_mk_int)) (se_c fun _ => rp_mk_int)) (sa_cons (se_op so_fdiv (se_ixv (se_c fun _ => rp_mk_int)) (se_c fun _ => rp_mk_int)) (sa_cons (se_ixv (se_op so_mod (se_op so_fdiv (se_ixv (se_c fun _ => rp_mk_int)) (se_c fun _ => rp_mk_int)) (se_cb sc_len (sa_cons (se_var 2) sa_nil)))) sa_nil)))))) (ss_seq (ss_set (se_call (sa_cons (se_var 4) (sa_cons (se_var 14) (sa_cons (se_var 15) (sa_cons (se_var 18) sa_nil)))))) (ss_seq (ss_if (st_and (st_tru (se_var 19)) (st_t (se_op so_in (se_var 15) (se_dgetv (se_var 14))))) (ss_ret (se_c fun _ => rp_mk_bool)) ss_nil) (ss_seq (ss_if (st_not (st_tru (se_call (sa_cons (se_call (sa_cons (se_var 3) (sa_cons (se_var 14) (sa_cons (se_var 15) (sa_cons (se_var 18) sa_nil))))) (sa_cons (se_var 19) sa_nil))))) (ss_ret (se_c fun _ => rp_mk_bool)) ss_nil) (ss_ret (se_and (se_call (sa_cons (se_call (sa_cons (se_var 3) (sa_cons (se_var 10) (sa_cons (se_var 11) (sa_cons (se_var 12) sa_nil))))) (sa_cons (se_var 13) sa_nil))) (se_call (sa_cons (se_call (sa_cons (se_var 3) (sa_cons (se_var 14) (sa_cons (se_var 15) (sa_cons (se_var 18) sa_nil))))) (sa_cons (se_var 19) sa_nil)))))))))))))))))))))))))))) (env_law (n := 18) e1) (pure_k09 lc (fun c h => (p1 c h).1)) k
end
theorem all_mk {l : PySem.W.OpenLaw} {w : World} {K : PySem.W.Frag} {h : Heap} {mg : Str → Option Value} {fa f1 f2 f3 f4 f5 f6 f7 f8 f9 f10 f11 f12 f13 f14 f15 : Addr} (X : K.In h) (G : h.Ns mainGlobals mg) (hfa : mg "law" = some (.ref fa))
    {od1 an1 od2 an2 od3 an3 od4 an4 od5 an5 od6 an6 od7 an7 od8 an8 od9 an9 od10 an10 od11 an11 od12 an12 od13 an13 od14 an14 od15 an15 : Option Addr} {sl1 sl2 sl3 sl4 sl5 sl6 sl7 sl8 sl9 sl10 sl11 sl12 sl13 sl14 sl15 : Array (Option Value)} {oc1 kV1 dc1 pm1 cd1 ct1 oc2 kV2 dc2 pm2 cd2 ct2 oc3 kV3 dc3 pm3 cd3 ct3 oc4 kV4 dc4 pm4 cd4 ct4 oc5 kV5 dc5 pm5 cd5 ct5 oc6 kV6 dc6 pm6 cd6 ct6 oc7 kV7 dc7 pm7 cd7 ct7 oc8 kV8 dc8 pm8 cd8 ct8 oc9 kV9 dc9 pm9 cd9 ct9 oc10 kV10 dc10 pm10 cd10 ct10 oc11 kV11 dc11 pm11 cd11 ct11 oc12 kV12 dc12 pm12 cd12 ct12 oc13 kV13 dc13 pm13 cd13 ct13 oc14 kV14 dc14 pm14 cd14 ct14 oc15 kV15 dc15 pm15 cd15 ct15 : Value}
    (a1 : PySem.W.nsIn K mainGlobals "are_unlike_of" = some (some (.ref f1))) (l1 : K.lookup f1 = some ⟨oc1, od1, .func (PySem.W.fnOf "are_unlike_of" "are_unlike_of" (defArgs s_are_unlike_of) (defBody s_are_unlike_of) (defScope s_are_unlike_of) .none kV1 dc1 pm1 an1 cd1 ct1), sl1⟩) (c1 : PySem.W.codeIn K cd1 "are_unlike_of" = true) (k1 : PySem.W.keepIn K (.ref f1) = true)
    (a2 : PySem.W.nsIn K mainGlobals "names_of" = some (some (.ref f2))) (l2 : K.lookup f2 = some ⟨oc2, od2, .func (PySem.W.fnOf "names_of" "names_of" (defArgs s_names_of) (defBody s_names_of) (defScope s_names_of) .none kV2 dc2 pm2 an2 cd2 ct2), sl2⟩) (c2 : PySem.W.codeIn K cd2 "names_of" = true) (k2 : PySem.W.keepIn K (.ref f2) = true)
    (a3 : PySem.W.nsIn K mainGlobals "check_kinds" = some (some (.ref f3))) (l3 : K.lookup f3 = some ⟨oc3, od3, .func (PySem.W.fnOf "check_kinds" "check_kinds" (defArgs s_check_kinds) (defBody s_check_kinds) (defScope s_check_kinds) .none kV3 dc3 pm3 an3 cd3 ct3), sl3⟩) (c3 : PySem.W.codeIn K cd3 "check_kinds" = true) (k3 : PySem.W.keepIn K (.ref f3) = true)
    (a4 : PySem.W.nsIn K mainGlobals "is_road" = some (some (.ref f4))) (l4 : K.lookup f4 = some ⟨oc4, od4, .func (PySem.W.fnOf "is_road" "is_road" (defArgs s_is_road) (defBody s_is_road) (defScope s_is_road) .none kV4 dc4 pm4 an4 cd4 ct4), sl4⟩) (c4 : PySem.W.codeIn K cd4 "is_road" = true) (k4 : PySem.W.keepIn K (.ref f4) = true)
    (a5 : PySem.W.nsIn K mainGlobals "is_hedge" = some (some (.ref f5))) (l5 : K.lookup f5 = some ⟨oc5, od5, .func (PySem.W.fnOf "is_hedge" "is_hedge" (defArgs s_is_hedge) (defBody s_is_hedge) (defScope s_is_hedge) .none kV5 dc5 pm5 an5 cd5 ct5), sl5⟩) (c5 : PySem.W.codeIn K cd5 "is_hedge" = true) (k5 : PySem.W.keepIn K (.ref f5) = true)
    (a6 : PySem.W.nsIn K mainGlobals "_law_draws" = some (some (.ref f6))) (l6 : K.lookup f6 = some ⟨oc6, od6, .func (PySem.W.fnOf "_law_draws" "_law_draws" (defArgs s_law_draws) (defBody s_law_draws) (defScope s_law_draws) .none kV6 dc6 pm6 an6 cd6 ct6), sl6⟩) (c6 : PySem.W.codeIn K cd6 "_law_draws" = true) (k6 : PySem.W.keepIn K (.ref f6) = true)
    (a7 : PySem.W.nsIn K mainGlobals "_law_names" = some (some (.ref f7))) (l7 : K.lookup f7 = some ⟨oc7, od7, .func (PySem.W.fnOf "_law_names" "_law_names" (defArgs s_law_names) (defBody s_law_names) (defScope s_law_names) .none kV7 dc7 pm7 an7 cd7 ct7), sl7⟩) (c7 : PySem.W.codeIn K cd7 "_law_names" = true) (k7 : PySem.W.keepIn K (.ref f7) = true)
    (a8 : PySem.W.nsIn K mainGlobals "_law_web" = some (some (.ref f8))) (l8 : K.lookup f8 = some ⟨oc8, od8, .func (PySem.W.fnOf "_law_web" "_law_web" (defArgs s_law_web) (defBody s_law_web) (defScope s_law_web) .none kV8 dc8 pm8 an8 cd8 ct8), sl8⟩) (c8 : PySem.W.codeIn K cd8 "_law_web" = true) (k8 : PySem.W.keepIn K (.ref f8) = true)
    (a9 : PySem.W.nsIn K mainGlobals "_law_up" = some (some (.ref f9))) (l9 : K.lookup f9 = some ⟨oc9, od9, .func (PySem.W.fnOf "_law_up" "_law_up" (defArgs s_law_up) (defBody s_law_up) (defScope s_law_up) .none kV9 dc9 pm9 an9 cd9 ct9), sl9⟩) (c9 : PySem.W.codeIn K cd9 "_law_up" = true) (k9 : PySem.W.keepIn K (.ref f9) = true)
    (a10 : PySem.W.nsIn K mainGlobals "_law_way" = some (some (.ref f10))) (l10 : K.lookup f10 = some ⟨oc10, od10, .func (PySem.W.fnOf "_law_way" "_law_way" (defArgs s_law_way) (defBody s_law_way) (defScope s_law_way) .none kV10 dc10 pm10 an10 cd10 ct10), sl10⟩) (c10 : PySem.W.codeIn K cd10 "_law_way" = true) (k10 : PySem.W.keepIn K (.ref f10) = true)
    (a11 : PySem.W.nsIn K mainGlobals "_law_spoilt" = some (some (.ref f11))) (l11 : K.lookup f11 = some ⟨oc11, od11, .func (PySem.W.fnOf "_law_spoilt" "_law_spoilt" (defArgs s_law_spoilt) (defBody s_law_spoilt) (defScope s_law_spoilt) .none kV11 dc11 pm11 an11 cd11 ct11), sl11⟩) (c11 : PySem.W.codeIn K cd11 "_law_spoilt" = true) (k11 : PySem.W.keepIn K (.ref f11) = true)
    (a12 : PySem.W.nsIn K mainGlobals "_law_is_road" = some (some (.ref f12))) (l12 : K.lookup f12 = some ⟨oc12, od12, .func (PySem.W.fnOf "_law_is_road" "_law_is_road" (defArgs s_law_is_road) (defBody s_law_is_road) (defScope s_law_is_road) .none kV12 dc12 pm12 an12 cd12 ct12), sl12⟩) (c12 : PySem.W.codeIn K cd12 "_law_is_road" = true) (k12 : PySem.W.keepIn K (.ref f12) = true)
    (a13 : PySem.W.nsIn K mainGlobals "_law_is_hedge" = some (some (.ref f13))) (l13 : K.lookup f13 = some ⟨oc13, od13, .func (PySem.W.fnOf "_law_is_hedge" "_law_is_hedge" (defArgs s_law_is_hedge) (defBody s_law_is_hedge) (defScope s_law_is_hedge) .none kV13 dc13 pm13 an13 cd13 ct13), sl13⟩) (c13 : PySem.W.codeIn K cd13 "_law_is_hedge" = true) (k13 : PySem.W.keepIn K (.ref f13) = true)
    (a14 : PySem.W.nsIn K mainGlobals "_law_is" = some (some (.ref f14))) (l14 : K.lookup f14 = some ⟨oc14, od14, .func (PySem.W.fnOf "_law_is" "_law_is" (defArgs s_law_is) (defBody s_law_is) (defScope s_law_is) .none kV14 dc14 pm14 an14 cd14 ct14), sl14⟩) (c14 : PySem.W.codeIn K cd14 "_law_is" = true) (k14 : PySem.W.keepIn K (.ref f14) = true)
    (a15 : PySem.W.nsIn K mainGlobals "law" = some (some (.ref f15))) (l15 : K.lookup f15 = some ⟨oc15, od15, .func (PySem.W.fnOf "law" "law" (defArgs s_law) (defBody s_law) (defScope s_law) .none kV15 dc15 pm15 an15 cd15 ct15), sl15⟩) (c15 : PySem.W.codeIn K cd15 "law" = true) (k15 : PySem.W.keepIn K (.ref f15) = true)
    (z1 : PySem.W.nsIn K mainGlobals "all" = some none) (z2 : PySem.W.nsIn K mainGlobals "bool" = some none) (z3 : PySem.W.nsIn K mainGlobals "dict" = some none) (z4 : PySem.W.nsIn K mainGlobals "enumerate" = some none) (z5 : PySem.W.nsIn K mainGlobals "isinstance" = some none) (z6 : PySem.W.nsIn K mainGlobals "len" = some none) (z7 : PySem.W.nsIn K mainGlobals "list" = some none) (z8 : PySem.W.nsIn K mainGlobals "min" = some none) (z9 : PySem.W.nsIn K mainGlobals "range" = some none) (z10 : PySem.W.nsIn K mainGlobals "set" = some none) (z11 : PySem.W.nsIn K mainGlobals "str" = some none) (z12 : PySem.W.nsIn K mainGlobals "tuple" = some none) :
    ∃ fd : FuncData, (∀ (s : Shared) (v : Value), BindsTo s fd ⟨[v], []⟩ [("_law_script", v)]) ∧ ∀ base : Heap, K.In base → base.Ns mainGlobals mg → FnOk l.prog w K mg base CX0 4 fa fd ["_law_script"] (spLaw K) := by
  have e := hfa.symm.trans (PySem.W.mg_of X G a15)
  cases e
  have T : Txt mg := ⟨PySem.W.mg_none_of X G z1, PySem.W.mg_none_of X G z2, PySem.W.mg_none_of X G z3, PySem.W.mg_none_of X G z4, PySem.W.mg_none_of X G z5, PySem.W.mg_none_of X G z6, PySem.W.mg_none_of X G z7, PySem.W.mg_none_of X G z8, PySem.W.mg_none_of X G z9, PySem.W.mg_none_of X G z10, PySem.W.mg_none_of X G z11, PySem.W.mg_none_of X G z12⟩
  have F1 := fun_mk (st := s_are_unlike_of) l1 c1 k1
  have b1 := F1.binds (ps := ["known", "things"]) fun _ _ _ _ _ _ us hl => match us, hl with | [_, _], _ => rfl
  have F2 := fun_mk (st := s_names_of) l2 c2 k2
  have b2 := F2.binds (ps := ["web"]) fun _ _ _ _ _ _ us hl => match us, hl with | [_], _ => rfl
  have F3 := fun_mk (st := s_check_kinds) l3 c3 k3
  have b3 := F3.binds (ps := ["web", "names"]) fun _ _ _ _ _ _ us hl => match us, hl with | [_, _], _ => rfl
  have F4 := fun_mk (st := s_is_road) l4 c4 k4
  have b4 := F4.binds (ps := ["web", "kind", "other", "thing"]) fun _ _ _ _ _ _ us hl => match us, hl with | [_, _, _, _], _ => rfl
  have F5 := fun_mk (st := s_is_hedge) l5 c5 k5
  have b5 := F5.binds (ps := ["web", "kind", "other", "thing"]) fun _ _ _ _ _ _ us hl => match us, hl with | [_, _, _, _], _ => rfl
  have F6 := fun_mk (st := s_law_draws) l6 c6 k6
  have b6 := F6.binds (ps := ["_law_script", "_law_many"]) fun _ _ _ _ _ _ us hl => match us, hl with | [_, _], _ => rfl
  have F7 := fun_mk (st := s_law_names) l7 c7 k7
  have b7 := F7.binds (ps := ["_law_many", "_law_cell"]) fun _ _ _ _ _ _ us hl => match us, hl with | [_, _], _ => rfl
  have F8 := fun_mk (st := s_law_web) l8 c8 k8
  have b8 := F8.binds (ps := ["_law_cells", "_law_names_here"]) fun _ _ _ _ _ _ us hl => match us, hl with | [_, _], _ => rfl
  have F9 := fun_mk (st := s_law_up) l9 c9 k9
  have b9 := F9.binds (ps := ["_law_web_here"]) fun _ _ _ _ _ _ us hl => match us, hl with | [_], _ => rfl
  have F10 := fun_mk (st := s_law_way) l10 c10 k10
  have b10 := F10.binds (ps := ["_law_elders_by", "_law_name", "_law_cell"]) fun _ _ _ _ _ _ us hl => match us, hl with | [_, _, _], _ => rfl
  have F11 := fun_mk (st := s_law_spoilt) l11 c11 k11
  have b11 := F11.binds (ps := ["_law_row", "_law_choice", "_law_cell", "_law_name"]) fun _ _ _ _ _ _ us hl => match us, hl with | [_, _, _, _], _ => rfl
  have F12 := fun_mk (st := s_law_is_road) l12 c12 k12
  have b12 := F12.binds (ps := ["_law_elders_by", "_law_kind", "_law_other", "_law_thing"]) fun _ _ _ _ _ _ us hl => match us, hl with | [_, _, _, _], _ => rfl
  have F13 := fun_mk (st := s_law_is_hedge) l13 c13 k13
  have b13 := F13.binds (ps := ["_law_elders_by", "_law_kind", "_law_other", "_law_thing"]) fun _ _ _ _ _ _ us hl => match us, hl with | [_, _, _, _], _ => rfl
  have F14 := fun_mk (st := s_law_is) l14 c14 k14
  have b14 := F14.binds (ps := ["_law_found", "_law_due"]) fun _ _ _ _ _ _ us hl => match us, hl with | [_, _], _ => rfl
  have F15 := fun_mk (st := s_law) l15 c15 k15
  refine ⟨PySem.W.fnOf "law" "law" (defArgs s_law) (defBody s_law) (defScope s_law) .none kV15 dc15 pm15 an15 cd15 ct15, fun s v => .of_eq rfl, fun base _ _ => ?_⟩
  have D_are_unlike_of : Dn l.prog w K mg base "are_unlike_of" ["known", "things"] 1 (spD 2 G_are_unlike_of_k09) := ⟨f1, _, ok_are_unlike_of F1 T , PySem.W.mg_of X G a1, k1, b1⟩
  have D_names_of : Dn l.prog w K mg base "names_of" ["web"] 1 (spD 1 G_names_of) := ⟨f2, _, ok_names_of F2 T , PySem.W.mg_of X G a2, k2, b2⟩
  have D_check_kinds : Dn l.prog w K mg base "check_kinds" ["web", "names"] 2 (spD 2 G_check_kinds) := ⟨f3, _, ok_check_kinds F3 T D_names_of, PySem.W.mg_of X G a3, k3, b3⟩
  have D_is_road : Dn l.prog w K mg base "is_road" ["web", "kind", "other", "thing"] 3 (spD 4 G_is_road_k09) := ⟨f4, _, ok_is_road F4 T D_check_kinds, PySem.W.mg_of X G a4, k4, b4⟩
  have D_is_hedge : Dn l.prog w K mg base "is_hedge" ["web", "kind", "other", "thing"] 3 (spD 4 G_is_hedge_k09) := ⟨f5, _, ok_is_hedge F5 T D_are_unlike_of D_check_kinds D_names_of, PySem.W.mg_of X G a5, k5, b5⟩
  have D_law_draws : Dn l.prog w K mg base "_law_draws" ["_law_script", "_law_many"] 1 (spDraws K) := ⟨f6, _, ok_law_draws F6 T , PySem.W.mg_of X G a6, k6, b6⟩
  have D_law_names : Dn l.prog w K mg base "_law_names" ["_law_many", "_law_cell"] 1 (spD 2 G_law_names) := ⟨f7, _, ok_law_names F7 T , PySem.W.mg_of X G a7, k7, b7⟩
  have D_law_web : Dn l.prog w K mg base "_law_web" ["_law_cells", "_law_names_here"] 1 (spD 2 G_law_net) := ⟨f8, _, ok_law_web F8 T , PySem.W.mg_of X G a8, k8, b8⟩
  have D_law_up : Dn l.prog w K mg base "_law_up" ["_law_web_here"] 1 (spD 1 G_law_up) := ⟨f9, _, ok_law_up F9 T , PySem.W.mg_of X G a9, k9, b9⟩
  have D_law_way : Dn l.prog w K mg base "_law_way" ["_law_elders_by", "_law_name", "_law_cell"] 1 (spD 3 G_law_way) := ⟨f10, _, ok_law_way F10 T , PySem.W.mg_of X G a10, k10, b10⟩
  have D_law_spoilt : Dn l.prog w K mg base "_law_spoilt" ["_law_row", "_law_choice", "_law_cell", "_law_name"] 1 (spD 4 G_law_spoilt) := ⟨f11, _, ok_law_spoilt F11 T , PySem.W.mg_of X G a11, k11, b11⟩
  have D_law_is_road : Dn l.prog w K mg base "_law_is_road" ["_law_elders_by", "_law_kind", "_law_other", "_law_thing"] 1 (spD 4 G_law_is_road) := ⟨f12, _, ok_law_is_road F12 T , PySem.W.mg_of X G a12, k12, b12⟩
  have D_law_is_hedge : Dn l.prog w K mg base "_law_is_hedge" ["_law_elders_by", "_law_kind", "_law_other", "_law_thing"] 1 (spD 4 G_law_is_hedge) := ⟨f13, _, ok_law_is_hedge F13 T , PySem.W.mg_of X G a13, k13, b13⟩
  have D_law_is : Dn l.prog w K mg base "_law_is" ["_law_found", "_law_due"] 1 (spD 2 G_law_is) := ⟨f14, _, ok_law_is F14 T , PySem.W.mg_of X G a14, k14, b14⟩
  exact ok_law F15 T D_law_draws D_law_is D_law_is_hedge D_law_is_road D_law_names D_law_spoilt D_law_up D_law_way D_law_web D_is_hedge D_is_road
theorem walk {l : PySem.W.OpenLaw} {q : Program} {loose : List Str} {XP : (Str → Option Value) → Heap → Prop} {YP : World → Heap → Prop} {d : DefRec} {K : Params → PySem.W.Frag} (hn : l.most = some 63) (hdf : d.params.defaults = [])
    (hY : ∀ (w : World) (h : Heap), YP w h → (K w.params).In h)
    (F : ∀ (w : World) (mg : Str → Option Value) (fa : Addr) (h : Heap), (K w.params).In h → h.Ns mainGlobals mg → mg d.name = some (.ref fa) →
      ∃ fd : FuncData, (∀ (s : Shared) (u : Value), BindsTo s fd ⟨[u], []⟩ [("_law_script", u)]) ∧ ∀ base : Heap, (K w.params).In base → base.Ns mainGlobals mg → FnOk l.prog w (K w.params) mg base CX0 4 fa fd ["_law_script"] (spLaw (K w.params))) :
    PySem.W.WalkO q loose XP YP l.row.toRowW d [] (fun f vs => PySem.call f vs) :=
  L2.walk_of (n := 63) (k := 4) (x := "_law_script") (CX := fun _ => CX0) (sp := fun w => spLaw (K w.params)) hn (by decide) hdf ⟨rfl, by decide, by decide⟩ hY F (fun _ _ a ns hl _ hS => ⟨a, ns, rfl, hS, fun _ => rfl⟩) fun _ _ _ _ _ z => z
end Bc
open PySem PySem.W PyProof.Rows
set_option maxRecDepth 100000 in
set_option maxHeartbeats 0 in
theorem PySem.Challenge.cw_bestcalls_k09_roads_and_hedges_looked_at_holds : PySem.Challenge.rw_bestcalls_k09_roads_and_hedges_looked_at.Holds := by
  w_on; o_law; k_head; (case hw => w_witness2)
  k_fill
  refine Bc.walk (l := PySem.Challenge.rw_bestcalls_k09_roads_and_hedges_looked_at) rfl rfl (fun w h Y => PySem.W.kIn_of Y) ?F
  case F =>
    intro w mg fa h KX G hmg
    refine' Bc.all_mk KX G hmg ?a1 ?l1 ?c1 ?k1 ?a2 ?l2 ?c2 ?k2 ?a3 ?l3 ?c3 ?k3 ?a4 ?l4 ?c4 ?k4 ?a5 ?l5 ?c5 ?k5 ?a6 ?l6 ?c6 ?k6 ?a7 ?l7 ?c7 ?k7 ?a8 ?l8 ?c8 ?k8 ?a9 ?l9 ?c9 ?k9 ?a10 ?l10 ?c10 ?k10 ?a11 ?l11 ?c11 ?k11 ?a12 ?l12 ?c12 ?k12 ?a13 ?l13 ?c13 ?k13 ?a14 ?l14 ?c14 ?k14 ?a15 ?l15 ?c15 ?k15 ?z1 ?z2 ?z3 ?z4 ?z5 ?z6 ?z7 ?z8 ?z9 ?z10 ?z11 ?z12
    (case a1 => k_is)
    (case l1 => k_is)
    (case c1 => k_is)
    (case k1 => k_is)
    (case a2 => k_is)
    (case l2 => k_is)
    (case c2 => k_is)
    (case k2 => k_is)
    (case a3 => k_is)
    (case l3 => k_is)
    (case c3 => k_is)
    (case k3 => k_is)
    (case a4 => k_is)
    (case l4 => k_is)
    (case c4 => k_is)
    (case k4 => k_is)
    (case a5 => k_is)
    (case l5 => k_is)
    (case c5 => k_is)
    (case k5 => k_is)
    (case a6 => k_is)
    (case l6 => k_is)
    (case c6 => k_is)
    (case k6 => k_is)
    (case a7 => k_is)
    (case l7 => k_is)
    (case c7 => k_is)
    (case k7 => k_is)
    (case a8 => k_is)
    (case l8 => k_is)
    (case c8 => k_is)
    (case k8 => k_is)
    (case a9 => k_is)
    (case l9 => k_is)
    (case c9 => k_is)
    (case k9 => k_is)
    (case a10 => k_is)
    (case l10 => k_is)
    (case c10 => k_is)
    (case k10 => k_is)
    (case a11 => k_is)
    (case l11 => k_is)
    (case c11 => k_is)
    (case k11 => k_is)
    (case a12 => k_is)
    (case l12 => k_is)
    (case c12 => k_is)
    (case k12 => k_is)
    (case a13 => k_is)
    (case l13 => k_is)
    (case c13 => k_is)
    (case k13 => k_is)
    (case a14 => k_is)
    (case l14 => k_is)
    (case c14 => k_is)
    (case k14 => k_is)
    (case a15 => k_is)
    (case l15 => k_is)
    (case c15 => k_is)
    (case k15 => k_is)
    (case z1 => k_is)
    (case z2 => k_is)
    (case z3 => k_is)
    (case z4 => k_is)
    (case z5 => k_is)
    (case z6 => k_is)
    (case z7 => k_is)
    (case z8 => k_is)
    (case z9 => k_is)
    (case z10 => k_is)
    (case z11 => k_is)
    (case z12 => k_is)

